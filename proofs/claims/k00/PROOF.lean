import PyProof.Rows.All
import Wide.All
import OpenK.AllK
import Wide.FinOn
import HandS.ForSpec
import HandS.Comp
import HandS.Dict
import HandS.DictTup
import HandS.Iter
import HandS.Zip
import HandS.Text
import HandS.StrMore
import HandS.TupAny
import HandS.TupMul
import HandS.SetFor
import HandS.Conv
import HandS.Strs
import HandS.NoneIn
import HandS.FStr
import HandS.IsInst
import HandS.SortInts
import HandS.Flow
import HandS.Gcd
import HandS.WordsDict
import HandS.ExcInit
import HandS.WordsExc
import HandS.Defaults
import HandS.Evl
import HandS.Sort
import KE.GoesEnumKw
import HandS.ListItems
import KE.KDictList
import KE.KMathGC
import HandS.OwnEq
import HandS.MakeKwOnly
import OpenK.KOps
import PyProof.InstNe
import HandS.DictComp
import HandS.DictSub
import PyProof.EqLayable
import HandS.Style
import HandS.Codes
import HandS.HeadHook1
import HandS.HeadHook2
import HandS.HeadEnd
import HandS.Head3
import KE.KStateDown
import HandS.Base
import HandS.Call
import HandS.Ends
import HandS.More
import HandS.Words
import HandS.Head0
import HandS.Head1
import HandS.Head2
import PySem.Challenge.RW_wheneverclear_k00_texts_of_books
set_option Elab.async false
set_option linter.all false
set_option maxRecDepth 100000
set_option maxHeartbeats 0
section
/-! A small language of values, its run, what it says of the machine. -/
namespace Vf
open PySem L2

/-- a value, whole -/
inductive D where
  | non | bl (b : Bool) | int (i : Int) | str (x : Str)
  | tup (xs : List D) | lst (xs : List D)
  | dic (kvs : List (Key × D))
  | obj (k : Nat) (fs : List (Str × D))

/-- a run's end -/
inductive R (α : Type) where
  | ok (a : α)
  | exc (k : Nat) (x : D)
  | stk
def R.bind {α β : Type} (r : R α) (f : α → R β) : R β :=
  match r with
  | .ok a => f a
  | .exc k x => .exc k x
  | .stk => .stk
instance : Monad R where
  pure := .ok
  bind := R.bind
def R.of {α : Type} : Option α → R α
  | some a => .ok a
  | none => .stk
@[simp] theorem R.bind_ok {α β : Type} (a : α) (f : α → R β) : (R.ok a >>= f) = f a := rfl
@[simp] theorem R.bind_exc {α β : Type} (k : Nat) (x : D) (f : α → R β) : (R.exc k x >>= f) = .exc k x := rfl
@[simp] theorem R.bind_stk {α β : Type} (f : α → R β) : (R.stk >>= f) = .stk := rfl
@[simp] theorem R.pure_ok {α : Type} (a : α) : (pure a : R α) = .ok a := rfl
@[simp] theorem R.of_some {α : Type} (a : α) : R.of (some a) = .ok a := rfl
@[simp] theorem R.of_none {α : Type} : R.of (none : Option α) = .stk := rfl

/-- how a slot holds: shared (never written), owned here, the caller's -/
inductive Md where
  | sh | own | ino
  deriving DecidableEq
abbrev Env := List (Option (Md × D))
def getV (env : Env) (i : Nat) : Option (Md × D) := (env[i]?).join

inductive Cn where
  | non | bl (b : Bool) | int (i : Int) | str (x : Str)
  deriving DecidableEq
def Cn.d : Cn → D
  | .non => .non
  | .bl b => .bl b
  | .int i => .int i
  | .str x => .str x
inductive Ty where
  | int | str | bool | tuple | list | dict | cls (k n : Nat)
inductive U1 where
  | neg | len | int | str | abs | sum | all | any | sorted | tuple | list | lrng | isN | notN | isdec | max1 | min1 | upper | lvals | dkeys
inductive B2 where
  | add | sub | mul | fdiv | mod | pow | eq | ne | lt | le | gt | ge | inn | nin | idx | max2 | min2 | gcd | join | split | part | rmpre | lrng2 | lcm
inductive Pat where
  | nm (i : Nat) | skip (i : Nat) | tp2 (a b : Pat) | tp3 (a b c : Pat)
inductive IK where
  | val | rng1 | rng2 | zip | enum | enumK | items
mutual
inductive E where
  | nop
  | var (i : Nat)
  | fld (i : Nat) (f : Str)
  | con (c : Cn)
  | glo (x : Str) (c : Cn)
  | un (o : U1) (a : E)
  | not (a : E)
  | mt0 (o : U1) (a : E)
  | mt1 (o : B2) (a b : E)
  | bi (o : B2) (a b : E)
  | ch (o o' : B2) (a b c : E)
  | and (a b : E)
  | or (a b : E)
  | ite (t a b : E)
  | slc (a lo hi : E)
  | tup (es : Es)
  | lst (es : Es)
  | dic (ks : List Str) (es : Es)
  | att (a : E) (k : Nat) (f : Str)
  | ist (a : E) (t : Ty)
  | call (f : Nat) (es : Es) (kw : List Str)
  | cal1 (f : Nat) (e : E)
  | callK (f : Nat) (es es2 : Es) (ks : List Str) (pm : List Nat)
  | mk (k : Nat) (es : Es) (kw : List Str)
  | cmo (ne : Bool) (k n : Nat) (a b : E)
  | leno (k : Nat) (a : E)
  | hold (a : E)
  | prop (i j : Nat) (own : List (Str × Nat))
  | dcm (k : IK) (a b : E) (p : Pat) (cnd ke ve : E) (own : List (Str × Nat))
  | pop (i : Nat) (a : E)
  | lc (k : IK) (a b : E) (p : Pat) (cnd elt : E) (own : List (Str × Nat))
  | fst (es : Es)
inductive Es where
  | nil
  | cons (e : E) (r : Es)
end

/-! ### what the operations tell -/
def dtruth : D → Option Bool
  | .non => some false
  | .bl b => some b
  | .int i => some (i != 0)
  | .str x => if x.length ≤ sizeLine then some ((x.length : Int) != 0) else none
  | .tup xs => some (!xs.isEmpty)
  | .lst xs => some (!xs.isEmpty)
  | .dic xs => some (!xs.isEmpty)
  | .obj _ _ => none
def intsD : List D → Option (List Int)
  | [] => some []
  | .int i :: r => (intsD r).map (i :: ·)
  | _ :: _ => none
def boolsD : List D → Option (List Bool)
  | [] => some []
  | .bl i :: r => (boolsD r).map (i :: ·)
  | _ :: _ => none
def strsD : List D → Option (List Str)
  | [] => some []
  | .str i :: r => (strsD r).map (i :: ·)
  | _ :: _ => none
def flatD : D → Bool
  | .non => true
  | .bl _ => true
  | .int _ => true
  | .str _ => true
  | _ => false
def eqF : D → D → Bool
  | .non, .non => true
  | .bl a, .bl b => a == b
  | .bl a, .int b => (if a then 1 else 0) == b
  | .int a, .bl b => a == (if b then 1 else 0)
  | .int a, .int b => a == b
  | .str a, .str b => a == b
  | _, _ => false
mutual
def toP : D → Option PyData
  | .non => some .none
  | .bl b => some (.bool b)
  | .int i => some (.int i)
  | .str x => some (.str x)
  | .tup xs => (toPs xs).map .tuple
  | .lst xs => (toPs xs).map .list
  | .dic _ => none
  | .obj _ _ => none
def toPs : List D → Option (List PyData)
  | [] => some []
  | x :: xs => (toP x).bind fun y => (toPs xs).map (y :: ·)
end

def dEq (x y : D) : Option Bool :=
  match toP x, toP y with
  | some a, some b => if SeqAt.shaped a = true ∧ SeqAt.shaped b = true then some (a.eqv b) else none
  | _, _ => none
def valD {κ : Type} [DecidableEq κ] (kvs : List (κ × D)) (k : κ) : Option D := (kvs.find? fun kv => decide (kv.1 = k)).map (·.2)
def putD {κ : Type} [DecidableEq κ] (kvs : List (κ × D)) (k : κ) (v : D) : List (κ × D) :=
  if (kvs.any fun kv => decide (kv.1 = k)) = true then kvs.map (fun kv => if kv.1 = k then (kv.1, v) else kv) else kvs ++ [(k, v)]
def keyD : D → Option Key
  | .int i => some (.inl i)
  | .str x => some (.inr x)
  | _ => none
def kD : Key → D
  | .inl i => .int i
  | .inr x => .str x
abbrev W := Bool × D
def vw (d : D) : Option W := some (false, d)
def fresh (d : D) : Option W := some (true, d)
def ck (p : Prop) [Decidable p] {α : Type} (r : Option α) : Option α := if p then r else none
@[simp] theorem ck_pos {p : Prop} [Decidable p] {α : Type} {r : Option α} (h : p) : ck p r = r := if_pos h
theorem ck_some {p : Prop} [Decidable p] {α : Type} {r : Option α} {a : α} (h : ck p r = some a) : p ∧ r = some a := by
  unfold ck at h
  split at h
  · exact ⟨by assumption, h⟩
  · cases h
def chk (p : Prop) [Decidable p] {α : Type} (r : R α) : R α := if p then r else .stk
@[simp] theorem chk_pos {p : Prop} [Decidable p] {α : Type} {r : R α} (h : p) : chk p r = r := if_pos h
theorem chk_ok {p : Prop} [Decidable p] {α : Type} {r : R α} {a : α} (h : chk p r = .ok a) : p ∧ r = .ok a := by
  unfold chk at h
  split at h
  · exact ⟨by assumption, h⟩
  · cases h
def insS (x : Str) : List Str → List Str
  | [] => [x]
  | y :: r => if y.cps.toList < x.cps.toList then y :: insS x r else x :: y :: r
def sortS : List Str → List Str
  | [] => []
  | x :: r => insS x (sortS r)
def insI (x : Int) : List Int → List Int
  | [] => [x]
  | y :: r => if y < x then y :: insI x r else x :: y :: r
def sortI : List Int → List Int
  | [] => []
  | x :: r => insI x (sortI r)
def rngD (lo : Int) (n : Nat) : List D := (List.range n).map fun (i : Nat) => D.int (lo + Int.ofNat i)
def isT : Ty → D → Option Bool
  | .int, .int _ => some true
  | .int, .bl _ => some true
  | .str, .str _ => some true
  | .bool, .bl _ => some true
  | .tuple, .tup _ => some true
  | .list, .lst _ => some true
  | .dict, .dic _ => some true
  | .cls k n, .obj j _ => if j < n then some (decide (k = j)) else none
  | .cls _ _, _ => some false
  | _, .obj _ _ => none
  | _, _ => some false
def isStrD : D → Bool
  | .str _ => true
  | _ => false
def isNonD : D → Bool
  | .non => true
  | _ => false
def un1 : U1 → D → Option W
  | .neg, .int i => vw (.int (-i))
  | .len, .str x => ck (x.length ≤ sizeLine) (vw (.int x.length))
  | .len, .lst xs => vw (.int xs.length)
  | .len, .tup xs => vw (.int xs.length)
  | .len, .dic xs => vw (.int xs.length)
  | .int, .int i => vw (.int i)
  | .int, .bl b => vw (.int (if b then 1 else 0))
  | .int, .str x => match PySem.intText? x with
    | some n => ck (x.length ≤ 640) (vw (.int n))
    | none => none
  | .str, .int i => ck (i.natAbs.log2 < 1920) (vw (.str (toString i : String)))
  | .abs, .int i => vw (.int (if i < 0 then -i else i))
  | .lvals, .dic kvs => fresh (.lst (kvs.map (·.2)))
  | .dkeys, .dic kvs => vw (.tup (kvs.map fun kv => kD kv.1))
  | .sum, .lst xs => match intsD xs with
    | some ns => vw (.int ns.sum)
    | none => none
  | .all, .lst xs => match boolsD xs with
    | some ns => vw (.bl (ns.all id))
    | none => none
  | .any, .lst xs => match boolsD xs with
    | some ns => vw (.bl (ns.any id))
    | none => none
  | .sorted, .lst xs => match strsD xs with
    | some ss => ck (ss.length < 64) (fresh (.lst ((sortS ss).map .str)))
    | none => match intsD xs with
      | some ns => fresh (.lst ((sortI ns).map .int))
      | none => none
  | .tuple, .lst xs => vw (.tup xs)
  | .tuple, .tup xs => vw (.tup xs)
  | .list, .lst xs => fresh (.lst xs)
  | .list, .tup xs => fresh (.lst xs)
  | .lrng, .int n => ck (-(2 ^ 62) ≤ n ∧ n ≤ sizeLine) (fresh (.lst (rngD 0 n.toNat)))
  | .isN, d => vw (.bl (isNonD d))
  | .notN, d => vw (.bl (!isNonD d))
  | .isdec, .str x => vw (.bl (Txt.isdecimal x))
  | _, _ => none
def bi1 : B2 → D → D → Option W
  | .add, .int i, .int j => vw (.int (i + j))
  | .add, .str x, .str y => ck (x.length + y.length ≤ sizeLine) (vw (.str (x ++ y)))
  | .add, .lst xs, .lst ys => ck (xs.length + ys.length ≤ sizeLine) (fresh (.lst (xs ++ ys)))
  | .add, .tup xs, .tup ys => ck (xs.length + ys.length ≤ sizeLine) (vw (.tup (xs ++ ys)))
  | .sub, .int i, .int j => vw (.int (i - j))
  | .mul, .int i, .int j => ck (i.natAbs < 2 ^ 64 ∨ j.natAbs < 2 ^ 64) (vw (.int (i * j)))
  | .mul, .lst xs, .int k => ck (-(2 ^ 63) ≤ k ∧ k < 2 ^ 63 ∧ xs.length * k.toNat ≤ sizeLine) (fresh (.lst (List.replicate k.toNat xs).flatten))
  | .fdiv, .int i, .int j => ck (j ≠ 0 ∧ j.natAbs < 1073741824) (vw (.int (i.fdiv j)))
  | .mod, .int i, .int j => ck (j ≠ 0) (vw (.int (i.fmod j)))
  | .pow, .int i, .int j => ck (0 ≤ j ∧ j ≤ 1000 ∧ i.natAbs < 2 ^ 4096) (vw (.int (i ^ j.toNat)))
  | .eq, x, y => match dEq x y with
    | some b => vw (.bl b)
    | none => none
  | .ne, x, y => match dEq x y with
    | some b => vw (.bl (!b))
    | none => none
  | .lt, .int i, .int j => vw (.bl (decide (i < j)))
  | .le, .int i, .int j => vw (.bl (decide (i ≤ j)))
  | .gt, .int i, .int j => vw (.bl (decide (j < i)))
  | .ge, .int i, .int j => vw (.bl (decide (j ≤ i)))
  | .lt, .str i, .str j => vw (.bl (decide (i.cps.toList < j.cps.toList)))
  | .inn, x, .lst ys => if flatD x = true ∧ ys.all flatD = true then vw (.bl (ys.any fun y => eqF y x)) else none
  | .inn, x, .tup ys => if flatD x = true ∧ ys.all flatD = true then vw (.bl (ys.any fun y => eqF y x)) else none
  | .nin, x, .lst ys => if flatD x = true ∧ ys.all flatD = true then vw (.bl (!(ys.any fun y => eqF y x))) else none
  | .nin, x, .tup ys => if flatD x = true ∧ ys.all flatD = true then vw (.bl (!(ys.any fun y => eqF y x))) else none
  | .inn, x, .dic kvs => match keyD x with
    | some k => vw (.bl (valD kvs k).isSome)
    | none => none
  | .nin, x, .dic kvs => match keyD x with
    | some k => vw (.bl (!(valD kvs k).isSome))
    | none => none
  | .inn, .str x, .str y => vw (.bl (!(Builtin.Str.occurrences y x 0 y.length 1).isEmpty))
  | .idx, .lst xs, .int i => match atI xs i with
    | some d => vw d
    | none => none
  | .idx, .tup xs, .int i => match atI xs i with
    | some d => vw d
    | none => none
  | .idx, .str x, .int i => match atI x.cps.toList i with
    | some c => ck (x.length ≤ sizeLine) (vw (.str ⟨#[c]⟩))
    | none => none
  | .idx, .dic kvs, k => match keyD k with
    | some k => match valD kvs k with
      | some d => vw d
      | none => none
    | none => none
  | .max2, .int i, .int j => vw (.int (if j > i then j else i))
  | .min2, .int i, .int j => vw (.int (if j < i then j else i))
  | .gcd, .int i, .int j => vw (.int (Int.gcd i j))
  | .lcm, .int i, .int j => ck (i.natAbs < 2 ^ 64 ∧ j.natAbs < 2 ^ 64) (vw (.int (Nat.lcm i.natAbs j.natAbs : Nat)))
  | .join, .str s, .lst xs => match strsD xs with
    | some ss => ck ((ss.map fun x => x.length).sum + ss.length * s.length ≤ 16777216) (vw (.str (Txt.join s ss)))
    | none => none
  | .split, .str a, .str b => ck ((b.length == 0) = false ∧ a.length + 2 ≤ sizeLine) (fresh (.lst ((Txt.split a b).map .str)))
  | .part, .str a, .str b => ck ((b.length == 0) = false ∧ a.length ≤ sizeLine) (vw (.tup [.str (Txt.partition a b).1, .str (Txt.partition a b).2.1, .str (Txt.partition a b).2.2]))
  | .rmpre, .str a, .str b => ck (a.length ≤ sizeLine) (vw (.str (Txt.removeprefix a b)))
  | .lrng2, .int i, .int j => ck (-(2 ^ 62) ≤ i ∧ i < 2 ^ 62 ∧ -(2 ^ 62) ≤ j ∧ j < 2 ^ 62 ∧ (j - i).toNat ≤ sizeLine) (fresh (.lst (rngD i (j - i).toNat)))
  | _, _, _ => none
def cutD {α : Type} (xs : List α) (lo hi : Option Int) : List α := (xs.drop (HT.sIx xs.length 0 lo)).take (HT.sIx xs.length xs.length hi - HT.sIx xs.length 0 lo)
def slc1 (d : D) (lo hi : Option Int) : Option W :=
  match d with
  | .lst xs => fresh (.lst (cutD xs lo hi))
  | .tup xs => vw (.tup (cutD xs lo hi))
  | .str x => ck (x.length ≤ sizeLine) (vw (.str (cutS x lo hi)))
  | _ => none
def att1 (d : D) (k : Nat) (f : Str) : Option W :=
  match d with
  | .obj j fs => if j ≠ k then none else match fs.lookup f with
    | some v => vw v
    | none => none
  | _ => none
/-! ### the run -/
inductive Op where
  | sl (i : Nat) | va (d : D)
def Op.get (env : Env) : Op → Option D
  | .sl i => (getV env i).map (·.2)
  | .va d => some d
/-- an operand: a slot of one's own is read late -/
def opd (e : E) (r : R (W × Env)) (env : Env) : R (Op × Env) :=
  match e with
  | .var i => match getV env i with
    | some (.sh, d) => .ok (.va d, env)
    | some (_, _) => .ok (.sl i, env)
    | none => .stk
  | .fld i _ => match getV env i with
    | some (.sh, d) => .ok (.va d, env)
    | some (_, _) => .ok (.sl i, env)
    | none => .stk
  | _ => r >>= fun p => .ok (.va p.1.2, p.2)
def opB (e : E) (r : R (Op × Env)) (env : Env) : R (Op × Env) :=
  match e with
  | .nop => .ok (.va .non, env)
  | _ => r
def cndB (e : E) (r : R (W × Env)) (env : Env) : R (Bool × Env) :=
  match e with
  | .nop => .ok (true, env)
  | _ => r >>= fun c => R.of (dtruth c.1.2) >>= fun t => .ok (t, c.2)
def pop1 (d k : D) : Option (D × D) :=
  match d, k with
  | .lst xs, .int j => (ixN xs.length j).bind fun n => (xs[n]?).bind fun x => if -(2 ^ 63) ≤ j ∧ j < 2 ^ 63 then some (x, .lst (xs.eraseIdx n)) else none
  | _, _ => none
def isOwnL (p : Option (Md × D)) : Bool :=
  match p with
  | some (.own, .lst _) => true
  | some (.ino, .lst _) => true
  | _ => false
def isOwnD (p : Option (Md × D)) : Bool :=
  match p with
  | some (.own, .dic _) => true
  | some (.ino, .dic _) => true
  | _ => false
def readV (env : Env) (i : Nat) : R (W × Env) :=
  match getV env i with
  | some (.sh, d) => .ok ((false, d), env)
  | some (.own, d) => .ok ((false, d), env.set i (some (.sh, d)))
  | _ => .stk
def part? (e : E) (r : R (W × Env)) (env : Env) : R (Option Int × Env) :=
  match e with
  | .nop => .ok (none, env)
  | _ => r >>= fun p => match p.1.2 with
    | .int i => .ok (some i, p.2)
    | _ => .stk
def bindP : Pat → D → Env → Option Env
  | .nm i, d, env => some (env.set i (some (.sh, d)))
  | .skip i, _, env => some (env.set i none)
  | .tp2 a b, .tup [x, y], env => (bindP a x env).bind fun env1 => bindP b y env1
  | .tp3 a b c, .tup [x, y, z], env => (bindP a x env).bind fun env1 => (bindP b y env1).bind fun env2 => bindP c z env2
  | _, _, _ => none
inductive Src where
  | items (xs : List D) | slot (i : Nat)
def zipD : List D → List D → List D
  | x :: xs, y :: ys => .tup [x, y] :: zipD xs ys
  | _, _ => []
def enumD (i : Int) : List D → List D
  | [] => []
  | x :: xs => .tup [.int i, x] :: enumD (i + 1) xs
def seqD : D → Option (List D)
  | .lst xs => some xs
  | .tup xs => some xs
  | _ => none
def src (k : IK) (p q : Op) (env : Env) : Option Src :=
  match k, p, q with
  | .val, .sl i, _ => if isOwnL (getV env i) = true then some (.slot i) else none
  | .val, .va (.lst xs), _ => some (.items xs)
  | .val, .va (.tup xs), _ => some (.items xs)
  | .val, .va (.str x), _ => some (.items (x.cps.toList.map fun c => D.str ⟨#[c]⟩))
  | .rng1, .va (.int n), _ => ck (-(2 ^ 62) ≤ n ∧ n ≤ sizeLine) (some (.items (rngD 0 n.toNat)))
  | .rng2, .va (.int i), .va (.int j) => ck (-(2 ^ 62) ≤ i ∧ i < 2 ^ 62 ∧ -(2 ^ 62) ≤ j ∧ j < 2 ^ 62 ∧ (j - i).toNat ≤ sizeLine) (some (.items (rngD i (j - i).toNat)))
  | .zip, .va (.lst xs), .va (.lst ys) => some (.items (zipD xs ys))
  | .zip, .va (.tup xs), .va (.tup ys) => some (.items (zipD xs ys))
  | .enum, .va (.lst xs), _ => some (.items (enumD 0 xs))
  | .enum, .va (.tup xs), _ => some (.items (enumD 0 xs))
  | .enumK, .va (.lst xs), .va (.int k) => ck (-(2 ^ 62) ≤ k ∧ k < 2 ^ 62) (some (.items (enumD k xs)))
  | .enumK, .va (.tup xs), .va (.int k) => ck (-(2 ^ 62) ≤ k ∧ k < 2 ^ 62) (some (.items (enumD k xs)))
  | _, _, _ => none
def wipeE (env : Env) : List Nat → Env
  | [] => env
  | v :: vs => (wipeE env vs).set v none
/-- the slots of a comprehension's own names as they were -/
def backE (env0 env : Env) : List Nat → Env
  | [] => env
  | v :: vs => (backE env0 env vs).set v (match getV env0 v with | some (.sh, d) => some (.sh, d) | _ => none)
/-- an error inside a comprehension is out of reach -/
def noexc {α : Type} : R α → R α
  | .exc _ _ => .stk
  | r => r
@[simp] theorem noexc_ok {α : Type} (a : α) : noexc (R.ok a) = .ok a := rfl
/-- the next item, as the source stands now -/
def nxtOf (s : Src) (i : Nat) (env : Env) : Option (Option D) :=
  match s with
  | .items xs => some xs[i]?
  | .slot j => match getV env j with
    | some (_, .lst ds) => some ds[i]?
    | _ => none
def fuelOf : Src → Nat
  | .items xs => xs.length
  | .slot _ => sizeLine
def consO (o : Option D) (r : List D) : List D :=
  match o with
  | some d => d :: r
  | none => r
def lcG (step : D → Env → R (Option D × Env)) (s : Src) : Nat → Nat → Env → R (List D × Env)
  | 0, i, env => match nxtOf s i env with
    | some none => .ok ([], env)
    | _ => .stk
  | n + 1, i, env => match nxtOf s i env with
    | none => .stk
    | some none => .ok ([], env)
    | some (some x) => noexc (step x env) >>= fun p => lcG step s n (i + 1) p.2 >>= fun q => .ok (consO p.1 q.1, q.2)
def lcR (step : D → Env → R (Option D × Env)) (env : Env) (s : Src) : R (List D × Env) := chk (fuelOf s ≤ sizeLine) (lcG step s (fuelOf s) 0 env)
def dcG (step : D → Env → R (Option (Key × D) × Env)) (s : Src) : Nat → Nat → List (Key × D) → Env → R (List (Key × D) × Env)
  | 0, i, acc, env => match nxtOf s i env with
    | some none => .ok (acc, env)
    | _ => .stk
  | n + 1, i, acc, env => match nxtOf s i env with
    | none => .stk
    | some none => .ok (acc, env)
    | some (some x) => noexc (step x env) >>= fun p => match p.1 with
      | some kv => chk (acc.length < sizeLine) (dcG step s n (i + 1) (putD acc kv.1 kv.2) p.2)
      | none => dcG step s n (i + 1) acc p.2
def dcR (step : D → Env → R (Option (Key × D) × Env)) (env : Env) (s : Src) : R (List (Key × D) × Env) := chk (fuelOf s ≤ sizeLine) (dcG step s (fuelOf s) 0 [] env)
def isObj (k : Nat) : D → Bool
  | .obj j _ => decide (j = k)
  | _ => false
def okY (n : Nat) : D → Bool
  | .obj j _ => decide (j < n)
  | _ => true
def blOf : D → Option Bool
  | .bl b => some b
  | _ => none
def lenOf : D → Option Int
  | .int n => if 0 ≤ n ∧ n < 2 ^ 62 then some n else none
  | _ => none
def zipK (ks : List Str) (ds : List D) : List (Key × D) := (ks.zip ds).map fun p => (Sum.inr p.1, p.2)
def mergeD (kvs more : List (Key × D)) : List (Key × D) := more.foldl (fun acc kv => putD acc kv.1 kv.2) kvs
/-- a dict of fractions, each top times what bottom has of its own -/
def propL (bottom : Int) : List (Key × D) → Option (List (Key × D))
  | [] => some []
  | (.inr x, .tup [.int top, .int under]) :: r => if under ≠ 0 ∧ under.natAbs < 1073741824 ∧ (top.natAbs < 2 ^ 64 ∨ (bottom.fdiv under).natAbs < 2 ^ 64) then (propL bottom r).map fun l => (.inr x, .int (top * bottom.fdiv under)) :: l else none
  | _ => none
def propD : Md × D → Md × D → Option D
  | (.sh, .dic kvs), (.sh, .int b) => if kvs.length < sizeLine then (propL b kvs).map fun l => .dic (mergeD [] l) else none
  | _, _ => none
inductive Arg where
  | ino (i : Nat) | va (d : D)
def Arg.get (env : Env) : Arg → Option D
  | .ino i => match getV env i with
    | some (.sh, _) => none
    | some (_, d) => some d
    | none => none
  | .va d => some d
def inoIx : List Arg → List Nat
  | [] => []
  | .ino i :: r => i :: inoIx r
  | .va _ :: r => inoIx r
def getAs (env : Env) : List Arg → Option (List D)
  | [] => some []
  | a :: r => (a.get env).bind fun d => (getAs env r).map (d :: ·)
def backAs (env : Env) : List Arg → List D → Option Env
  | [], [] => some env
  | .va _ :: r, outs => backAs env r outs
  | .ino i :: r, d :: outs => match getV env i with
    | some (m, _) => backAs (env.set i (some (m, d))) r outs
    | none => none
  | _, _ => none
def inoA (e : E) (env : Env) : R (Arg × Env) :=
  match e with
  | .var i => match getV env i with
    | some (.sh, _) => .stk
    | some (_, _) => .ok (.ino i, env)
    | none => .stk
  | _ => .stk
def fmtD : D → Option Str
  | .str x => some x
  | .int i => if i.natAbs.log2 < 1920 then some (toString i : String) else none
  | _ => none
/-- arguments put in the parameters' order -/
def permL {α : Type} (pm : List Nat) (l : List α) : List α := pm.filterMap fun i => l[i]?
/-- the defs, the classes' makings, which parameters are written -/
structure Fs where
  run : Nat → List D → R (W × List D)
  make : Nat → List D → R D
  ino : Nat → List Bool
  eqf : Nat → Option Nat
  lnf : Nat → Option Nat
  run1 : Nat → List D → R (W × List D)
  on : Bool
section
variable (F : Fs)
mutual
def evalE : E → Env → R (W × Env)
  | .nop, _ => .stk
  | .var i, env => readV env i
  | .fld i _, env => readV env i
  | .con c, env => .ok ((false, c.d), env)
  | .glo _ c, env => .ok ((false, c.d), env)
  | .un o a, env => opd a (evalE a env) env >>= fun p => R.of (p.1.get p.2) >>= fun d => R.of (un1 o d) >>= fun r => .ok (r, p.2)
  | .not a, env => evalE a env >>= fun p => R.of (dtruth p.1.2) >>= fun t => .ok ((false, .bl (!t)), p.2)
  | .mt0 o a, env => evalE a env >>= fun p => R.of (un1 o p.1.2) >>= fun r => .ok (r, p.2)
  | .mt1 o a b, env => evalE a env >>= fun p => chk (isStrD p.1.2 = true) (.ok ()) >>= fun _ => opd b (evalE b p.2) p.2 >>= fun q => R.of (q.1.get q.2) >>= fun d' => R.of (bi1 o p.1.2 d') >>= fun r => .ok (r, q.2)
  | .bi o a b, env => opd a (evalE a env) env >>= fun p => opd b (evalE b p.2) p.2 >>= fun q => R.of (p.1.get q.2) >>= fun d => R.of (q.1.get q.2) >>= fun d' => R.of (bi1 o d d') >>= fun r => .ok (r, q.2)
  | .ch o o' a b c, env => opd a (evalE a env) env >>= fun p => opd b (evalE b p.2) p.2 >>= fun q => R.of (p.1.get q.2) >>= fun d => R.of (q.1.get q.2) >>= fun d' => R.of (bi1 o d d') >>= fun r =>
    match r.2 with
    | .bl true => opd c (evalE c q.2) q.2 >>= fun u => R.of (q.1.get u.2) >>= fun d1 => R.of (u.1.get u.2) >>= fun d2 => R.of (bi1 o' d1 d2) >>= fun r' => match r'.2 with
      | .bl b => .ok ((false, .bl b), u.2)
      | _ => .stk
    | .bl false => .ok ((false, .bl false), q.2)
    | _ => .stk
  | .and a b, env => evalE a env >>= fun p => R.of (dtruth p.1.2) >>= fun t => if t = true then evalE b p.2 else .ok ((false, p.1.2), p.2)
  | .or a b, env => evalE a env >>= fun p => R.of (dtruth p.1.2) >>= fun t => if t = true then .ok ((false, p.1.2), p.2) else evalE b p.2
  | .ite t a b, env => evalE t env >>= fun p => R.of (dtruth p.1.2) >>= fun c => if c = true then evalE a p.2 else evalE b p.2
  | .slc a lo hi, env => opd a (evalE a env) env >>= fun p => part? lo (evalE lo p.2) p.2 >>= fun q => part? hi (evalE hi q.2) q.2 >>= fun u => R.of (p.1.get u.2) >>= fun d => R.of (slc1 d q.1 u.1) >>= fun r => .ok (r, u.2)
  | .tup es, env => evalEs es env >>= fun p => chk (p.1.length ≤ sizeLine) (.ok ((false, .tup p.1), p.2))
  | .lst es, env => evalEs es env >>= fun p => chk (p.1.length ≤ sizeLine) (.ok ((true, .lst p.1), p.2))
  | .dic ks es, env => evalEs es env >>= fun p => chk (p.1.length = ks.length ∧ ks.length ≤ 15) (.ok ((true, .dic (mergeD [] (zipK ks p.1))), p.2))
  | .att a k f, env => evalE a env >>= fun p => R.of (att1 p.1.2 k f) >>= fun r => .ok (r, p.2)
  | .ist a t, env => opd a (evalE a env) env >>= fun p => R.of (p.1.get p.2) >>= fun d => R.of (isT t d) >>= fun b => .ok ((false, .bl b), p.2)
  | .call f es kw, env => match kw with
    | [] => evalAs es (F.ino f) env >>= fun p => R.of (getAs p.2 p.1) >>= fun ds => chk (inoIx p.1).Nodup (.ok ()) >>= fun _ => F.run f ds >>= fun r => R.of (backAs p.2 p.1 r.2) >>= fun env' => .ok (r.1, env')
    | _ :: _ => .stk
  | .callK f es es2 ks pm, env => evalEs es env >>= fun p => evalEs es2 p.2 >>= fun q => chk (p.1.length + ks.length = pm.length ∧ q.1.length = ks.length ∧ (permL pm (p.1 ++ q.1)).length = (F.ino f).length ∧ (F.ino f).all (fun b => !b) = true) (.ok ()) >>= fun _ => F.run f (permL pm (p.1 ++ q.1)) >>= fun r => .ok (r.1, q.2)
  | .cal1 f e, env => chk (F.ino f = [true]) (.ok ()) >>= fun _ => evalE e env >>= fun p => chk (p.1.1 = true) (.ok ()) >>= fun _ => F.run f [p.1.2] >>= fun r => chk (r.2.length = 1) (.ok ()) >>= fun _ => .ok (r.1, p.2)
  | .mk k es kw, env => chk (F.on = true) (.ok ()) >>= fun _ => evalEs es env >>= fun p => chk (kw.length = 0 ∨ p.1.length = kw.length) (F.make k p.1) >>= fun d => .ok ((false, d), p.2)
  | .cmo ne k n a b, env => chk (F.on = true) (.ok ()) >>= fun _ => evalE a env >>= fun p => evalE b p.2 >>= fun q => chk (isObj k p.1.2 = true ∧ okY n q.1.2 = true) (R.of (F.eqf k)) >>= fun f => chk (F.ino f = [false, false]) (F.run1 f [p.1.2, q.1.2]) >>= fun r => R.of (blOf r.1.2) >>= fun t => .ok ((false, .bl (if ne = true then !t else t)), q.2)
  | .leno k a, env => chk (F.on = true) (.ok ()) >>= fun _ => evalE a env >>= fun p => chk (isObj k p.1.2 = true) (R.of (F.lnf k)) >>= fun f => chk (F.ino f = [false]) (F.run1 f [p.1.2]) >>= fun r => R.of (lenOf r.1.2) >>= fun t => .ok ((false, .int t), p.2)
  | .hold a, env => evalE a env
  | .prop i j _, env => R.of (getV env i) >>= fun p => R.of (getV env j) >>= fun q => R.of (propD p q) >>= fun d => .ok ((true, d), env)
  | .dcm k a b p cnd ke ve own, env => opd a (evalE a env) env >>= fun u => opB b (opd b (evalE b u.2) u.2) u.2 >>= fun v => R.of (src k u.1 v.1 v.2) >>= fun s =>
    dcR (fun x env1 => R.of (bindP p x (wipeE env1 (own.map (·.2)))) >>= fun env2 =>
      cndB cnd (evalE cnd env2) env2 >>= fun c => if c.1 = true then evalE ke c.2 >>= fun r => evalE ve r.2 >>= fun t => R.of (keyD r.1.2) >>= fun kk => .ok (some (kk, t.1.2), backE env1 t.2 (own.map (·.2))) else .ok (none, backE env1 c.2 (own.map (·.2)))) v.2 s >>= fun r =>
    .ok ((true, .dic r.1), r.2)
  | .pop i a, env => chk (isOwnL (getV env i) = true) (.ok ()) >>= fun _ => opd a (evalE a env) env >>= fun p => R.of (p.1.get p.2) >>= fun d => R.of (getV p.2 i) >>= fun q => chk (q.1 ≠ .sh) (.ok ()) >>= fun _ => R.of (pop1 q.2 d) >>= fun r => .ok ((false, r.1), p.2.set i (some (q.1, r.2)))
  | .lc k a b p cnd elt own, env => opd a (evalE a env) env >>= fun u => opB b (opd b (evalE b u.2) u.2) u.2 >>= fun v => R.of (src k u.1 v.1 v.2) >>= fun s =>
    lcR (fun x env1 => R.of (bindP p x (wipeE env1 (own.map (·.2)))) >>= fun env2 =>
      cndB cnd (evalE cnd env2) env2 >>= fun c => if c.1 = true then evalE elt c.2 >>= fun r => .ok (some r.1.2, backE env1 r.2 (own.map (·.2))) else .ok (none, backE env1 c.2 (own.map (·.2)))) v.2 s >>= fun r =>
    .ok ((true, .lst r.1), r.2)
  | .fst es, env => evalFs es Str.empty env >>= fun p => .ok ((false, .str p.1), p.2)
def evalEs : Es → Env → R (List D × Env)
  | .nil, env => .ok ([], env)
  | .cons e r, env => evalE e env >>= fun p => evalEs r p.2 >>= fun q => .ok (p.1.2 :: q.1, q.2)
def evalFs : Es → Str → Env → R (Str × Env)
  | .nil, acc, env => .ok (acc, env)
  | .cons e r, acc, env => evalE e env >>= fun p => R.of (fmtD p.1.2) >>= fun x => chk ((acc ++ x).length ≤ sizeLine ∧ x.length ≤ sizeLine) (.ok ()) >>= fun _ => evalFs r (acc ++ x) p.2
def evalAs : Es → List Bool → Env → R (List Arg × Env)
  | .nil, [], env => .ok ([], env)
  | .cons e r, true :: fl, env => inoA e env >>= fun p => evalAs r fl p.2 >>= fun q => .ok (p.1 :: q.1, q.2)
  | .cons e r, false :: fl, env => evalE e env >>= fun p => evalAs r fl p.2 >>= fun q => .ok (.va p.1.2 :: q.1, q.2)
  | _, _, _ => .stk
end
inductive S where
  | nil
  | seq (a r : S)
  | set (i : Nat) (e : E)
  | setP (p : Pat) (e : E)
  | par (i j : Nat) (a b : E)
  | par3 (i j l : Nat) (a b e : E)
  | aug (i : Nat) (o : B2) (e : E)
  | fset (i : Nat) (f : Str) (e : E)
  | fst2 (i j : Nat) (e : E)
  | spans (i x h : Nat)
  | putL (i : Nat) (k e : E)
  | putD (i : Nat) (k e : E)
  | app (i : Nat) (e : E)
  | ext (i : Nat) (e : E)
  | rem (i : Nat) (e : E)
  | del (i : Nat) (k : E)
  | exp (e : E)
  | ret (e : E)
  | retN
  | cond (c : E) (a b : S)
  | whl (c : E) (b : S)
  | forr (k : IK) (a b : E) (p : Pat) (body : S)
  | brk | cnt | pas
  | nev
  | rai (k : Nat) (e : E)
inductive Fl where
  | nx (e : Env) | rt (m : Bool) (d : D) (e : Env) | bk (e : Env) | ct (e : Env)
def forG (step : D → Env → R Fl) (s : Src) : Nat → Nat → Env → R Fl
  | 0, i, env => match nxtOf s i env with
    | some none => .ok (.nx env)
    | _ => .stk
  | n + 1, i, env => match nxtOf s i env with
    | none => .stk
    | some none => .ok (.nx env)
    | some (some x) => step x env >>= fun f => match f with
      | .nx e => forG step s n (i + 1) e
      | .ct e => forG step s n (i + 1) e
      | .bk e => .ok (.nx e)
      | .rt m d e => .ok (.rt m d e)
def forR (step : D → Env → R Fl) (env : Env) (s : Src) : R Fl := forG step s (fuelOf s) 0 env
def whlR (c : Env → R (Bool × Env)) (b : Env → R Fl) : Nat → Env → R Fl
  | 0, _ => .stk
  | n + 1, env => c env >>= fun p => if p.1 = true then b p.2 >>= fun f => match f with
      | .nx e => whlR c b n e
      | .ct e => whlR c b n e
      | .bk e => .ok (.nx e)
      | .rt m d e => .ok (.rt m d e)
    else .ok (.nx p.2)
def whileFuel : Nat := 1048576
/-- a container made here is one's own -/
def modeOf (m : Bool) (d : D) : Md :=
  match m, d with
  | true, .lst _ => .own
  | true, .dic _ => .own
  | _, _ => .sh
def rem1 (xs : List D) (d : D) : Option (List D) :=
  match xs with
  | [] => none
  | x :: r => (dEq x d).bind fun b => if b = true then some r else (rem1 r d).map (x :: ·)
def putL1 (k v d : D) : Option D :=
  match d, k with
  | .lst xs, .int j => (ixN xs.length j).map fun n => .lst (xs.set n v)
  | _, _ => none
def putD1 (k v d : D) : Option D :=
  match d with
  | .dic kvs => (keyD k).bind fun k => if kvs.length < 1000000 then some (.dic (putD kvs k v)) else none
  | _ => none
def mods (env : Env) (i : Nat) (f : D → Option D) : R Fl :=
  R.of (getV env i) >>= fun q => chk (q.1 ≠ .sh) (.ok ()) >>= fun _ => R.of (f q.2) >>= fun d => .ok (.nx (env.set i (some (q.1, d))))
def app1 (x d : D) : Option D :=
  match d with
  | .lst xs => if xs.length < sizeLine then some (.lst (xs ++ [x])) else none
  | _ => none
def ext1 (y d : D) : Option D :=
  match d, y with
  | .lst xs, .lst ys => if xs.length + ys.length ≤ sizeLine then some (.lst (xs ++ ys)) else none
  | _, _ => none
def rem2 (x d : D) : Option D :=
  match d with
  | .lst xs => (rem1 xs x).map .lst
  | _ => none
def del1 (k d : D) : Option D :=
  match d, k with
  | .lst xs, .int j => ck (-(2 ^ 63) ≤ j ∧ j < 2 ^ 63) ((ixN xs.length j).map fun n => .lst (xs.eraseIdx n))
  | _, _ => none
def two : D → Option (D × D)
  | .tup [a, b] => some (a, b)
  | _ => none
/-- ascending hours in runs -/
def stepG (acc : List (List Int)) (h : Int) : List (List Int) :=
  match acc.getLast? with
  | some l => if l.getLast? = some (h - 1) then acc.dropLast ++ [l ++ [h]] else acc ++ [[h]]
  | none => acc ++ [[h]]
def runsG (acc : List (List Int)) (l : List Int) : List (List Int) := l.foldl stepG acc
def spansOf : Option (Md × D) → Option (Md × D) → Option (List D)
  | some (.own, .lst []), some (.sh, .lst hs) => (intsD hs).bind fun ns => if ns.length < 1000000 then some ((runsG [] ns).map fun l => .lst (l.map .int)) else none
  | _, _ => none
def noOwn (env : Env) : Bool := env.all fun
  | none => true
  | some (.sh, _) => true
  | _ => false
def evalS : S → Env → R Fl
  | .nil, env => .ok (.nx env)
  | .seq a r, env => evalS a env >>= fun f => match f with
    | .nx e => evalS r e
    | f => .ok f
  | .set i e, env => evalE F e env >>= fun p => .ok (.nx (p.2.set i (some (modeOf p.1.1 p.1.2, p.1.2))))
  | .setP p e, env => evalE F e env >>= fun q => R.of (bindP p q.1.2 q.2) >>= fun env' => .ok (.nx env')
  | .par i j a b, env => evalE F a env >>= fun p => evalE F b p.2 >>= fun q => .ok (.nx ((q.2.set i (some (modeOf p.1.1 p.1.2, p.1.2))).set j (some (modeOf q.1.1 q.1.2, q.1.2))))
  | .par3 i j l a b e, env => evalE F a env >>= fun p => evalE F b p.2 >>= fun q => evalE F e q.2 >>= fun u => .ok (.nx (((u.2.set i (some (modeOf p.1.1 p.1.2, p.1.2))).set j (some (modeOf q.1.1 q.1.2, q.1.2))).set l (some (modeOf u.1.1 u.1.2, u.1.2))))
  | .aug i o e, env => match getV env i with
    | some (.sh, .int x) => evalE F e env >>= fun p => match p.1.2 with
      | .int y => R.of (bi1 o (.int x) (.int y)) >>= fun r => .ok (.nx (p.2.set i (some (.sh, r.2))))
      | _ => .stk
    | _ => .stk
  | .fset i _ e, env => evalE F e env >>= fun p => .ok (.nx (p.2.set i (some (modeOf p.1.1 p.1.2, p.1.2))))
  | .fst2 i j e, env => evalE F e env >>= fun p => R.of (two p.1.2) >>= fun q => .ok (.nx ((p.2.set i (some (.sh, q.1))).set j (some (.sh, q.2))))
  | .spans i x h, env => chk (noOwn (env.set i none) = true) (R.of (spansOf (getV env i) (getV env h))) >>= fun l => .ok (.nx ((env.set i (some (.own, .lst l))).set x none))
  | .putL i k e, env => chk (isOwnL (getV env i) = true) (.ok ()) >>= fun _ => evalE F e env >>= fun p => evalE F k p.2 >>= fun q => mods q.2 i (putL1 q.1.2 p.1.2)
  | .putD i k e, env => chk (isOwnD (getV env i) = true) (.ok ()) >>= fun _ => evalE F e env >>= fun p => evalE F k p.2 >>= fun q => mods q.2 i (putD1 q.1.2 p.1.2)
  | .app i e, env => chk (isOwnL (getV env i) = true) (.ok ()) >>= fun _ => evalE F e env >>= fun p => mods p.2 i (app1 p.1.2)
  | .ext i e, env => chk (isOwnL (getV env i) = true) (.ok ()) >>= fun _ => evalE F e env >>= fun p => chk (p.1.1 = true) (.ok ()) >>= fun _ => mods p.2 i (ext1 p.1.2)
  | .rem i e, env => chk (isOwnL (getV env i) = true) (.ok ()) >>= fun _ => evalE F e env >>= fun p => mods p.2 i (rem2 p.1.2)
  | .del i k, env => chk (isOwnL (getV env i) = true) (.ok ()) >>= fun _ => evalE F k env >>= fun q => mods q.2 i (del1 q.1.2)
  | .exp e, env => evalE F e env >>= fun p => .ok (.nx p.2)
  | .ret e, env => match e with
    | .var i => match getV env i with
      | some (.own, d) => .ok (.rt true d (env.set i none))
      | some (.sh, d) => .ok (.rt false d env)
      | _ => .stk
    | _ => evalE F e env >>= fun p => .ok (.rt p.1.1 p.1.2 p.2)
  | .retN, env => .ok (.rt false .non env)
  | .cond c a b, env => evalE F c env >>= fun p => R.of (dtruth p.1.2) >>= fun t => if t = true then evalS a p.2 else evalS b p.2
  | .whl c b, env => whlR (fun env => evalE F c env >>= fun p => R.of (dtruth p.1.2) >>= fun t => .ok (t, p.2)) (fun env => evalS b env) whileFuel env
  | .forr k a b p body, env => opd a (evalE F a env) env >>= fun u => opB b (opd b (evalE F b u.2) u.2) u.2 >>= fun v => R.of (src k u.1 v.1 v.2) >>= fun s =>
    forR (fun x env1 => R.of (bindP p x env1) >>= fun env2 => evalS body env2) v.2 s
  | .brk, env => .ok (.bk env)
  | .cnt, env => .ok (.ct env)
  | .pas, env => .ok (.nx env)
  | .nev, _ => .stk
  | .rai k e, env => evalE F e env >>= fun p => .exc k p.1.2
end
/-- a def: how many slots, its parameters (true: written), its body -/
structure Def where
  slots : Nat
  ino : List Bool
  body : S
def outs (env : Env) : List Bool → Nat → Option (List D)
  | [], _ => some []
  | true :: r, i => match getV env i with
    | some (.ino, d) => (outs env r (i + 1)).map (d :: ·)
    | _ => none
  | false :: r, i => outs env r (i + 1)
def env0 (d : Def) (ds : List D) : Env := (d.ino.zip ds).map (fun p => some (if p.1 = true then Md.ino else Md.sh, p.2)) ++ List.replicate (d.slots - ds.length) none
def runDef (F : Fs) (d : Def) (ds : List D) : R (W × List D) :=
  chk (ds.length = d.ino.length) (evalS F d.body (env0 d ds) >>= fun f => match f with
    | .nx e => R.of (outs e d.ino 0) >>= fun o => .ok ((false, .non), o)
    | .rt m x e => R.of (outs e d.ino 0) >>= fun o => .ok ((m, x), o)
    | _ => .stk)
/-- a class: its making: slots of __init__ (self first), parameters, fields in the order of their first stores -/
structure Cls where
  slots : Nat
  pars : Nat
  flds : List Str
  body : S
  eq : Option Nat
  ln : Option Nat
structure Tab where
  defs : List Def
  clss : List Cls
def fieldsOf (env : Env) : Nat → List Str → Option (List (Str × D))
  | _, [] => some []
  | i, f :: r => (getV env i).bind fun p => (fieldsOf env (i + 1) r).map ((f, p.2) :: ·)
def envC (c : Cls) (ds : List D) : Env := none :: (ds.map fun d => some (Md.sh, d)) ++ List.replicate (c.slots - 1 - ds.length + c.flds.length) none
def runCls (F : Fs) (k : Nat) (c : Cls) (ds : List D) : R D :=
  chk (ds.length = c.pars) (evalS F c.body (envC c ds) >>= fun f => match f with
    | .nx e => R.of (fieldsOf e c.slots c.flds) >>= fun fs => .ok (.obj k fs)
    | _ => .stk)
section
variable (T : Tab)
def inoT (f : Nat) : List Bool := match T.defs[f]? with
  | some d => d.ino
  | none => []
def eqT (k : Nat) : Option Nat := (T.clss[k]?).bind (·.eq)
def lnT (k : Nat) : Option Nat := (T.clss[k]?).bind (·.ln)
/-- n levels of calls -/
def fsT : Nat → Fs
  | 0 => ⟨fun _ _ => .stk, fun _ _ => .stk, inoT T, eqT T, lnT T, fun _ _ => .stk, false⟩
  | 1 => ⟨fun f ds => match T.defs[f]? with
      | some d => runDef (fsT 0) d ds
      | none => .stk, fun _ _ => .stk, inoT T, eqT T, lnT T, fun _ _ => .stk, true⟩
  | n + 2 => ⟨fun f ds => match T.defs[f]? with
      | some d => runDef (fsT (n + 1)) d ds
      | none => .stk, fun k ds => match T.clss[k]? with
      | some c => runCls (fsT n) k c ds
      | none => .stk, inoT T, eqT T, lnT T, (fsT (n + 1)).run, true⟩
def call (n : Nat) (f : Nat) (ds : List D) : R (W × List D) := (fsT T n).run f ds
end
end Vf
end
section
namespace Vf
open PySem L2 PyProof.Rows
theorem q_mul_intW (l : Addr) (items : Array Value) (n : Nat) (d : Option Addr) (sl : Array (Option Value)) (x : Int) (t : Tok) (hc0 : ¬(!Builtin.List.listFitsIndex x) = true)
    (hc1 : ¬items.size * x.toNat > (2 ^ 63 - 1) / 8) (hc2 : ¬Builtin.List.listTooLong (items.size * x.toNat) = true) :
    Meets (Builtin.«list.__mul__» ⟨[.ref l, .int x t], []⟩) (fun _ R s => s.heap.get? l = some { cls := .type "list", dict := d, data := .seq items n, slots := sl } ∧ R (.ok (.ret (Value.ref s.heap.objs.size))) { s with heap := s.heap.push { cls := Value.type "list", data := Data.seq (List.foldl (fun x1 x2 => x1 ++ x2) #[] (List.replicate (if items.isEmpty = true then 0 else x.toNat) items)) }, toks := s.toks }) :=
  .of_wp fun prog w A R s h => by
    obtain ⟨hp, g, d, tk, os⟩ := s; obtain ⟨hl, h⟩ := h
    have hsz := AutoListH.joined_fits hc2
    wp_walk; refine wpAny_ite_false (decide_eq_false (Nat.not_lt.mpr hsz)) ?_; wp_walk; exact ⟨_, rfl, h⟩
theorem q_rmul_intW (a : Int) (t : Tok) (l : Addr) (items : Array Value) (n : Nat) (d : Option Addr) (sl : Array (Option Value)) :
    Meets (Builtin.«int.__rmul__» ⟨[.int a t, .ref l], []⟩) (fun _ R s => s.heap.get? l = some { cls := .type "list", dict := d, data := .seq items n, slots := sl } ∧ R (.ok (.ret Value.notImplemented)) s) :=
  .of_wp fun prog w A R s h => by obtain ⟨hp, g, d, tk, os⟩ := s; obtain ⟨hl, h⟩ := h; wp_walk; exact ⟨_, rfl, h⟩
section
variable {X : Cx}
def rCatS (K : PySem.W.Frag) : R2 := fun x y H Q => ∃ l b xs zs, x = .ref l ∧ y = .ref b ∧ SqL K H l xs ∧ SqL K H b zs ∧ xs.length + zs.length ≤ sizeLine ∧ ∀ p, H p = none → Q (.ref p) (upd H p (.lst (xs ++ zs)))
theorem op_catS : OpR X (binaryOp .Add) (rCatS X.K) := by
  intro pins s σ H x y v u Q I rx ry h
  obtain ⟨l, b, xs, zs, rfl, rfl, hH, hB, hz, q⟩ := h
  cases rx
  cases ry
  obtain ⟨its, r, ⟨⟨cls, dd, data, sl⟩, n, ho, hc, hdn, hd⟩, hlen⟩ := I.list hH
  obtain ⟨its2, r2, ⟨⟨cls2, dd2, data2, sl2⟩, n2, ho2, hc2, hdn2, hd2⟩, hlen2⟩ := I.list hB
  simp only at hc hd hc2 hd2
  subst hc hd hc2 hd2
  have z1 := r.length
  have z2 := r2.length
  have e : its.toArray ++ its2.toArray = (its ++ its2).toArray := by simp
  refine concat_meets ⟨_, ho, rfl⟩ ⟨_, ho2, rfl⟩ noFill_list_add seq_list_add PySem.F.slot_list_add PySem.F.entry_list_add (PySem.F.args_list_add_2 _ _) (list_addW l b its.toArray its2.toArray n n2 dd dd2 sl sl2 (by rw [List.size_toArray, List.size_toArray]; omega)) ⟨ho, ho2, ?_⟩
  rw [e]
  exact ⟨.ref _, _, I.lnew (t' := s.toks) (r.append r2) (by rw [List.length_append]; omega), rfl, q _ I.fresh⟩
def rRepS (K : PySem.W.Frag) : R2 := fun x y H Q => ∃ l k xs, x = .ref l ∧ y = .int k ∧ SqL K H l xs ∧ -(2 ^ 63) ≤ k ∧ k < 2 ^ 63 ∧ xs.length * k.toNat ≤ sizeLine ∧
  ∀ p, H p = none → Q (.ref p) (upd H p (.lst (List.replicate k.toNat xs).flatten))
theorem op_repS : OpR X (binaryOp .Mult) (rRepS X.K) := by
  intro pins s σ H x y v u Q I rx ry h
  obtain ⟨l, k, xs, rfl, rfl, hH, h1, h2, hz, q⟩ := h
  cases rx
  obtain ⟨t, rfl⟩ := ry
  obtain ⟨its, r, ⟨⟨cls, dd, data, sl⟩, n, ho, hc, hdn, hd⟩, hlen0⟩ := I.list hH
  simp only at hc hd
  subst hc hd
  have hl := r.length
  have hlen : its.toArray.size * k.toNat ≤ sizeLine := by rw [List.size_toArray, ← hl]; exact hz
  have hcap : ¬ its.toArray.size * k.toNat > (2 ^ 63 - 1) / 8 := by
    have : (sizeLine : Nat) ≤ (2 ^ 63 - 1) / 8 := by decide
    omega
  have hfit : ¬ (!Builtin.List.listFitsIndex k) = true := by
    rw [fitsIndex_both h1 h2]
    exact Bool.false_ne_true
  have hlong : ¬ Builtin.List.listTooLong (its.toArray.size * k.toNat) = true := by
    rw [notLongL hlen]
    exact Bool.false_ne_true
  have hnew : List.foldl (fun x1 x2 => x1 ++ x2) #[] (List.replicate (if its.toArray.isEmpty = true then 0 else k.toNat) its.toArray) = (List.replicate k.toNat its).flatten.toArray := by
    have f0 : ∀ m : Nat, List.foldl (fun x1 x2 => x1 ++ x2) #[] (List.replicate m its.toArray) = (List.replicate m its).flatten.toArray := fun m => by
      have := foldl_rep its m []
      rw [List.nil_append] at this
      exact this
    rw [f0]
    cases its with
    | nil => simp
    | cons a r' => rw [if_neg (by simp)]
  refine wpAny_binaryOp_repeat_ref (T := "list") (U := "int") (by decide) ⟨_, ho, rfl⟩ (fun s' => typeIs_int s' k t) noFill_list_mul F.fills_int_mul F.slot_int_rmul repeat_list F.slot_int_index.lookup
    (call_meets F.slot_int_rmul (typeIs_int s k t) F.entry_int_rmul (F.args_int_rmul_2 _ _) (q_rmul_intW k t l its.toArray n dd sl)
      ⟨ho, rfl, ⟨_, ho, rfl⟩, call_meets F.slot_list_mul ⟨_, ho, rfl⟩ F.entry_list_mul (F.args_list_mul_2 _ _) (q_mul_intW l its.toArray n dd sl k t hfit hcap hlong) ⟨ho, ?_⟩⟩)
  rw [hnew]
  exact ⟨.ref _, _, I.lnew (t' := s.toks) (r.rep k.toNat) (by rw [PyProof.Rows.lm_len_rep_flat, Nat.mul_comm]; exact hz), rfl, q _ I.fresh⟩
end
end Vf
end
section
/-! enumerate over a list or a tuple, from any start. -/
namespace Vf
open PySem PySem.Spec L2
open PyProof.Rows (Call_ boot_enumerate)

/-- enumerate(v): its two new cells -/
theorem meets_en0 {v : Value} {o : Obj} {H : Heap → Prop} (B : Begins v o H) :
    Meets (Builtin.«enumerate.__new__» ⟨[.type "enumerate", v], []⟩) (fun _ R s => H s.heap ∧ R (.ok (.ret (.ref (s.heap.push o).objs.size))) { s with heap := (s.heap.push o).push { cls := .type "enumerate", data := .fields #[.none, .bool false, .ref s.heap.objs.size, rawInt 0, .none, .none] } }) :=
  .of_wp fun prog w A R s h => by
    obtain ⟨hp, g, d, tk, os⟩ := s; obtain ⟨b1, h⟩ := h
    have hsub := sub_enumerate
    have it1 : ∀ {A' : Around} {E : Value → Shared → Prop} {Q : Value → Shared → Prop}, Q (.ref hp.objs.size) ⟨hp.push o, g, d, tk, os⟩ → wpAny (model prog w) A' (pyIter v) Q E ⟨hp, g, d, tk, os⟩ := fun q => B.iter prog w _ _ ⟨hp, g, d, tk, os⟩ _ b1 q
    wp_walk using it1
    refine wpAny_stack_any fun st => wpAny_pure ?_
    split
    · rename_i cl _ _ _ _ _
      cases (cl == Value.type "enumerate")
      · wp_walk using it1
        exact ⟨_, rfl, h⟩
      · wp_walk using it1
        exact ⟨_, rfl, h⟩
    · wp_walk using it1
      exact ⟨_, rfl, h⟩
section
variable {prog : Program} {w : World} {A : Around} {E : Value → Shared → Prop} {s : Shared}
theorem enum_begins0 {v : Value} {o : Obj} {H : Heap → Prop} {Q : Value → Shared → Prop} (B : Begins v o H) (b1 : H s.heap)
    (h : ∀ h', IsEnum h' (s.heap.objs.size + 1) s.heap.objs.size 0 .none → h'.get? s.heap.objs.size = some o → h'.objs.size = s.heap.objs.size + 2 → (∀ b o, s.heap.get? b = some o → h'.get? b = some o) → Q (.ref (s.heap.objs.size + 1)) { s with heap := h' }) :
    wpAny (model prog w) A (PySem.call (Value.type "enumerate") [v]) Q E s := by
  refine callType_new F.called_enumerate (by decide) (F.typeCall_enumerate_1 _) (F.newCall_enumerate_1 _) (fun obj => F.args_object_init_2 obj _) F.entry_enumerate_new (meets_en0 B) ⟨b1, ?_⟩
  have hz : (s.heap.push o).objs.size = s.heap.objs.size + 1 := Heap.size_push _ _
  show _ ∧ _
  rw [hz]
  have en : IsEnum ((s.heap.push o).push { cls := .type "enumerate", data := .fields #[.none, .bool false, .ref s.heap.objs.size, rawInt 0, .none, .none] }) (s.heap.objs.size + 1) s.heap.objs.size 0 .none := by
    have := Heap.get?_push_size (s.heap.push o) (o := { cls := .type "enumerate", data := .fields #[.none, .bool false, .ref s.heap.objs.size, rawInt 0, .none, .none] }) rfl
    rw [hz] at this; exact this
  exact ⟨⟨_, en, rfl⟩, h _ en (Heap.get?_push_of_some _ (Heap.get?_push_size _ B.free)) (by rw [Heap.size_push, hz]) fun b o x => Heap.get?_push_of_some _ (Heap.get?_push_of_some _ x)⟩
end
/-- a list (false), a tuple (true) -/
def SqB (K : PySem.W.Frag) : Bool → Hp → Addr → List V → Prop
  | false => SqL K
  | true => SqT K
def itB : Bool → Heap → Addr → Addr → Nat → Prop
  | false => fun h it a i => h.IsListIter it a i
  | true => fun h it a i => h.IsTupleIter it a i
def sqB : Bool → Heap → Addr → Array Value → Prop
  | false => fun h a its => h.IsList a its
  | true => fun h a its => h.IsTuple a its
theorem draws_B {prog : Program} {w : World} {A : Around} (hh : A.handled = none) (b : Bool) (it l : Addr) (hne : l ≠ it) (items : Array Value) : Draws prog w A it [it, l] items.size (fun i v => items[i]? = some v) (fun i h => itB b h it l i ∧ sqB b h l items) := by
  cases b
  · exact Draws.list hh it l hne items
  · exact Draws.tuple hh it l hne items
theorem itB_keep {h h' : Heap} {b : Bool} {it a : Addr} {i : Nat} (hi : itB b h it a i) (k : ∀ o, h.get? it = some o → h'.get? it = some o) : itB b h' it a i := by
  cases b
  · exact Heap.IsListIter.at hi k
  · exact Heap.IsTupleIter.at hi k
theorem itB_obj {h : Heap} {b : Bool} {it a : Addr} {i : Nat} (hi : itB b h it a i) : ∃ o, h.get? it = some o ∧ ∀ v, o.data ≠ .cell v := by
  cases b
  · obtain ⟨o, ho, hc, hd⟩ := hi
    exact ⟨o, ho, fun v q => by rw [hd] at q; cases q⟩
  · obtain ⟨o, ho, hc, hd⟩ := hi
    exact ⟨o, ho, fun v q => by rw [hd] at q; cases q⟩
theorem draws_end {prog : Program} {w : World} {A : Around} (hh : A.handled = none) (b : Bool) (it l : Addr) (items : Array Value) (n : Nat) (hx : items[n]? = none) : Draws prog w A it [it, l] n (fun _ _ => False) (fun i h => i = n ∧ itB b h it l n ∧ sqB b h l items) where
  live := fun _ _ st => let ⟨o, ho, _⟩ := itB_obj st.2.1; ⟨o, ho⟩
  frame := fun _ h h' st hk => ⟨st.1, itB_keep st.2.1 fun o e => hk it (by simp) o e, by
    have := st.2.2
    cases b
    · exact Heap.IsList.at this fun o e => hk l (by simp) o e
    · exact Heap.IsTuple.at this fun o e => hk l (by simp) o e⟩
  item := fun i s Q E hi st _ => absurd st.1 (Nat.ne_of_lt hi)
  done := fun s Q E st hE => by
    cases b
    · exact wpAny_nextOf_list_end hh st.2.1 st.2.2 hx hE
    · exact wpAny_nextOf_tuple_end hh st.2.1 st.2.2 hx hE
theorem inv_sqB {X : Cx} {pins : List (Addr × Obj)} {σ : L2.St} {H : Hp} {s : Shared} {b : Bool} {a : Addr} {xs : List V} (I : Inv X pins σ H s) (h : SqB X.K b H a xs) : ∃ its : List Value, Vals xs its ∧ sqB b s.heap a its.toArray ∧ xs.length ≤ sizeLine := by
  cases b
  · obtain ⟨its, r, p, z⟩ := I.list h
    exact ⟨its, r, p.isList, z⟩
  · obtain ⟨its, r, p, z⟩ := I.tuple h
    obtain ⟨o, h1, h2, n, h3⟩ := p
    exact ⟨its, r, ⟨o, h1, h2, n, h3⟩, z⟩
theorem vals_inj {xs ys : List V} {its jts : List Value} (r : Vals xs its) (r' : Vals ys jts) (e : its = jts) (h : ∀ (v v' : V) (u : Value), RelV v u → RelV v' u → v = v') : xs = ys := by
  subst e
  induction r generalizing ys with
  | nil => cases r'; rfl
  | cons a _ ih => cases r' with | cons b rr => rw [h _ _ _ a b, ih rr]
theorem relV_inj {v v' : V} {u : Value} (h : RelV v u) (h' : RelV v' u) : v = v' := by
  cases v <;> cases v' <;> simp only [RelV] at h h' <;> first
    | rfl
    | (obtain ⟨t, e⟩ := h; obtain ⟨t', e'⟩ := h'; rw [e] at e'; cases e'; rfl)
    | (obtain ⟨t, e⟩ := h; obtain ⟨t', e'⟩ := h'; rw [e] at e'; cases e'; done)
    | (obtain ⟨t, e⟩ := h; rw [e] at h'; cases h')
    | (obtain ⟨t, e⟩ := h'; rw [e] at h; cases h)
    | (rw [h] at h'; cases h'; rfl)
    | (rw [h] at h'; cases h')
theorem sqB_inj {h : Heap} {b : Bool} {a : Addr} {x y : Array Value} (p : sqB b h a x) (q : sqB b h a y) : x = y := by
  cases b
  · obtain ⟨o, h1, h2, n, h3⟩ := p
    obtain ⟨o', g1, g2, m, g3⟩ := q
    rw [h1] at g1; cases g1
    rw [h3] at g3; cases g3; rfl
  · obtain ⟨o, h1, h2, n, h3⟩ := p
    obtain ⟨o', g1, g2, m, g3⟩ := q
    rw [h1] at g1; cases g1
    rw [h3] at g3; cases g3; rfl
theorem inv_injB {X : Cx} {pins : List (Addr × Obj)} {σ : L2.St} {H : Hp} {s : Shared} {b : Bool} {a : Addr} {xs ys : List V} (I : Inv X pins σ H s) (h : SqB X.K b H a xs) (h' : SqB X.K b H a ys) : xs = ys := by
  obtain ⟨its, r, p, _⟩ := inv_sqB I h
  obtain ⟨jts, r', p', _⟩ := inv_sqB I h'
  exact vals_inj r r' (by simpa using sqB_inj p p') fun v v' u => relV_inj
/-- the list or tuple at a as it stands at each turn, each item in a new pair, counted from k -/
def IteB (K : PySem.W.Frag) (b : Bool) (a : Addr) (k : Int) : It :=
  ⟨fun i H => ∃ (xs : List V) (x : V), SqB K b H a xs ∧ xs[i]? = some x, fun i H v H' => ∃ T x, v = .ref T ∧ H T = none ∧ H' = upd H T (.tup [.int (k + (i : Nat)), x]) ∧ ∀ xs, SqB K b H a xs → xs[i]? = some x, fun i H => ∃ xs : List V, SqB K b H a xs ∧ xs.length ≤ i⟩
theorem en_apart {h : Heap} {e it a : Addr} {c : Int} {old : Value} {b : Bool} {i : Nat} {its : Array Value} (he : IsEnum h e it c old) (hi : itB b h it a i) (hs : sqB b h a its) : e ≠ it ∧ a ≠ it ∧ e ≠ a := by
  have ec : ∃ o, h.get? e = some o ∧ o.cls = .type "enumerate" := ⟨_, he, rfl⟩
  obtain ⟨o, h1, h2⟩ := ec
  cases b
  · obtain ⟨o2, g1, g2, _⟩ := hi
    obtain ⟨o3, k1, k2, _⟩ := hs
    refine ⟨fun z => ?_, fun z => ?_, fun z => ?_⟩ <;> subst z
    · rw [h1] at g1; cases g1; rw [h2] at g2; exact absurd (Value.type.inj g2) (by decide)
    · rw [k1] at g1; cases g1; rw [k2] at g2; exact absurd (Value.type.inj g2) (by decide)
    · rw [h1] at k1; cases k1; rw [h2] at k2; exact absurd (Value.type.inj k2) (by decide)
  · obtain ⟨o2, g1, g2, _⟩ := hi
    obtain ⟨o3, k1, k2, _⟩ := hs
    refine ⟨fun z => ?_, fun z => ?_, fun z => ?_⟩ <;> subst z
    · rw [h1] at g1; cases g1; rw [h2] at g2; exact absurd (Value.type.inj g2) (by decide)
    · rw [k1] at g1; cases g1; rw [k2] at g2; exact absurd (Value.type.inj g2) (by decide)
    · rw [h1] at k1; cases k1; rw [h2] at k2; exact absurd (Value.type.inj k2) (by decide)
theorem turn_enB {P : Program} {w : World} {K : PySem.W.Frag} {elts : List Expr} {kk : Nat} {tpos : Pos} (b : Bool) (a e it : Addr) (k : Int) :
    Turn P w K (.Tuple elts kk tpos) (IteB K b a k) [e, it] e (fun i h => (∃ old, IsEnum h e it (k + (i : Nat)) old) ∧ itB b h it a i ∧ e ≠ it) where
  mem := by simp
  obj := fun i h st c hc => by
    obtain ⟨⟨old, he⟩, hi, _⟩ := st
    rcases (show c = e ∨ c = it by simpa using hc) with z | z
    · rw [z]; exact ⟨_, he, fun v q => nomatch q⟩
    · rw [z]; exact itB_obj hi
  keep := fun i h h' st kp => ⟨⟨st.1.choose, kp e (by simp) _ st.1.choose_spec⟩, itB_keep st.2.1 fun o q => kp it (by simp) o q, st.2.2⟩
  item := by
    intro X hP hw hK hc i pins s σ H E I hf st hg
    subst hP hw hK
    obtain ⟨⟨old, he⟩, hit, hne⟩ := st
    obtain ⟨xs, x, hq, hx⟩ := hg
    obtain ⟨its, rv, p, hz⟩ := inv_sqB I hq
    obtain ⟨u, hu, ru⟩ := rv.get hx
    obtain ⟨n1, n2, n3⟩ := en_apart he hit p
    have hel : e < s.heap.objs.size := Heap.lt_size he
    have hil : it < s.heap.objs.size := by obtain ⟨o, q, _⟩ := itB_obj hit; exact Heap.lt_size q
    have hlt : i < its.toArray.size := by
      have := (List.getElem?_eq_some_iff.mp hu).1
      simpa using this
    refine wpAny_pyNext_enum_itemC (draws_B (A := X.A.in1) (show X.A.in1.handled = none from I.ok.hd hc) b it a n2 its.toArray) he ⟨hit, p⟩ hlt hne (by simp; exact ⟨hne, n3⟩) fun y h' tk hy ho st' hT hsz kp => ?_
    have hyu : y = u := by
      have hy' : its[i]? = some y := by simpa using hy
      rw [hu] at hy'; exact (Option.some.inj hy').symm
    subst hyu
    refine ⟨_, rfl, wpAny_letOwnedTupleGo_enum (s := { s with heap := h', toks := tk + 1 }) ho fun h'' he' sb => ?_⟩
    have hT2 : h''.get? s.heap.objs.size = some { cls := .type "tuple", data := .seq #[.int (k + (i : Nat)) tk, y] } := (sb.2 _ (Nat.ne_of_gt hel)).trans hT
    have new : ObjOk X.prog X.w (upd H s.heap.objs.size (.tup [.int (k + (i : Nat)), x])) h'' s.heap.objs.size (.tup [.int (k + (i : Nat)), x]) := ⟨by show 2 ≤ sizeLine; decide, [.int (k + (i : Nat)) tk, y], .cons ⟨_, rfl⟩ (.cons ru .nil), ⟨_, hT2, rfl, _, rfl⟩⟩
    have I1 : Inv X pins σ (upd H s.heap.objs.size (.tup [.int (k + (i : Nat)), x])) { s with heap := h'', toks := tk + 1 } :=
      I.turnedNew (ch := [e, it]) (fun c ob hb q => (sb.2 c (fun z => hb (by simp [z]))).trans (kp c ob (fun z => hb (by simp [z])) (fun z => hb (by simp [z])) q)) hf (Nat.le_refl _) new
    refine ⟨.ref s.heap.objs.size, _, I1, rfl, ⟨_, x, rfl, I.hok.fresh (Nat.le_refl _), rfl, fun ys hy => by rw [inv_injB I hy hq]; exact hx⟩, ⟨⟨y, ?_⟩, itB_keep st'.1 fun o q => (sb.2 it (Ne.symm hne)).trans q, hne⟩, fun c hc => ?_⟩
    · have e1 : k + ((i + 1 : Nat) : Int) = k + (i : Int) + 1 := by omega
      rw [e1]; exact he'
    · have hc' : c < s.heap.objs.size := by
        rcases (show c = e ∨ c = it by simpa using hc) with z | z
        · rw [z]; exact hel
        · rw [z]; exact hil
      rw [upd_ne (Nat.ne_of_lt hc')]
      exact (hf c hc).1
  done := by
    intro X hP hw hK hc i pins s σ H E I hf st hg
    subst hP hw hK
    obtain ⟨⟨old, he⟩, hit, hne⟩ := st
    obtain ⟨xs, hq, hx⟩ := hg
    obtain ⟨its, rv, p, hz⟩ := inv_sqB I hq
    obtain ⟨f0, f1, f2, f3, f4, f5⟩ := hf it (by simp)
    obtain ⟨n1, n2, n3⟩ := en_apart he hit p
    have hl := rv.length
    have hx' : its.toArray[i]? = none := by simp; omega
    exact wpAny_pyNext_enum_endD (draws_end (A := X.A.in1) (show X.A.in1.handled = none from I.ok.hd hc) b it a its.toArray i hx') he ⟨rfl, hit, p⟩ fun h' eb => ⟨rfl, I.turned (t' := s.toks) (fun c o hb q => eb c o hb q) f0 f1 f3 f4 f5⟩
  self := fun A i s Q E st h => let ⟨⟨_, he⟩, _⟩ := st; wpAny_pyIter_enum he h

section
variable {X : Cx} {elts : List Expr} {kk : Nat} {tpos p pos : Pos} {e x : Expr} {ta tb : TE}
/-- an enumerate's cells, ready to be walked -/
theorem en_ready {pins : List (Addr × Obj)} {σ : L2.St} {H : Hp} {s : Shared} {R : It → Hp → Prop} {b : Bool} {a : Addr} {k : Int} (I : Inv X pins σ H s) (q : R (IteB X.K b a k) H)
    {h' : Heap} (he : IsEnum h' (s.heap.objs.size + 1) s.heap.objs.size k .none) (hit : itB b h' s.heap.objs.size a 0) (hk : ∀ c o, s.heap.get? c = some o → h'.get? c = some o) :
    wpAny (model X.prog X.w) X.A (pyIter (.ref (s.heap.objs.size + 1))) (PIE X pins σ (.Tuple elts kk tpos) R) X.xe { s with heap := h' } := by
  refine wpAny_pyIter_enum he ?_
  have I2 : Inv X pins σ H { s with heap := h' } := I.kept (t' := s.toks) hk
  refine ⟨s.heap.objs.size + 1, [s.heap.objs.size + 1, s.heap.objs.size], _, _, H, rfl, I2, turn_enB b a (s.heap.objs.size + 1) s.heap.objs.size k, ⟨⟨.none, by rw [show k + ((0 : Nat) : Int) = k by omega]; exact he⟩, hit, Nat.succ_ne_self _⟩, fun c hc => ?_, q⟩
  have hle : s.heap.objs.size ≤ c := by
    rcases (show c = s.heap.objs.size + 1 ∨ c = s.heap.objs.size by simpa using hc) with z | z
    · rw [z]; exact Nat.le_add_right _ _
    · rw [z]; exact Nat.le_refl _
  exact I.fpOk hle (I.hok.fresh hle)
/-- what an enumerate is made over -/
theorem begins_B (b : Bool) (a : Addr) (its : Array Value) : ∃ o : Obj, Begins (.ref a) o (fun h => sqB b h a its) ∧ ∀ (h' : Heap) (it : Addr), h'.get? it = some o → itB b h' it a 0 := by
  cases b
  · exact ⟨_, begins_list a its, fun h' it e => ⟨_, e, rfl, rfl⟩⟩
  · exact ⟨_, begins_tuple a its, fun h' it e => ⟨_, e, rfl, rfl⟩⟩
def iEnB (K : PySem.W.Frag) (ta : TA) : TI := fun σ H R => ta σ H fun vs H1 => ∃ b a xs, vs = [.ref a] ∧ SqB K b H1 a xs ∧ R (IteB K b a 0) H1
theorem pi_enB {es : TA} (hg : Gl X "enumerate") (hm : X.mg "enumerate" = none) (ha : PA X [x] es) (hs : starEach [x] X.env = [(false, eval x X.env)] := by rfl) :
    PI X (.Tuple elts kk tpos) (.Call (.Name "enumerate" p) [x] [] pos) (iEnB X.K es) := by
  refine ⟨fun pins s σ H R I h => ?_⟩
  refine Call_ (ld_blt I hg hm boot_enumerate (PyProof.Rows.callWith_type1 (thn (ha.run pos pins s σ H _ I h) fun us s1 ⟨vs, H1, I1, r1, q1⟩ => ?_) hs rfl))
  obtain ⟨b, a, xs, ex, hq, q⟩ := q1
  subst ex
  cases r1 with
  | cons r rr =>
    cases rr
    cases r
    obtain ⟨its, rv, p', hz⟩ := inv_sqB I1 hq
    obtain ⟨o, B, ho⟩ := begins_B b a its.toArray
    exact enum_begins0 B p' fun h' he hit hsz hk => en_ready I1 q he (ho _ _ hit) hk
def iEnK (K : PySem.W.Frag) (ta tk : TA) : TI := fun σ H R => ta σ H fun vs H1 => tk σ H1 fun zs H2 => ∃ b a xs k, vs = [.ref a] ∧ zs = [.int k] ∧ SqB K b H2 a xs ∧ -(2 ^ 63) ≤ k ∧ k < 2 ^ 63 ∧ R (IteB K b a k) H2
theorem keeper_ty (T : String) (h : Heap) : ∃ k, (k = Keeper.frame ∨ k = Keeper.machine ∨ k = Keeper.boundFrame) ∧ PySem.W.Looks (model X.prog X.w) h (keeperOf (.type T)) k :=
  ⟨_, .inr (.inl rfl), PySem.W.Looks.of_pure rfl⟩
theorem kwr (k : Expr) (kp : Pos) (env : PySem.Env) (q : Pos) : (backToKw q (keywordEach [⟨some "start", k, kp⟩] env)).all (·.1.isSome) = true ∧ (backToKw q (keywordEach [⟨some "start", k, kp⟩] env)).filterMap (·.1) = ([Str.ofString "start"] : List Str) ∧ (backToKw q (keywordEach [⟨some "start", k, kp⟩] env)).any (·.1.isNone) = false := ⟨rfl, rfl, rfl⟩
theorem pi_enK {k : Expr} {kp : Pos} {es tk : TA} (hg : Gl X "enumerate") (hm : X.mg "enumerate" = none) (ha : PA X [x] es) (hk : PK X [⟨some "start", k, kp⟩] tk) (hs : starEach [x] X.env = [(false, eval x X.env)] := by rfl) :
    PI X (.Tuple elts kk tpos) (.Call (.Name "enumerate" p) [x] [⟨some "start", k, kp⟩] pos) (iEnK X.K es tk) := by
  refine ⟨fun pins s σ H R I h => ?_⟩
  refine wpAny_Call_Name_kw (ld_blt I hg hm boot_enumerate ?_)
  obtain ⟨w1, w2, w3⟩ := kwr k kp X.env pos
  have hp : ((backTo pos (starEach [x] X.env)).any (·.1) || (backToKw pos (keywordEach [⟨some "start", k, kp⟩] X.env)).any (·.1.isNone)) = false := by rw [w3, hs]; rfl
  refine PySem.W.callWith_of (P := fun _ => True) hp (fun h _ => keeper_ty (X := X) "enumerate" h) ?_
  refine PyProof.Rows.evalArgs_kw2 w1 ?_ (show starEach [x] X.env = (false, eval x X.env) :: starEach [] X.env from hs)
  refine thn (ha.run pos pins s σ H _ I h) fun us s1 ⟨vs, H1, I1, r1, q1⟩ => ?_
  refine thn (hk.run pos pins s1 σ H1 _ I1 q1) fun ws s2 ⟨zs, H2, I2, r2, q2⟩ => ?_
  obtain ⟨b, a, xs, n, ex, ez, hq, n0, n1, q⟩ := q2
  subst ex ez
  cases r1 with
  | cons r rr =>
    cases rr
    cases r
    cases r2 with
    | cons t tt =>
      cases tt
      obtain ⟨tk, t⟩ := t
      subst t
      refine ⟨trivial, ?_⟩
      rw [w2]
      obtain ⟨its, rv, p', hz⟩ := inv_sqB I2 hq
      obtain ⟨o, B, ho⟩ := begins_B b a its.toArray
      exact enum_begins_start B p' n0 n1 fun h' he hit hsz hk => en_ready I2 q he (ho _ _ hit) hk
end
end Vf
end
section
/-! tuple(d), list(d.values()) of a dict; math.lcm. -/
namespace Vf
open PySem PySem.Spec L2
open PyProof.Rows (Call_ callWith_type1 boot_tuple boot_list)
section
variable {prog : Program} {w : World} {A : Around} {E : Value → Shared → Prop} {s : Shared} {T : String} {r d : Addr} {n : Nat} {P : Nat → Value → Prop} {OK : Heap → Prop}
theorem collect_src {Q : List Value → Shared → Prop} (K : PySem.W.KdlSrc prog w T r d n P OK) (hh : A.handled = none) (hok : OK s.heap) (hn : n ≤ sizeLine)
    (hQ : ∀ (h' : Heap) (tk : Nat) (acc : Array Value), (∀ b o, s.heap.get? b = some o → h'.get? b = some o) → ItemsOf P acc n → Q acc.toList { s with heap := h', toks := tk }) : wpAny (model prog w) A (collect (.ref r)) Q E s := by
  unfold collect
  refine wpAny_bind (wpAny_runValue (codeAny_builtin F.entry_proto_collect ?_))
  rw [Around.under_plainId F.plain_proto_collect _]
  show wpAny _ A.in1 (newList [] >>= fun l => again (.builtin "list.__iadd__" ⟨[l, .ref r], []⟩)) _ _ s
  refine wpAny_bind (wpAny_newObj_type ?_)
  refine wpAny_pure ⟨plainId_quiet F.plain_list_iadd _, codeAny_builtin F.entry_list_iadd ?_⟩
  rw [Around.under_plainId F.plain_list_iadd _]
  show wpAny _ A.in1 (Builtin.List.listExtendWith (.ref s.heap.objs.size) (.ref r) (.ref s.heap.objs.size)) _ _ _
  have hS : (s.heap.push { cls := .type "list", data := .seq ([] : List Value).toArray }).get? s.heap.objs.size = some { cls := .type "list", data := .seq #[] 0 } := Heap.get?_push_size _ rfl
  have hlt := K.there _ hok
  refine wpAny_mono (PySem.W.kdl_extend (A := A) (R := fun rr s' => rr = .ok (.ret (.ref s.heap.objs.size)) ∧ ∃ (h' : Heap) (tk : Nat) (acc : Array Value) (c' : Nat), s' = { s with heap := h', toks := tk } ∧ (∀ b o, s.heap.get? b = some o → h'.get? b = some o) ∧ h'.get? s.heap.objs.size = some { cls := .type "list", dict := none, data := .seq acc c', slots := #[] } ∧ ItemsOf P acc n)
    (s := { s with heap := s.heap.push { cls := .type "list", data := .seq ([] : List Value).toArray } }) K hh (K.keep _ _ hok fun b _ o e => Heap.get?_push_of_some _ e) s.heap.objs.size (Nat.ne_of_gt hlt.1) (Nat.ne_of_gt hlt.2) (.ref s.heap.objs.size) 0 hS
    (fun h' tk acc c' hk e hi => ⟨rfl, h', tk, acc, c', rfl, fun b o q => hk b o (Nat.ne_of_lt (Heap.lt_size q)) (Heap.get?_push_of_some _ q), e, hi⟩) hn) (fun fin s' h => ?_) (fun e s' h => ?_)
  · cases fin with
    | done f =>
      obtain ⟨e, h', tk, acc, c', rfl, hk, hS', hi⟩ := h
      cases e
      show wpAny _ A (load s.heap.objs.size >>= _) _ _ _
      exact wpAny_bind (wpAny_load hS' (wpAny_pure (hQ h' tk acc hk hi)))
    | again c' =>
      refine ⟨h.1, codeAny_mono h.2 fun rr s'' hr' => ?_⟩
      obtain ⟨rfl, h', tk, acc, c', rfl, hk, hS', hi⟩ := hr'
      show wpAny _ A (load s.heap.objs.size >>= _) _ _ _
      exact wpAny_bind (wpAny_load hS' (wpAny_pure (hQ h' tk acc hk hi)))
  · exact absurd h.1 (by simp)
theorem call_tuple_src {Q : Value → Shared → Prop} (K : PySem.W.KdlSrc prog w T r d n P OK) (hh : A.handled = none) (hok : OK s.heap) (hn : n ≤ sizeLine)
    (hQ : ∀ (h' : Heap) (tk : Nat) (acc : Array Value), (∀ b o, s.heap.get? b = some o → h'.get? b = some o) → ItemsOf P acc n → Q (.ref h'.objs.size) { s with heap := h'.push { cls := .type "tuple", data := .seq acc }, toks := tk }) :
    wpAny (model prog w) A (PySem.call (.type "tuple") [.ref r]) Q E s := by
  refine callType_codes (Q₁ := fun obj s₁ => s₁.TypeIs obj "tuple" ∧ Q obj s₁) F.called_tuple (F.typeCall_tuple_1 _) F.entry_object_init ?_ fun obj s₁ h₁ => ⟨h₁.1, F.args_object_init_2 obj _, object_init_meets F.called_tuple.init.lookup F.called_tuple.made (by decide) prog w A.in1 _ s₁ ⟨h₁.1, rfl, h₁.2⟩⟩
  refine codeAny_of_tree ?_
  show wpAny _ A.in1.in1 (do checkBuiltinCall "tuple.__new__" ⟨[.type "tuple", .ref r], []⟩; again (.builtin "tuple.__new__" ⟨[.type "tuple", .ref r], []⟩)) _ _ s
  refine wpAny_bind (wpAny_of_eq (F.newCall_tuple_1 _) (wpAny_pure ⟨plainId_quiet F.plain_tuple_new _, codeAny_builtin F.entry_tuple_new ?_⟩))
  rw [Around.under_plainId F.plain_tuple_new _]
  have hsub := sub_tuple_self
  have hinit := init_tuple_lookup
  have hmh := madeHere_tuple
  have hTI : s.TypeIs (.ref r) T := K.type s hok
  have hh1 : A.in1.in1.handled = none := hh
  have nt := K.notTuple
  wp_walk using wpAny_typeOf hTI, collect_src (A := A.in1.in1) K hh1 hok hn
  intro h' tk acc hk hacc
  refine wpAny_bind (wpAny_pure ?_)
  show wpAny _ _ (Builtin.Tuple.tupleExact acc.toList.toArray >>= fun v => ret v) _ _ _
  unfold Builtin.Tuple.tupleExact
  refine wpAny_bind (wpAny_newObj_type ?_ (by show acc.toList.toArray.size ≤ sizeLine; simp only [Array.toArray_toList]; rw [hacc.1]; exact hn))
  refine wpAny_pure ?_
  have e : acc.toList.toArray = acc := by simp
  rw [e]
  exact ⟨⟨_, Heap.get?_push_size _ rfl, rfl⟩, hQ h' tk acc hk hacc⟩
end
section
variable {X : Cx} {a : Expr} {ta : TE}
theorem keys_vals {kvs : List (Key × V)} {vs : List (Key × Value)} {acc : Array Value} (rk : KV kvs vs) (h : ItemsOf (fun i v => ∃ k x, vs[i]? = some (k, x) ∧ keyIs k v = true) acc vs.length) : Vals (kvs.map fun kv => kV kv.1) acc.toList := by
  have hl : kvs.length = vs.length := Paired.length rk
  have el : acc.toList.length = acc.size := by simp
  refine vals_of_at (by rw [List.length_map, el, h.1, hl]) fun j x w h1 h2 => ?_
  obtain ⟨k, y, hky, hi⟩ := h.2 j w (by rw [← Array.getElem?_toList]; exact h2)
  have e1 : (kvs.map (·.1))[j]? = some k := by
    rw [KV.keys rk, List.getElem?_map, hky]; rfl
  have e2 : (kvs.map fun kv => kV kv.1)[j]? = some (kV k) := by
    rw [show (kvs.map fun kv => kV kv.1) = (kvs.map (·.1)).map kV by rw [List.map_map]; rfl, List.getElem?_map, e1]; rfl
  rw [e2] at h1
  cases h1
  exact keyIs_rel hi
/-- tuple(d): its keys -/
def rTupDk : V → Hp → VK → Prop := fun x H Q => ∃ p kvs, x = .ref p ∧ H p = some (.dK kvs) ∧ ∀ q, H q = none → Q (.ref q) (upd H q (.tup (kvs.map fun kv => kV kv.1)))
theorem pe_tupleDk {p pos : Pos} (hc : X.calm = true) (hg : Gl X "tuple") (hm : X.mg "tuple" = none) (ha : PE X a ta) (na : starEach [a] X.env = (false, eval a X.env) :: starEach [] X.env := by rfl) :
    PE X (.Call (.Name "tuple" p) [a] [] pos) (fun σ H Q => ta σ H fun x H1 => rTupDk x H1 Q) := by
  refine ⟨fun pins s σ H Q I h => ?_⟩
  refine Call_ (ld_blt I hg hm boot_tuple (callWith_type1 (one_arg ha I h (fun v s2 x H2 I2 r q => ?_) na) na))
  obtain ⟨d, kvs, rfl, hd, q⟩ := q
  obtain rfl : v = Value.ref d := r
  obtain ⟨z, lo, vs, rk, hdo⟩ := (show ObjOk X.prog X.w H2 s2.heap d (.dK kvs) from I2.hok d _ hd)
  obtain ⟨ep, hat⟩ := hdo.dictAt
  have hl : kvs.length = vs.length := Paired.length rk
  refine call_tuple_src (PySem.W.kdl_dict (knd := mixKind X.prog X.w) (kvs := vs) (ep := ep) lo) (I2.ok.hd hc) hat (by rw [← hl]; exact z) fun h' tk acc hk hacc => ?_
  have I3 : L2.Inv X pins σ H2 { s2 with heap := h', toks := tk } := I2.kept hk
  refine ⟨.ref h'.objs.size, upd H2 h'.objs.size (.tup (kvs.map fun kv => kV kv.1)), I3.laid (t' := tk) (fun c o e => Heap.get?_push_of_some _ e) (Nat.le_refl _) (show ObjOk X.prog X.w _ _ _ (.tup (kvs.map fun kv => kV kv.1)) from ⟨by rw [List.length_map]; exact z, acc.toList, keys_vals rk hacc, ?_⟩), rfl, q _ (I3.hok.fresh (Nat.le_refl _))⟩
  rw [Array.toArray_toList]; exact PyProof.Rows.IsTup.new _ _
/-- list(d.values()) -/
def rListV : V → Hp → VK → Prop := fun x H Q => ∃ p kvs, x = .ref p ∧ H p = some (.dK kvs) ∧ ∀ q, H q = none → Q (.ref q) (upd H q (.lst (kvs.map (·.2))))
theorem vals_snd {kvs : List (Key × V)} {vs : List (Key × Value)} {acc : Array Value} (rk : KV kvs vs) (h : ItemsOf (fun i v => ∃ k, vs[i]? = some (k, v)) acc vs.length) : Vals (kvs.map (·.2)) acc.toList := by
  have hl : kvs.length = vs.length := Paired.length rk
  have el : acc.toList.length = acc.size := by simp
  refine vals_of_at (by rw [List.length_map, el, h.1, hl]) fun j x w h1 h2 => ?_
  obtain ⟨k, hky⟩ := h.2 j w (by rw [← Array.getElem?_toList]; exact h2)
  have hj : j < kvs.length := by have := (List.getElem?_eq_some_iff.mp hky).1; omega
  obtain ⟨u, e2, e3⟩ := kv_get (k := kvs[j].1) (v := kvs[j].2) rk (i := j) (by simp [hj])
  rw [hky] at e2
  cases e2
  rw [List.getElem?_map, List.getElem?_eq_getElem hj] at h1
  cases h1
  exact e3
theorem pe_listVals {e : Expr} {te : TE} {p apos cpos pos : Pos} (hc : X.calm = true) (he : PE X e te) (hg : Gl X "list") (hm : X.mg "list" = none) (hbase : attributeBase e "values" X.env (eval e X.env) = eval e X.env := by rfl) (hline : (apos.endLine == cpos.line) = true := by rfl)
    (hs : starEach [.Call (.Attribute e "values" apos) [] [] cpos] X.env = (false, eval (.Call (.Attribute e "values" apos) [] [] cpos) X.env) :: starEach [] X.env := by rfl) :
    PE X (.Call (.Name "list" p) [.Call (.Attribute e "values" apos) [] [] cpos] [] pos) (fun σ H Q => te σ H fun x H1 => rListV x H1 Q) := by
  refine ⟨fun pins s σ H Q I hq => ?_⟩
  refine wpAny_Call_Name_kw (ld_blt I hg hm boot_list ?_)
  refine callWith_type1 ?_ hs rfl
  rw [hs]
  show wpAny _ _ (spliced ((false, eval (.Call (.Attribute e "values" apos) [] [] cpos) X.env) :: backTo pos (starEach [] X.env))) _ _ s
  refine Calls.spliced_cons ?_
  refine wpAny_Call_method (T := "dict") (id := "dict.values") hbase rfl hline F.plainAttrs_dict F.slot_dict_values F.type_dict_values (thn (he.run pins s σ H _ I hq) fun u s1 ⟨x, H1, I1, rx, d, kvs, ex, hd, q⟩ => ?_)
  subst ex
  obtain rfl : u = Value.ref d := rx
  obtain ⟨hz, hs0, vs, kv, hdo⟩ := (show ObjOk X.prog X.w H1 s1.heap d (.dK kvs) from I1.hok d _ hd)
  obtain ⟨ep, hat⟩ := hdo.dictAt
  have lk : kvs.length = vs.length := Paired.length kv
  have I2 : L2.Inv X pins σ H1 { s1 with heap := s1.heap.push { cls := .type "dict_values", data := .fields #[.ref d] } } := I1.kept (t' := s1.toks) fun b ob q => Heap.get?_push_of_some _ q
  refine ⟨hdo.typeIs, hdo.mapOf.noDict, ?_⟩
  show wpAny _ _ (callWith cpos (.builtin "dict.values") [.ref d] [] []) _ X.xe s1
  refine method_meetsIn F.slot_dict_values F.entry_dict_values rfl (PySem.evalArgs_none ⟨rfl, hdo.typeIs, F.args_dict_values_1 _, _, meets_dict_values (mixKind X.prog X.w) d hs0, ⟨vs, hdo⟩, ?_⟩)
  refine Calls.spliced_nil ?_
  refine PySem.W.kdl_call (PySem.W.kdl_values (knd := mixKind X.prog X.w) (d := d) (kvs := vs) (ep := ep)) (I1.ok.hd hc) ⟨⟨_, Heap.get?_push_size _ rfl, rfl, rfl⟩, hat.push _⟩ (by omega) fun h' tk acc c' hk hS hacc => ?_
  refine ⟨.ref _, upd H1 _ (.lst (kvs.map (·.2))), I2.laid hk (Nat.le_refl _) (show ObjOk X.prog X.w _ _ _ (.lst (kvs.map (·.2))) from ⟨by rw [List.length_map]; exact hz, acc.toList, c', vals_snd kv hacc, ?_⟩), rfl, q _ (I2.hok.fresh (Nat.le_refl _))⟩
  rw [Array.toArray_toList]; exact hS
/-- math.lcm -/
def rLcm : List V → Hp → VK → Prop := fun vs H Q => ∃ a b : Int, vs = [.int a, .int b] ∧ a.natAbs < 2 ^ 64 ∧ b.natAbs < 2 ^ 64 ∧ Q (.int ((Nat.lcm a.natAbs b.natAbs : Nat) : Int)) H
theorem cr_lcm : CallR X (.builtin "math.lcm") rLcm := by
  intro pins s σ H vs us Q I r h
  obtain ⟨a, b, rfl, h1, h2, q⟩ := h
  obtain ⟨t, u, rfl⟩ := Vals.int2 r
  exact PySem.W.mc_lcm h1 h2 fun _ => ⟨.int _, H, I.tok _, ⟨_, rfl⟩, q⟩
end
end Vf
end
section
namespace Vf
open PySem L2

def Ex (H H' : Hp) : Prop := ∀ a o, H a = some o → H' a = some o
theorem Ex.refl (H : Hp) : Ex H H := fun _ _ h => h
theorem Ex.trans {H H1 H2 : Hp} (a : Ex H H1) (b : Ex H1 H2) : Ex H H2 := fun x o h => b x o (a x o h)
theorem Ex.new {H : Hp} {p : Addr} {o : HO} (h : H p = none) : Ex H (upd H p o) := fun a u e => by
  rw [upd_ne (ne_of_none e h)]
  exact e
theorem Ex.none {H H' : Hp} {a : Addr} (e : Ex H H') (h : H' a = none) : H a = none := by
  cases q : H a with
  | none => rfl
  | some o => rw [e a o q] at h; cases h
theorem Ex.rd {H H' : Hp} {a : Addr} {u : HO} (e : Ex H H') (h : Rd H a u) : Rd H' a u := by
  rcases h with h | ⟨o, h⟩
  · exact .inl (e a _ h)
  · exact .inr ⟨o, e a _ h⟩
theorem Ex.sql {K : PySem.W.Frag} {H H' : Hp} {a : Addr} {xs : List V} (e : Ex H H') (h : SqL K H a xs) : SqL K H' a xs := by
  rcases h with h | h
  · exact .inl (e.rd h)
  · exact .inr h
theorem Ex.sqt {K : PySem.W.Frag} {H H' : Hp} {a : Addr} {xs : List V} (e : Ex H H') (h : SqT K H a xs) : SqT K H' a xs := by
  rcases h with h | h
  · exact .inl (e.rd h)
  · exact .inr h

/-- the written part, the classes' addresses -/
structure Kc where
  K : PySem.W.Frag
  cl : Nat → Addr
mutual
inductive Rep (k : Kc) (G : Hp) : V → D → Prop
  | non : Rep k G .non .non
  | bl (b : Bool) : Rep k G (.bl b) (.bl b)
  | int (i : Int) : Rep k G (.int i) (.int i)
  | str (x : Str) : Rep k G (.str x) (.str x)
  | tup {a : Addr} {vs : List V} {ds : List D} : SqT k.K G a vs → Reps k G vs ds → Rep k G (.ref a) (.tup ds)
  | lst {a : Addr} {vs : List V} {ds : List D} : SqL k.K G a vs → Reps k G vs ds → Rep k G (.ref a) (.lst ds)
  | dic {a : Addr} {kvs : List (Key × V)} {kds : List (Key × D)} : G a = some (.dK kvs) → RepK k G kvs kds → Rep k G (.ref a) (.dic kds)
  | obj {a dx : Addr} {fs fs' : List (Str × V)} {j : Nat} {fds : List (Str × D)} : G a = some (.ins (k.cl j) dx fs) → (∀ f, fs.lookup f = fs'.lookup f) → RepF k G fs' fds → Rep k G (.ref a) (.obj j fds)
inductive Reps (k : Kc) (G : Hp) : List V → List D → Prop
  | nil : Reps k G [] []
  | cons {v : V} {d : D} {vs : List V} {ds : List D} : Rep k G v d → Reps k G vs ds → Reps k G (v :: vs) (d :: ds)
inductive RepK (k : Kc) (G : Hp) : List (Key × V) → List (Key × D) → Prop
  | nil : RepK k G [] []
  | cons {x : Key} {v : V} {d : D} {vs : List (Key × V)} {ds : List (Key × D)} : Rep k G v d → RepK k G vs ds → RepK k G ((x, v) :: vs) ((x, d) :: ds)
inductive RepF (k : Kc) (G : Hp) : List (Str × V) → List (Str × D) → Prop
  | nil : RepF k G [] []
  | cons {x : Str} {v : V} {d : D} {vs : List (Str × V)} {ds : List (Str × D)} : Rep k G v d → RepF k G vs ds → RepF k G ((x, v) :: vs) ((x, d) :: ds)
end
section
variable {k : Kc} {G G' H H' : Hp} {v : V} {d : D}
mutual
theorem Rep.mono (e : Ex G G') : ∀ {v : V} {d : D}, Rep k G v d → Rep k G' v d
  | _, _, .non => .non
  | _, _, .bl b => .bl b
  | _, _, .int b => .int b
  | _, _, .str b => .str b
  | _, _, .tup h r => .tup (e.sqt h) (Reps.mono e r)
  | _, _, .lst h r => .lst (e.sql h) (Reps.mono e r)
  | _, _, .dic h r => .dic (e _ _ h) (RepK.mono e r)
  | _, _, .obj h z r => .obj (e _ _ h) z (RepF.mono e r)
theorem Reps.mono (e : Ex G G') : ∀ {v : List V} {d : List D}, Reps k G v d → Reps k G' v d
  | _, _, .nil => .nil
  | _, _, .cons h r => .cons (Rep.mono e h) (Reps.mono e r)
theorem RepK.mono (e : Ex G G') : ∀ {v : List (Key × V)} {d : List (Key × D)}, RepK k G v d → RepK k G' v d
  | _, _, .nil => .nil
  | _, _, .cons h r => .cons (Rep.mono e h) (RepK.mono e r)
theorem RepF.mono (e : Ex G G') : ∀ {v : List (Str × V)} {d : List (Str × D)}, RepF k G v d → RepF k G' v d
  | _, _, .nil => .nil
  | _, _, .cons h r => .cons (Rep.mono e h) (RepF.mono e r)
end
theorem Reps.length : ∀ {vs : List V} {ds : List D}, Reps k G vs ds → vs.length = ds.length
  | _, _, .nil => rfl
  | _, _, .cons _ r => by rw [List.length_cons, List.length_cons, Reps.length r]
theorem Reps.get : ∀ {vs : List V} {ds : List D} {i : Nat} {d : D}, Reps k G vs ds → ds[i]? = some d → ∃ v, vs[i]? = some v ∧ Rep k G v d
  | _, _, _, _, .nil, e => by simp at e
  | _, _, 0, _, .cons h _, e => by simp at e; subst e; exact ⟨_, rfl, h⟩
  | _, _, i + 1, _, .cons _ r, e => by
    obtain ⟨v, e1, h⟩ := Reps.get (i := i) r (by simpa using e)
    exact ⟨v, by simpa using e1, h⟩
theorem Reps.none {vs : List V} {ds : List D} {i : Nat} (r : Reps k G vs ds) (e : ds[i]? = none) : vs[i]? = none := by
  have := r.length
  rw [List.getElem?_eq_none_iff] at e ⊢
  omega
theorem Reps.append : ∀ {vs us : List V} {ds es : List D}, Reps k G vs ds → Reps k G us es → Reps k G (vs ++ us) (ds ++ es)
  | _, _, _, _, .nil, s => s
  | _, _, _, _, .cons h r, s => .cons h (Reps.append r s)
theorem Reps.take : ∀ {vs : List V} {ds : List D} (n : Nat), Reps k G vs ds → Reps k G (vs.take n) (ds.take n)
  | _, _, 0, _ => .nil
  | _, _, _ + 1, .nil => .nil
  | _, _, n + 1, .cons h r => .cons h (Reps.take n r)
theorem Reps.drop : ∀ {vs : List V} {ds : List D} (n : Nat), Reps k G vs ds → Reps k G (vs.drop n) (ds.drop n)
  | _, _, 0, r => r
  | _, _, _ + 1, .nil => .nil
  | _, _, n + 1, .cons h r => Reps.drop n r
theorem Reps.set {v : V} {d : D} (h : Rep k G v d) : ∀ {vs : List V} {ds : List D} (n : Nat), Reps k G vs ds → Reps k G (vs.set n v) (ds.set n d)
  | _, _, _, .nil => .nil
  | _, _, 0, .cons _ r => .cons h r
  | _, _, n + 1, .cons g r => .cons g (Reps.set h n r)
theorem Reps.erase : ∀ {vs : List V} {ds : List D} (n : Nat), Reps k G vs ds → Reps k G (vs.eraseIdx n) (ds.eraseIdx n)
  | _, _, _, .nil => .nil
  | _, _, 0, .cons _ r => r
  | _, _, n + 1, .cons g r => .cons g (Reps.erase n r)
theorem Reps.rep {vs : List V} {ds : List D} (r : Reps k G vs ds) : ∀ n : Nat, Reps k G (List.replicate n vs).flatten (List.replicate n ds).flatten
  | 0 => .nil
  | n + 1 => by
    rw [List.replicate_succ, List.replicate_succ, List.flatten_cons, List.flatten_cons]
    exact r.append (Reps.rep r n)
theorem Rep.i_non {k : Kc} {G : Hp} {v : V} (h : Rep k G v .non) : v = .non := by cases h; rfl
theorem Rep.i_bl {k : Kc} {G : Hp} {v : V} {b : Bool} (h : Rep k G v (.bl b)) : v = .bl b := by cases h; rfl
theorem Rep.i_int {k : Kc} {G : Hp} {v : V} {b : Int} (h : Rep k G v (.int b)) : v = .int b := by cases h; rfl
theorem Rep.i_str {k : Kc} {G : Hp} {v : V} {b : Str} (h : Rep k G v (.str b)) : v = .str b := by cases h; rfl
theorem Reps.inv {v : List V} {d : D} {ds : List D} (h : Reps k G v (d :: ds)) : ∃ u us, v = u :: us ∧ Rep k G u d ∧ Reps k G us ds := by
  cases h with | cons a b => exact ⟨_, _, rfl, a, b⟩
theorem Reps.inv0 {v : List V} (h : Reps k G v []) : v = [] := by cases h; rfl
theorem Reps.ints {vs : List V} {ds : List D} {ns : List Int} (r : Reps k G vs ds) (e : intsD ds = some ns) : vs = ns.map V.int := by
  induction ds generalizing vs ns with
  | nil => rw [r.inv0]; cases e; rfl
  | cons d ds ih =>
    obtain ⟨u, us, rfl, h, r2⟩ := r.inv
    cases d <;> first | cases e; done | skip
    simp only [intsD, Option.map_eq_some_iff] at e
    obtain ⟨m, e1, rfl⟩ := e
    rw [ih r2 e1, h.i_int]; rfl
theorem Reps.bools {vs : List V} {ds : List D} {ns : List Bool} (r : Reps k G vs ds) (e : boolsD ds = some ns) : vs = ns.map V.bl := by
  induction ds generalizing vs ns with
  | nil => rw [r.inv0]; cases e; rfl
  | cons d ds ih =>
    obtain ⟨u, us, rfl, h, r2⟩ := r.inv
    cases d <;> first | cases e; done | skip
    simp only [boolsD, Option.map_eq_some_iff] at e
    obtain ⟨m, e1, rfl⟩ := e
    rw [ih r2 e1, h.i_bl]; rfl
theorem Reps.strs {vs : List V} {ds : List D} {ns : List Str} (r : Reps k G vs ds) (e : strsD ds = some ns) : vs = ns.map V.str := by
  induction ds generalizing vs ns with
  | nil => rw [r.inv0]; cases e; rfl
  | cons d ds ih =>
    obtain ⟨u, us, rfl, h, r2⟩ := r.inv
    cases d <;> first | cases e; done | skip
    simp only [strsD, Option.map_eq_some_iff] at e
    obtain ⟨m, e1, rfl⟩ := e
    rw [ih r2 e1, h.i_str]; rfl
theorem Reps.ofInts : ∀ ns : List Int, Reps k G (ns.map V.int) (ns.map D.int)
  | [] => .nil
  | n :: r => .cons (.int n) (Reps.ofInts r)
theorem Reps.ofStrs : ∀ ns : List Str, Reps k G (ns.map V.str) (ns.map D.str)
  | [] => .nil
  | n :: r => .cons (.str n) (Reps.ofStrs r)
theorem RepK.length : ∀ {vs : List (Key × V)} {ds : List (Key × D)}, RepK k G vs ds → vs.length = ds.length
  | _, _, .nil => rfl
  | _, _, .cons _ r => by rw [List.length_cons, List.length_cons, RepK.length r]
theorem RepK.val {x : Key} : ∀ {vs : List (Key × V)} {ds : List (Key × D)}, RepK k G vs ds → (valD ds x = Option.none ∧ valV vs x = Option.none) ∨ ∃ v d, valD ds x = some d ∧ valV vs x = some v ∧ Rep k G v d
  | _, _, .nil => .inl ⟨rfl, rfl⟩
  | _, _, .cons (x := y) (v := v) (d := d) (vs := vs) (ds := ds) h r => by
    by_cases e : y = x
    · refine .inr ⟨v, d, ?_, ?_, h⟩ <;> simp [valD, valV, e]
    · have e1 : valD ((y, d) :: ds) x = valD ds x := by simp [valD, e]
      have e2 : valV ((y, v) :: vs) x = valV vs x := by simp [valV, e]
      rw [e1, e2]
      exact RepK.val r
theorem RepK.any {x : Key} : ∀ {vs : List (Key × V)} {ds : List (Key × D)}, RepK k G vs ds → (vs.any fun kv => decide (kv.1 = x)) = (ds.any fun kv => decide (kv.1 = x))
  | _, _, .nil => rfl
  | _, _, .cons _ r => by rw [List.any_cons, List.any_cons, RepK.any r]
theorem RepK.map {x : Key} {v : V} {d : D} (h : Rep k G v d) : ∀ {vs : List (Key × V)} {ds : List (Key × D)}, RepK k G vs ds →
    RepK k G (vs.map fun kv => if kv.1 = x then (kv.1, v) else kv) (ds.map fun kv => if kv.1 = x then (kv.1, d) else kv)
  | _, _, .nil => .nil
  | _, _, .cons (x := y) g r => by
    rw [List.map_cons, List.map_cons]
    by_cases e : y = x
    · rw [if_pos e, if_pos e]; exact .cons h (RepK.map h r)
    · rw [if_neg e, if_neg e]; exact .cons g (RepK.map h r)
theorem RepK.append : ∀ {vs us : List (Key × V)} {ds es : List (Key × D)}, RepK k G vs ds → RepK k G us es → RepK k G (vs ++ us) (ds ++ es)
  | _, _, _, _, .nil, s => s
  | _, _, _, _, .cons h r, s => .cons h (RepK.append r s)
theorem RepK.put {x : Key} {v : V} {d : D} (h : Rep k G v d) {vs : List (Key × V)} {ds : List (Key × D)} (r : RepK k G vs ds) : RepK k G (putK vs x v) (putD ds x d) := by
  unfold putK putD
  rw [r.any]
  split
  · exact r.map h
  · exact r.append (.cons h .nil)
theorem RepK.merge {us : List (Key × V)} {es : List (Key × D)} (h : RepK k G us es) : ∀ {vs : List (Key × V)} {ds : List (Key × D)}, RepK k G vs ds → RepK k G (mergeK vs us) (mergeD ds es) := by
  induction es generalizing us with
  | nil => cases h; exact fun s => s
  | cons e es ih =>
    intro vs ds s
    cases h with
    | cons h r => exact ih r (s.put h)
theorem RepK.keys : ∀ {vs : List (Key × V)} {ds : List (Key × D)}, RepK k G vs ds → vs.map (·.1) = ds.map (·.1)
  | _, _, .nil => rfl
  | _, _, .cons _ r => by rw [List.map_cons, List.map_cons, RepK.keys r]
theorem RepF.look {f : Str} : ∀ {vs : List (Str × V)} {ds : List (Str × D)} {d : D}, RepF k G vs ds → ds.lookup f = some d → ∃ v, vs.lookup f = some v ∧ Rep k G v d
  | _, _, _, .nil, e => by cases e
  | _, _, d, .cons (x := y) h r, e => by
    simp only [List.lookup_cons] at e ⊢
    cases q : (f == y) with
    | true => rw [q] at e; cases e; exact ⟨_, rfl, h⟩
    | false => rw [q] at e; exact RepF.look r e
theorem flatV_of {v : V} {d : D} (h : Rep k G v d) (f : flatD d = true) : flatV v = true := by
  cases d <;> first | (cases f; done) | (cases h; rfl)
theorem Reps.flat : ∀ {vs : List V} {ds : List D}, Reps k G vs ds → ds.all flatD = true → vs.all flatV = true
  | _, _, .nil, _ => rfl
  | _, _, .cons h r, e => by
    simp only [List.all_cons, Bool.and_eq_true] at e ⊢
    exact ⟨flatV_of h e.1, Reps.flat r e.2⟩
theorem eqV_of {v u : V} {d e : D} (h : Rep k G v d) (g : Rep k G u e) (f1 : flatD d = true) (f2 : flatD e = true) : eqV v u = eqF d e := by
  cases d <;> first | (cases f1; done) | (cases e <;> first | (cases f2; done) | (cases h; cases g; rfl))
theorem Reps.inV {u : V} {e : D} (g : Rep k G u e) (f2 : flatD e = true) : ∀ {vs : List V} {ds : List D}, Reps k G vs ds → ds.all flatD = true → L2.inV u vs = ds.any fun y => eqF y e
  | _, _, .nil, _ => rfl
  | _, _, .cons h r, f => by
    simp only [List.all_cons, Bool.and_eq_true] at f
    unfold L2.inV
    rw [List.any_cons, List.any_cons, eqV_of h g f.1 f2]
    have := Reps.inV g f2 r f.2
    unfold L2.inV at this
    rw [this]
mutual
theorem Rep.dp (eh : Ex G H) : ∀ {v : V} {p : PyData} (d : D), Rep k G v d → toP d = some p → Dp k.K H v p
  | _, _, .non, h, e => by cases h; cases e; exact .non
  | _, _, .bl b, h, e => by cases h; cases e; exact .bl b
  | _, _, .int b, h, e => by cases h; cases e; exact .int b
  | _, _, .str b, h, e => by cases h; cases e; exact .str b
  | _, _, .tup ds, h, e => by
    simp only [toP, Option.map_eq_some_iff] at e
    obtain ⟨ps, e1, rfl⟩ := e
    cases h with | tup h r => exact .tup (eh.sqt h) (Reps.dp eh ds r e1)
  | _, _, .lst ds, h, e => by
    simp only [toP, Option.map_eq_some_iff] at e
    obtain ⟨ps, e1, rfl⟩ := e
    cases h with | lst h r => exact .lst (eh.sql h) (Reps.dp eh ds r e1)
  | _, _, .dic _, _, e => by simp [toP] at e
  | _, _, .obj _ _, _, e => by simp [toP] at e
theorem Reps.dp (eh : Ex G H) : ∀ {v : List V} {p : List PyData} (d : List D), Reps k G v d → toPs d = some p → DpAll k.K H v p
  | _, _, [], h, e => by cases h; cases e; exact .nil
  | _, _, d :: ds, h, e => by
    simp only [toPs, Option.bind_eq_some_iff, Option.map_eq_some_iff] at e
    obtain ⟨p, e1, ps, e2, rfl⟩ := e
    cases h with | cons h r => exact .cons (Rep.dp eh d h e1) (Reps.dp eh ds r e2)
end
end

/-- a container that may be written: it stands in H alone, its items in G -/
def Own (k : Kc) (G H : Hp) (l : Addr) : D → Prop
  | .lst ds => ∃ vs, H l = some (.lst vs) ∧ Reps k G vs ds
  | .dic ds => ∃ vs, H l = some (.dK vs) ∧ RepK k G vs ds
  | _ => False
/-- read from above: the outermost container in H, all else in G -/
inductive Rep1 (k : Kc) (G H : Hp) : V → D → Prop
  | of {v : V} {d : D} : Rep k G v d → Rep1 k G H v d
  | own {l : Addr} {d : D} : Own k G H l d → Rep1 k G H (.ref l) d
def DGetK (H : Hp) (a : Addr) (kvs : List (Key × V)) : Prop := H a = some (.dK kvs)
section
variable {k : Kc} {G G' H H' : Hp} {v : V} {d : D}
theorem Own.mono (eg : Ex G G') {l : Addr} (eh : H' l = H l) (o : Own k G H l d) : Own k G' H' l d := by
  cases d <;> first | exact False.elim o | skip
  · obtain ⟨vs, h, r⟩ := o; exact ⟨vs, eh.trans h, r.mono eg⟩
  · obtain ⟨vs, h, r⟩ := o; exact ⟨vs, eh.trans h, r.mono eg⟩
theorem Rep1.lst (eh : Ex G H) {ds : List D} (h : Rep1 k G H v (.lst ds)) : ∃ a vs, v = .ref a ∧ SqL k.K H a vs ∧ Reps k G vs ds := by
  cases h with
  | of h => cases h with | lst h r => exact ⟨_, _, rfl, eh.sql h, r⟩
  | own h => obtain ⟨vs, h, r⟩ := h; exact ⟨_, vs, rfl, .inl (.inl h), r⟩
theorem Rep1.dic (eh : Ex G H) {ds : List (Key × D)} (h : Rep1 k G H v (.dic ds)) : ∃ a vs, v = .ref a ∧ H a = some (.dK vs) ∧ RepK k G vs ds := by
  cases h with
  | of h => cases h with | dic h r => exact ⟨_, _, rfl, eh _ _ h, r⟩
  | own h => obtain ⟨vs, h, r⟩ := h; exact ⟨_, vs, rfl, h, r⟩
theorem Rep1.tup (eh : Ex G H) {ds : List D} (h : Rep1 k G H v (.tup ds)) : ∃ a vs, v = .ref a ∧ SqT k.K H a vs ∧ Reps k G vs ds := by
  cases h with
  | of h => cases h with | tup h r => exact ⟨_, _, rfl, eh.sqt h, r⟩
  | own h => exact False.elim h
theorem Rep1.non (h : Rep1 k G H v .non) : v = .non := by
  cases h with
  | of h => cases h; rfl
  | own h => exact False.elim h
theorem Rep1.bl {b : Bool} (h : Rep1 k G H v (.bl b)) : v = .bl b := by
  cases h with
  | of h => cases h; rfl
  | own h => exact False.elim h
theorem Rep1.int {i : Int} (h : Rep1 k G H v (.int i)) : v = .int i := by
  cases h with
  | of h => cases h; rfl
  | own h => exact False.elim h
theorem Rep1.str {x : Str} (h : Rep1 k G H v (.str x)) : v = .str x := by
  cases h with
  | of h => cases h; rfl
  | own h => exact False.elim h
theorem Rep1.rep (h : Rep1 k G H v d) (hf : flatD d = true) : Rep k G v d := by
  cases h with
  | of h => exact h
  | own h => cases d <;> first | (cases hf; done) | exact False.elim h
theorem Rep1.obj {j : Nat} {fds : List (Str × D)} (eh : Ex G H) (h : Rep1 k G H v (.obj j fds)) : ∃ a dx fs fs', v = .ref a ∧ H a = some (.ins (k.cl j) dx fs) ∧ (∀ f, fs.lookup f = fs'.lookup f) ∧ RepF k G fs' fds := by
  cases h with
  | of h => cases h with | obj h z r => exact ⟨_, _, _, _, rfl, eh _ _ h, z, r⟩
  | own h => exact False.elim h
theorem Rep1.dp (eh : Ex G H) {p : PyData} (h : Rep1 k G H v d) (e : toP d = some p) : Dp k.K H v p := by
  cases h with
  | of h => exact h.dp eh _ e
  | own h =>
    cases d <;> first | exact False.elim h | skip
    · obtain ⟨vs, h, r⟩ := h
      simp only [toP, Option.map_eq_some_iff] at e
      obtain ⟨ps, e1, rfl⟩ := e
      exact .lst (.inl (.inl h)) (r.dp eh _ e1)
    · cases e
end

/-- a def's run: where it stands, what it was given -/
structure Cc extends Kc where
  n : Nat
  G0 : Hp
  H0 : Hp
  S : List Addr
  self : Option Addr
  selfC : Addr
  selfD : Addr
  fl : List Str
/-- the value at a slot; behind the names' slots: the fields of the object that is made -/
def loc (c : Cc) (σ : St) (H : Hp) (i : Nat) : Option V :=
  if i < c.n then (σ[i]?).join else
    match c.self with
    | some x => match H x with
      | some (.ins _ _ fs) => (c.fl[i - c.n]?).bind fun f => fs.lookup f
      | _ => none
    | none => none
def SlotOk (c : Cc) (G H : Hp) : Md → V → D → Prop
  | .sh, v, d => Rep c.toKc G v d
  | .own, v, d => ∃ l, v = .ref l ∧ G l = none ∧ c.H0 l = none ∧ Own c.toKc G H l d
  | .ino, v, d => ∃ l, v = .ref l ∧ G l = none ∧ l ∈ c.S ∧ Own c.toKc G H l d
structure Rel (c : Cc) (env : Env) (σ : St) (G H : Hp) : Prop where
  len : σ.length = c.n
  ex : Ex G H
  g0 : Ex c.G0 G
  gfr : ∀ a, G a ≠ none → c.G0 a ≠ none ∨ c.H0 a = none
  fr : ∀ a o, c.H0 a = some o → a ∉ c.S → H a = some o
  sH : ∀ a, a ∈ c.S → H a ≠ none
  slot : ∀ i m d, getV env i = some (m, d) → ∃ v, loc c σ H i = some v ∧ SlotOk c G H m v d
  dist : ∀ i j mi di mj dj l, i ≠ j → getV env i = some (mi, di) → mi ≠ .sh → getV env j = some (mj, dj) → mj ≠ .sh → loc c σ H i = some (.ref l) → loc c σ H j ≠ some (.ref l)
  sf : ∀ x, c.self = some x → G x = none ∧ x ∈ c.S ∧ ∃ fs, H x = some (.ins c.selfC c.selfD fs)
  s0 : ∀ x, c.self = some x → σ[0]? = some (some (.ref x))
  fsok : ∀ x fs, c.self = some x → H x = some (.ins c.selfC c.selfD fs) → (fs.map (·.1)).Nodup ∧ ∀ k ∈ fs.map (·.1), k ∈ c.fl
/-- a slot that may be set -/
def Sl (c : Cc) (i : Nat) : Prop := i < c.n ∧ ∀ x, c.self = some x → i ≠ 0
/-- a value as it comes: made here (in no slot, not in G), or shared -/
def ValOk (c : Cc) (env : Env) (σ : St) (H1 G H : Hp) (m : Bool) (v : V) (d : D) : Prop :=
  if m = true then ∃ l, v = .ref l ∧ H1 l = none ∧ G l = none ∧ c.H0 l = none ∧ Own c.toKc G H l d ∧ ∀ i md d', getV env i = some (md, d') → md ≠ .sh → loc c σ H i ≠ some (.ref l)
  else Rep c.toKc G v d
structure New (k : Kc) (G H G' H' : Hp) (m : Bool) (v : V) (d : D) : Prop where
  hh : Ex H H'
  gg : Ex G G'
  gh : Ex G' H'
  fr : ∀ a, G' a ≠ none → G a ≠ none ∨ H a = none
  val : if m = true then ∃ l, v = .ref l ∧ H l = none ∧ G' l = none ∧ Own k G' H' l d else Rep k G' v d
theorem Own.H {k : Kc} {G H : Hp} {l : Addr} {d : D} (o : Own k G H l d) : (∃ vs, H l = some (.lst vs)) ∨ ∃ vs, H l = some (.dK vs) := by
  cases d <;> first | exact False.elim o | skip
  · obtain ⟨vs, h, _⟩ := o; exact .inl ⟨vs, h⟩
  · obtain ⟨vs, h, _⟩ := o; exact .inr ⟨vs, h⟩
theorem Own.some {k : Kc} {G H : Hp} {l : Addr} {d : D} (o : Own k G H l d) : H l ≠ none := by
  rcases o.H with ⟨vs, h⟩ | ⟨vs, h⟩ <;> rw [h] <;> exact fun z => nomatch z
section
variable {c : Cc} {env : Env} {σ : St} {G H G' H' : Hp} {m : Bool} {v : V} {d : D}
theorem loc_self (h : ∀ x, c.self = some x → H' x = H x) (i : Nat) : loc c σ H' i = loc c σ H i := by
  unfold loc
  split
  · rfl
  · split
    · rename_i x e
      rw [h x e]
    · rfl
theorem Rel.self_ex (R : Rel c env σ G H) (e : Ex H H') : ∀ x, c.self = some x → H' x = H x := fun x q => by
  obtain ⟨_, _, fs, h⟩ := R.sf x q
  rw [h, e _ _ h]
theorem Rel.h0 (R : Rel c env σ G H) {a : Addr} (h : H a = none) : c.H0 a = none := by
  cases q : c.H0 a with
  | none => rfl
  | some o =>
    by_cases hs : a ∈ c.S
    · exact absurd h (R.sH a hs)
    · rw [R.fr a o q hs] at h; cases h
theorem Rel.new (R : Rel c env σ G H) (N : New c.toKc G H G' H' m v d) : Rel c env σ G' H' ∧ ValOk c env σ H G' H' m v d := by
  have hl := loc_self (c := c) (σ := σ) (R.self_ex N.hh)
  have gn : ∀ {l : Addr}, G l = none → H l ≠ none → G' l = none := fun {l} h1 h2 => by
    cases q : G' l with
    | none => rfl
    | some o =>
      rcases N.fr l (by rw [q]; exact fun z => nomatch z) with h | h
      · exact absurd h1 h
      · exact absurd h h2
  have ow : ∀ {l : Addr} {d : D}, Own c.toKc G H l d → Own c.toKc G' H' l d := fun {l d} o => by
    refine o.mono N.gg ?_
    rcases o.H with ⟨vs, h⟩ | ⟨vs, h⟩ <;> rw [h, N.hh _ _ h]
  refine ⟨⟨R.len, N.gh, R.g0.trans N.gg, fun a ha => ?_, fun a o h1 h2 => N.hh _ _ (R.fr a o h1 h2), fun a ha q => R.sH a ha (N.hh.none q), fun i m d e => ?_, fun i j mi di mj dj l ne e1 n1 e2 n2 l1 => ?_, fun x e => ?_, R.s0, fun x fs e h => R.fsok x fs e (by rw [← R.self_ex N.hh x e]; exact h)⟩, ?_⟩
  · rcases N.fr a ha with h | h
    · exact R.gfr a h
    · exact .inr (R.h0 h)
  · obtain ⟨v, h1, h2⟩ := R.slot i m d e
    refine ⟨v, by rw [hl]; exact h1, ?_⟩
    cases m with
    | sh => exact Rep.mono N.gg h2
    | own => obtain ⟨l, e1, e2, e3, o⟩ := h2; exact ⟨l, e1, gn e2 o.some, e3, ow o⟩
    | ino => obtain ⟨l, e1, e2, e3, o⟩ := h2; exact ⟨l, e1, gn e2 o.some, e3, ow o⟩
  · rw [hl] at l1 ⊢
    exact R.dist i j mi di mj dj l ne e1 n1 e2 n2 l1
  · obtain ⟨h1, h2, fs, h3⟩ := R.sf x e
    exact ⟨gn h1 (by rw [h3]; exact fun z => nomatch z), h2, fs, N.hh _ _ h3⟩
  · unfold ValOk
    have hv := N.val
    split
    · rename_i hm
      rw [if_pos hm] at hv
      obtain ⟨l, e1, e2, e3, o⟩ := hv
      refine ⟨l, e1, e2, e3, R.h0 e2, o, fun i md d' e hmd q => ?_⟩
      obtain ⟨v', l1, so⟩ := R.slot i md d' e
      rw [hl] at q
      rw [l1] at q; cases q
      cases md with
      | sh => exact hmd rfl
      | own => obtain ⟨l', e4, _, _, o'⟩ := so; cases e4; exact o'.some e2
      | ino => obtain ⟨l', e4, _, _, o'⟩ := so; cases e4; exact o'.some e2
    · rename_i hm
      rw [if_neg hm] at hv
      exact hv
theorem New.same (e : Ex G H) (h : Rep k G v d) : New k G H G H false v d := ⟨.refl _, .refl _, e, fun a h => .inl h, by rw [if_neg (by decide)]; exact h⟩
/-- a container that is let go: shared from now on -/
theorem Rel.freeze {H1 : Hp} (R : Rel c env σ G H) (h : ValOk c env σ H1 G H m v d) : ∃ G', Rel c env σ G' H ∧ Ex G G' ∧ Rep c.toKc G' v d ∧ ∀ a, G' a ≠ none → G a ≠ none ∨ (v = .ref a ∧ H1 a = none) := by
  unfold ValOk at h
  split at h
  · obtain ⟨l, rfl, h1n, g, h0, o, ns⟩ := h
    obtain ⟨u, hu, hr⟩ : ∃ u, H l = some u ∧ ∀ G', Ex G G' → G' l = some u → Rep c.toKc G' (.ref l) d := by
      cases d <;> first | exact False.elim o | skip
      · obtain ⟨vs, h, r⟩ := o
        exact ⟨_, h, fun G' e q => .lst (.inl (.inl q)) (r.mono e)⟩
      · obtain ⟨vs, h, r⟩ := o
        exact ⟨_, h, fun G' e q => .dic q (r.mono e)⟩
    have eg : Ex G (upd G l u) := Ex.new g
    have gn : ∀ {a : Addr}, G a = none → a ≠ l → upd G l u a = none := fun {a} q ne => by rw [upd_ne ne]; exact q
    refine ⟨upd G l u, ⟨R.len, fun a o q => ?_, R.g0.trans eg, fun a ha => ?_, R.fr, R.sH, fun i m d' e => ?_, R.dist, fun x e => ?_, R.s0, R.fsok⟩, eg, hr _ eg upd_same, fun a ha => ?_⟩
    · by_cases ha : a = l
      · subst ha; rw [upd_same] at q; cases q; exact hu
      · rw [upd_ne ha] at q; exact R.ex a o q
    · by_cases hal : a = l
      · subst hal; exact .inr h0
      · rw [upd_ne hal] at ha; exact R.gfr a ha
    · obtain ⟨v, h1, h2⟩ := R.slot i m d' e
      refine ⟨v, h1, ?_⟩
      have nl : m ≠ .sh → v ≠ .ref l := fun hm z => ns i m d' e hm (by rw [h1, z])
      cases m with
      | sh => exact Rep.mono eg h2
      | own =>
        obtain ⟨l', e1, e2, e3, o'⟩ := h2
        exact ⟨l', e1, gn e2 (fun z => nl (by decide) (by rw [e1, z])), e3, o'.mono eg rfl⟩
      | ino =>
        obtain ⟨l', e1, e2, e3, o'⟩ := h2
        exact ⟨l', e1, gn e2 (fun z => nl (by decide) (by rw [e1, z])), e3, o'.mono eg rfl⟩
    · obtain ⟨h1, h2, fs, h3⟩ := R.sf x e
      refine ⟨gn h1 (fun z => ?_), h2, fs, h3⟩
      rw [z, hu] at h3
      rcases o.H with ⟨vs, q⟩ | ⟨vs, q⟩ <;> (rw [hu] at q; rw [h3] at q; cases q)
    · by_cases hal : a = l
      · subst hal; exact .inr ⟨rfl, h1n⟩
      · rw [upd_ne hal] at ha; exact .inl ha
  · exact ⟨G, R, .refl _, h, fun a ha => .inl ha⟩
end
end Vf
end
section
namespace Vf
open PySem L2

/-! ### slots set -/
theorem getV_set {env : Env} {i j : Nat} {x : Option (Md × D)} : getV (env.set i x) j = if i = j ∧ i < env.length then x else getV env j := by
  unfold getV
  rw [List.getElem?_set]
  by_cases h : i = j
  · subst h
    by_cases h2 : i < env.length
    · rw [if_pos rfl, if_pos h2, if_pos ⟨rfl, h2⟩]; cases x <;> rfl
    · rw [if_pos rfl, if_neg h2, if_neg (fun z => h2 z.2), List.getElem?_eq_none (by omega)]
  · rw [if_neg h, if_neg (fun z => h z.1)]
theorem getV_ne {env : Env} {i j : Nat} {x : Option (Md × D)} (h : i ≠ j) : getV (env.set i x) j = getV env j := by
  rw [getV_set, if_neg (fun z => h z.1)]
theorem getV_lt {env : Env} {i : Nat} {p : Md × D} (h : getV env i = some p) : i < env.length := by
  unfold getV at h
  by_cases q : i < env.length
  · exact q
  · rw [List.getElem?_eq_none (by omega)] at h; cases h
theorem getV_same {env : Env} {i : Nat} {x : Option (Md × D)} (h : i < env.length) : getV (env.set i x) i = x := by
  rw [getV_set, if_pos ⟨rfl, h⟩]
section
variable {c : Cc} {env : Env} {σ : St} {G H G' H' : Hp} {m : Bool} {v : V} {d : D}
/-- a slot is kept or forgotten -/
theorem Rel.weak {env' : Env} (R : Rel c env σ G H) (h : ∀ i p, getV env' i = some p → getV env i = some p) : Rel c env' σ G H :=
  ⟨R.len, R.ex, R.g0, R.gfr, R.fr, R.sH, fun i m d e => R.slot i m d (h _ _ e), fun i j mi di mj dj l ne e1 n1 e2 n2 => R.dist i j mi di mj dj l ne (h _ _ e1) n1 (h _ _ e2) n2, R.sf, R.s0, R.fsok⟩
/-- a field's place -/
theorem Rel.place (R : Rel c env σ G H) {i : Nat} (hl : loc c σ H i = some v) (h : c.n ≤ i) : ∃ x fs, c.self = some x ∧ H x = some (.ins c.selfC c.selfD fs) ∧ σ[0]? = some (some (.ref x)) := by
  unfold loc at hl
  rw [if_neg (Nat.not_lt.mpr h)] at hl
  cases e : c.self with
  | none => rw [e] at hl; cases hl
  | some x =>
    obtain ⟨_, _, fs, q⟩ := R.sf x e
    exact ⟨x, fs, rfl, q, R.s0 x e⟩
theorem Rel.drop (R : Rel c env σ G H) (i : Nat) : Rel c (env.set i none) σ G H := R.weak fun j p e => by
  rw [getV_set] at e
  split at e
  · cases e
  · exact e
theorem Rel.setSh (R : Rel c env σ G H) {i : Nat} (hl : loc c σ H i = some v) (r : Rep c.toKc G v d) : Rel c (env.set i (some (.sh, d))) σ G H := by
  refine ⟨R.len, R.ex, R.g0, R.gfr, R.fr, R.sH, fun j m d' e => ?_, fun j j' mi di mj dj l ne e1 n1 e2 n2 => ?_, R.sf, R.s0, R.fsok⟩
  · rw [getV_set] at e
    split at e
    · rename_i z; cases e; rw [← z.1]; exact ⟨v, hl, r⟩
    · exact R.slot j m d' e
  · rw [getV_set] at e1 e2
    split at e1
    · cases e1; exact absurd rfl n1
    · split at e2
      · cases e2; exact absurd rfl n2
      · exact R.dist j j' mi di mj dj l ne e1 n1 e2 n2
/-- a container made here goes to a slot that holds nothing of one's own -/
theorem Rel.setOwn (R : Rel c env σ G H) {i : Nat} (hn : getV env i = none ∨ ∃ d', getV env i = some (.sh, d')) (hl : loc c σ H i = some v) {H1 : Hp} (r : ValOk c env σ H1 G H true v d) : Rel c (env.set i (some (.own, d))) σ G H := by
  obtain ⟨l, rfl, _, g, h0, o, ns⟩ := (show ∃ l, v = .ref l ∧ H1 l = none ∧ G l = none ∧ c.H0 l = none ∧ Own c.toKc G H l d ∧ ∀ i md d', getV env i = some (md, d') → md ≠ .sh → loc c σ H i ≠ some (.ref l) by
    unfold ValOk at r; rw [if_pos rfl] at r; exact r)
  refine ⟨R.len, R.ex, R.g0, R.gfr, R.fr, R.sH, fun j m d' e => ?_, fun j j' mi di mj dj l' ne e1 n1 e2 n2 q => ?_, R.sf, R.s0, R.fsok⟩
  · rw [getV_set] at e
    split at e
    · rename_i z; cases e; rw [← z.1]; exact ⟨_, hl, l, rfl, g, h0, o⟩
    · exact R.slot j m d' e
  · rw [getV_set] at e1 e2
    split at e1
    · rename_i z; cases e1; rw [← z.1, hl] at q; cases q
      split at e2
      · rename_i z2; exact absurd (z.1.symm.trans z2.1) ne
      · exact ns _ _ _ e2 n2
    · split at e2
      · rename_i z; cases e2; intro w; rw [← z.1, hl] at w; cases w; exact ns _ _ _ e1 n1 q
      · exact R.dist j j' mi di mj dj l' ne e1 n1 e2 n2 q
theorem Rel.slotVal (R : Rel c env σ G H) {i : Nat} (e : getV env i = some (.own, d)) (hl : loc c σ H i = some v) : ValOk c (env.set i none) σ (fun _ => none) G H true v d := by
  obtain ⟨v', h1, l, rfl, g, h0, o⟩ := R.slot i _ d e
  rw [hl] at h1; cases h1
  unfold ValOk
  rw [if_pos rfl]
  refine ⟨l, rfl, rfl, g, h0, o, fun j md d' e2 hmd q => ?_⟩
  rw [getV_set] at e2
  split at e2
  · cases e2
  · rename_i z
    have hij : i ≠ j := fun w => z ⟨w, getV_lt e⟩
    exact R.dist i j _ _ _ _ l hij e (by decide) e2 hmd hl q
theorem Rel.freezeSlot (R : Rel c env σ G H) {i : Nat} (e : getV env i = some (.own, d)) : ∃ G' v, loc c σ H i = some v ∧ Rel c (env.set i (some (.sh, d))) σ G' H ∧ Ex G G' ∧ Rep c.toKc G' v d ∧ ∀ a, G' a ≠ none → G a ≠ none ∨ v = .ref a := by
  obtain ⟨v, hl, _⟩ := R.slot i _ d e
  obtain ⟨G', R', eg, r, gf⟩ := (R.drop i).freeze (R.slotVal e hl)
  refine ⟨G', v, hl, ?_, eg, r, fun a ha => (gf a ha).imp id fun z => z.1⟩
  have := R'.setSh (i := i) hl r
  rw [List.set_set] at this
  exact this
/-- σ changes at a slot that env does not tell -/
theorem Rel.store (R : Rel c env σ G H) {i : Nat} (hi : Sl c i) (v : V) : Rel c (env.set i none) (σ.set i (some v)) G H ∧ loc c (σ.set i (some v)) H i = some v := by
  have hl : ∀ j, i ≠ j → loc c (σ.set i (some v)) H j = loc c σ H j := fun j ne => by
    unfold loc
    split
    · rw [List.getElem?_set_ne ne]
    · rfl
  refine ⟨⟨by rw [List.length_set]; exact R.len, R.ex, R.g0, R.gfr, R.fr, R.sH, fun j m d e => ?_, fun j j' mi di mj dj l ne e1 n1 e2 n2 => ?_, R.sf, fun x e => by rw [List.getElem?_set_ne (hi.2 x e)]; exact R.s0 x e, R.fsok⟩, ?_⟩
  · by_cases h : i = j
    · subst h
      rw [getV_set] at e
      split at e
      · cases e
      · rename_i z
        exact absurd ⟨rfl, getV_lt e⟩ z
    · rw [getV_ne h] at e
      rw [hl j h]
      exact R.slot j m d e
  · by_cases h : i = j
    · subst h
      rw [getV_set] at e1
      split at e1
      · cases e1
      · rename_i z; exact absurd ⟨rfl, getV_lt e1⟩ z
    · by_cases h' : i = j'
      · subst h'
        rw [getV_set] at e2
        split at e2
        · cases e2
        · rename_i z; exact absurd ⟨rfl, getV_lt e2⟩ z
      · rw [getV_ne h] at e1; rw [getV_ne h'] at e2
        rw [hl j h, hl j' h']
        exact R.dist j j' mi di mj dj l ne e1 n1 e2 n2
  · unfold loc
    rw [if_pos hi.1, List.getElem?_set_self (by rw [R.len]; exact hi.1)]
    rfl
end

/-! ### readings by the run -/
/-- an error may leave -/
def XOk (c : Cc) (ξ : XK) (k : Nat) (x : D) : Prop :=
  ∀ (G' H' : Hp) (v : V) (dx : Addr), Rep c.toKc G' v x → Ex c.G0 G' → Ex G' H' → (∀ a, G' a ≠ none → c.G0 a ≠ none ∨ c.H0 a = none) → H' dx = some (.xd [("value", v)]) → c.H0 dx = none →
    (∀ a o, c.H0 a = some o → a ∉ c.S → H' a = some o) → ξ (.ref (c.cl k)) (some dx) H'
def PR (c : Cc) (ξ : XK) {α : Type} (r : R α) (P : α → Prop) : Prop :=
  match r with
  | .ok a => P a
  | .exc k x => XOk c ξ k x
  | .stk => False
section
variable {c : Cc} {ξ : XK} {α β : Type} {r : R α} {f : α → R β} {P : β → Prop}
theorem PR.bind : PR c ξ (r >>= f) P = PR c ξ r fun a => PR c ξ (f a) P := by
  cases r <;> rfl
theorem PR.mono {P Q : α → Prop} (h : PR c ξ r P) (k : ∀ a, P a → Q a) : PR c ξ r Q := by
  cases r with
  | ok a => exact k a h
  | exc j x => exact h
  | stk => exact h
theorem PR.of {o : Option α} {P : α → Prop} (h : PR c ξ (R.of o) P) : ∃ a, o = some a ∧ P a := by
  cases o with
  | none => exact False.elim h
  | some a => exact ⟨a, rfl, h⟩
theorem PR.chk {p : Prop} [Decidable p] {P : α → Prop} (h : PR c ξ (chk p r) P) : p ∧ PR c ξ r P := by
  unfold Vf.chk at h
  split at h
  · exact ⟨by assumption, h⟩
  · exact False.elim h
end
/-- what a run may change: G grows, the object that is made stays, of all else only what stands in slots of one's own is written; no slot comes to own more -/
structure Gr (c : Cc) (σ : St) (env env' : Env) (G H G' H' : Hp) : Prop where
  g : Ex G G'
  s : ∀ x, c.self = some x → H' x = H x
  fr : ∀ a o, H a = some o → (∀ i m d, getV env i = some (m, d) → m ≠ .sh → loc c σ H i ≠ some (.ref a)) → H' a = some o
  ow : ∀ i m d, getV env' i = some (m, d) → m ≠ .sh → ∃ m0 d0, getV env i = some (m0, d0) ∧ m0 ≠ .sh
  gf : ∀ a, G' a ≠ none → G a ≠ none ∨ H a = none ∨ ∃ i m d, getV env i = some (m, d) ∧ m ≠ .sh ∧ loc c σ H i = some (.ref a)
  al : ∀ a, H' a = none → H a = none
theorem Gr.same {c : Cc} {σ : St} {env : Env} {G G' H H' : Hp} (e : Ex G G') (h : Ex H H') (s : ∀ x, c.self = some x → H' x = H x) (gf : ∀ a, G' a ≠ none → G a ≠ none ∨ H a = none) : Gr c σ env env G H G' H' :=
  ⟨e, s, fun a o q _ => h a o q, fun i m d q hm => ⟨m, d, q, hm⟩, fun a q => (gf a q).imp id .inl, fun a q => h.none q⟩
theorem Gr.refl {c : Cc} {σ : St} {env : Env} (G H : Hp) : Gr c σ env env G H G H := .same (.refl _) (.refl _) (fun _ _ => rfl) fun _ h => .inl h
theorem Gr.trans {c : Cc} {σ : St} {env env1 env2 : Env} {G H G1 H1 G2 H2 : Hp} (a : Gr c σ env env1 G H G1 H1) (b : Gr c σ env1 env2 G1 H1 G2 H2) : Gr c σ env env2 G H G2 H2 := by
  have own : ∀ i m d x, getV env1 i = some (m, d) → m ≠ .sh → loc c σ H1 i = some (.ref x) → ∃ m0 d0, getV env i = some (m0, d0) ∧ m0 ≠ .sh ∧ loc c σ H i = some (.ref x) := fun i m d x e hm q => by
    obtain ⟨m0, d0, e0, h0⟩ := a.ow i m d e hm
    rw [loc_self a.s] at q
    exact ⟨m0, d0, e0, h0, q⟩
  refine ⟨a.g.trans b.g, fun x e => (b.s x e).trans (a.s x e), fun x o h k => b.fr x o (a.fr x o h k) fun i m d e hm q => ?_, fun i m d e hm => ?_, fun x hx => ?_, fun x q => a.al x (b.al x q)⟩
  · obtain ⟨m0, d0, e0, h0, q0⟩ := own i m d x e hm q
    exact k i m0 d0 e0 h0 q0
  · obtain ⟨m1, d1, e1, h1⟩ := b.ow i m d e hm
    exact a.ow i m1 d1 e1 h1
  · rcases b.gf x hx with h | h | ⟨i, m, d, e, hm, q⟩
    · exact a.gf x h
    · exact .inr (.inl (a.al x h))
    · obtain ⟨m0, d0, e0, h0, q0⟩ := own i m d x e hm q
      exact .inr (.inr ⟨i, m0, d0, e0, h0, q0⟩)
theorem Rel.gr {c : Cc} {env : Env} {σ : St} {G H G' H' : Hp} {k : Kc} {m : Bool} {v : V} {d : D} (R : Rel c env σ G H) (N : New k G H G' H' m v d) : Gr c σ env env G H G' H' := .same N.gg N.hh (R.self_ex N.hh) N.fr
theorem ValOk.back {c : Cc} {env : Env} {σ : St} {H0 H1 G H : Hp} {m : Bool} {v : V} {d : D} (a : ∀ x, H1 x = none → H0 x = none) (h : ValOk c env σ H1 G H m v d) : ValOk c env σ H0 G H m v d := by
  unfold ValOk at h ⊢
  split
  · rename_i hm
    rw [if_pos hm] at h
    obtain ⟨l, e1, e2, r⟩ := h
    exact ⟨l, e1, a l e2, r⟩
  · rename_i hm
    rw [if_neg hm] at h
    exact h
theorem ValOk.sh {c : Cc} {env : Env} {σ : St} {H1 G H : Hp} {v : V} {d : D} (h : Rep c.toKc G v d) : ValOk c env σ H1 G H false v d := by
  unfold ValOk
  rw [if_neg Bool.false_ne_true]
  exact h
section
variable (c : Cc) (ξ : XK) (F : Fs)
def tv (e : E) : TE := fun σ H Q => ∃ env G, Rel c env σ G H ∧ PR c ξ (evalE F e env) fun p => ∀ G' H' v, Rel c p.2 σ G' H' → Gr c σ env p.2 G H G' H' → ValOk c p.2 σ H G' H' p.1.1 v p.1.2 → Q v H'
def OpOk (σ : St) (G H : Hp) : Op → V → Prop
  | .va d, v => Rep c.toKc G v d
  | .sl i, v => loc c σ H i = some v
def to1 (e : E) : TE := fun σ H Q => ∃ env G, Rel c env σ G H ∧ PR c ξ (opd e (evalE F e env) env) fun p => ∀ G' H' v, Rel c p.2 σ G' H' → Gr c σ env p.2 G H G' H' → OpOk c σ G' H' p.1 v → Q v H'
def tb1 (e : E) : TT := fun σ H Q => ∃ env G, Rel c env σ G H ∧ PR c ξ (evalE F e env) fun p => ∃ b, dtruth p.1.2 = some b ∧ ∀ G' H', Rel c p.2 σ G' H' → Gr c σ env p.2 G H G' H' → Q b H'
def ta1 (es : Es) : TA := fun σ H Q => ∃ env G, Rel c env σ G H ∧ PR c ξ (evalEs F es env) fun p => ∀ G' H' vs, Rel c p.2 σ G' H' → Gr c σ env p.2 G H G' H' → Reps c.toKc G' vs p.1 → Q vs H'
end
section
variable {c : Cc} {ξ : XK} {F : Fs} {X : Cx} {ast : Expr}
theorem PE.imp {t t' : TE} (h : PE X ast t) (k : ∀ σ H Q, t' σ H Q → t σ H Q) : PE X ast t' := ⟨fun pins s σ H Q I w => h.run pins s σ H Q I (k σ H Q w)⟩
theorem PT.imp {t t' : TT} (h : PT X ast t) (k : ∀ σ H Q, t' σ H Q → t σ H Q) : PT X ast t' := ⟨fun pins s σ H Q I w => h.run pins s σ H Q I (k σ H Q w)⟩
theorem PA.imp {es : List Expr} {t t' : TA} (h : PA X es t) (k : ∀ σ H Q, t' σ H Q → t σ H Q) : PA X es t' := ⟨fun pos pins s σ H Q I w => h.run pos pins s σ H Q I (k σ H Q w)⟩
theorem PS.imp {st : Stmt} {t t' : TS} (h : PS X st t) (k : ∀ D σ H, t' D σ H → t D σ H) : PS X st t' := ⟨fun pins s σ H D I w => h.run pins s σ H D I (k D σ H w)⟩
theorem PSs.imp {st : List Stmt} {t t' : TS} (h : PSs X st t) (k : ∀ D σ H, t' D σ H → t D σ H) : PSs X st t' := ⟨fun pins s σ H D I w => h.run pins s σ H D I (k D σ H w)⟩
theorem PE.or {t t' : TE} (h : PE X ast t) (h' : PE X ast t') : PE X ast (fun σ H Q => t σ H Q ∨ t' σ H Q) := ⟨fun pins s σ H Q I w => by
  rcases w with w | w
  · exact h.run pins s σ H Q I w
  · exact h'.run pins s σ H Q I w⟩
theorem OpOk.keep {σ : St} {env env' : Env} {G H G' H' : Hp} {p : Op} {v : V} (g : Gr c σ env env' G H G' H') (o : OpOk c σ G H p v) : OpOk c σ G' H' p v := by
  cases p with
  | va d => exact Rep.mono g.g o
  | sl i => exact (loc_self g.s i).trans o
theorem OpOk.rep1 {env : Env} {σ : St} {G H : Hp} {p : Op} {v : V} {d : D} (R : Rel c env σ G H) (o : OpOk c σ G H p v) (e : p.get env = some d) : Rep1 c.toKc G H v d := by
  cases p with
  | va d' => cases e; exact .of o
  | sl i =>
    simp only [Op.get, Option.map_eq_some_iff] at e
    obtain ⟨⟨m, d'⟩, e1, rfl⟩ := e
    obtain ⟨v', h1, h2⟩ := R.slot i m d' e1
    have h3 : loc c σ H i = some v := o
    rw [h3] at h1; cases h1
    cases m with
    | sh => exact .of h2
    | own => obtain ⟨l, rfl, _, _, q⟩ := h2; exact .own q
    | ino => obtain ⟨l, rfl, _, _, q⟩ := h2; exact .own q
/-- what is wanted of shared values alone -/
theorem T_sh {e : Vf.E} {env : Env} {σ : St} {G H : Hp} {Q : VK} (R : Rel c env σ G H) (h : PR c ξ (evalE F e env) fun p => ∀ G' H' v, Rel c p.2 σ G' H' → Gr c σ env p.2 G H G' H' → Rep c.toKc G' v p.1.2 → Q v H') : tv c ξ F e σ H Q := by
  refine ⟨env, G, R, h.mono fun p k G' H' v R' g w => ?_⟩
  obtain ⟨G2, R2, e2, r, gf⟩ := R'.freeze w
  refine k G2 H' v R2 ⟨g.g.trans e2, g.s, g.fr, g.ow, fun a ha => ?_, g.al⟩ r
  rcases gf a ha with h | ⟨_, h⟩
  · exact g.gf a h
  · exact .inr (.inl h)
/-- places: a name, a field of the object that is made -/
theorem T_place {i : Nat} {t : TE} (ht : ∀ (env : Env) σ G H Q v, Rel c env σ G H → loc c σ H i = some v → Q v H → (∃ p, getV env i = some p) → t σ H Q) {e : Vf.E} (he : ∀ env, evalE F e env = readV env i) {σ : St} {H : Hp} {Q : VK} (h : tv c ξ F e σ H Q) : t σ H Q := by
  obtain ⟨env, G, R, h⟩ := h
  rw [he] at h
  unfold readV at h
  split at h
  · rename_i d e
    obtain ⟨v, h1, h2⟩ := R.slot i _ d e
    exact ht env σ G H Q v R h1 (h G H v R (.refl _ _) (.sh h2)) ⟨_, e⟩
  · rename_i d e
    obtain ⟨G', v, h1, R', eg, r, gf⟩ := R.freezeSlot e
    refine ht env σ G H Q v R h1 (h G' H v R' ⟨eg, fun _ _ => rfl, fun _ _ q _ => q, fun j m d' q hm => ?_, fun a ha => ?_, fun _ z => z⟩ (.sh r)) ⟨_, e⟩
    · rw [getV_set] at q
      split at q
      · cases q; exact absurd rfl hm
      · exact ⟨m, d', q, hm⟩
    · rcases gf a ha with z | z
      · exact .inl z
      · exact .inr (.inr ⟨i, _, d, e, (by decide), by rw [h1, z]⟩)
  · exact False.elim h
theorem TO_place {i : Nat} {t : TE} (ht : ∀ (env : Env) σ G H Q v, Rel c env σ G H → loc c σ H i = some v → Q v H → (∃ p, getV env i = some p) → t σ H Q) {e : Vf.E} (he : ∀ env, opd e (evalE F e env) env = match getV env i with
    | some (.sh, d) => .ok (.va d, env)
    | some (_, _) => .ok (.sl i, env)
    | none => .stk) {σ : St} {H : Hp} {Q : VK} (h : to1 c ξ F e σ H Q) : t σ H Q := by
  obtain ⟨env, G, R, h⟩ := h
  rw [he] at h
  split at h
  · rename_i d e
    obtain ⟨v, h1, h2⟩ := R.slot i _ d e
    exact ht env σ G H Q v R h1 (h G H v R (.refl _ _) h2) ⟨_, e⟩
  · rename_i m d _ e
    obtain ⟨v, h1, h2⟩ := R.slot i m d e
    exact ht env σ G H Q v R h1 (h G H v R (.refl _ _) h1) ⟨_, e⟩
  · exact False.elim h
theorem TO_of {e : Vf.E} (he : ∀ env, opd e (evalE F e env) env = (evalE F e env >>= fun p => .ok (.va p.1.2, p.2))) {σ : St} {H : Hp} {Q : VK} (h : to1 c ξ F e σ H Q) : tv c ξ F e σ H Q := by
  obtain ⟨env, G, R, h⟩ := h
  rw [he, PR.bind] at h
  exact T_sh R h
theorem tru_of {G H : Hp} {v : V} {d : D} {b : Bool} (ex : Ex G H) (r : Rep c.toKc G v d) (hb : dtruth d = some b) : TruV c.K v H b := by
  cases r with
  | non => simp only [dtruth, Option.some.injEq] at hb; exact hb.symm
  | bl b => simp only [dtruth, Option.some.injEq] at hb; exact hb.symm
  | int i => simp only [dtruth, Option.some.injEq] at hb; exact hb.symm
  | str x =>
    simp only [dtruth] at hb
    split at hb
    · rename_i hx; cases hb; exact ⟨hx, rfl⟩
    · cases hb
  | tup h r =>
    simp only [dtruth, Option.some.injEq] at hb
    refine .inr (.inl ⟨_, ex.sqt h, ?_⟩)
    have := r.length
    rw [← hb]
    rename_i vs ds
    cases vs <;> cases ds <;> first | rfl | simp at this
  | lst h r =>
    simp only [dtruth, Option.some.injEq] at hb
    refine .inl ⟨_, ex.sql h, ?_⟩
    have := r.length
    rw [← hb]
    rename_i vs ds
    cases vs <;> cases ds <;> first | rfl | simp at this
  | dic h r =>
    simp only [dtruth, Option.some.injEq] at hb
    refine .inr (.inr ⟨_, ex _ _ h, ?_⟩)
    have := r.length
    rw [← hb]
    rename_i vs ds
    cases vs <;> cases ds <;> first | rfl | simp at this
  | obj h z r => cases hb
theorem Tb_of {e : Vf.E} {σ : St} {H : Hp} {Q : Bool → Hp → Prop} (h : tb1 c ξ F e σ H Q) : tv c ξ F e σ H fun v H1 => ∃ k, TruV c.K v H1 k ∧ Q k H1 := by
  obtain ⟨env, G, R, h⟩ := h
  exact T_sh R (h.mono fun p ⟨b, hb, k⟩ G' H' v R' g r => ⟨b, tru_of R'.ex r hb, k G' H' R' g⟩)
/-- a run whose value is a truth value -/
theorem Tb_bl {e : Vf.E} {σ : St} {H : Hp} {Q : Bool → Hp → Prop} (he : ∀ env p, evalE F e env = .ok p → ∃ b, p.1 = (false, .bl b)) (h : tb1 c ξ F e σ H Q) : tv c ξ F e σ H fun v H1 => ∃ k, v = .bl k ∧ Q k H1 := by
  obtain ⟨env, G, R, h⟩ := h
  refine T_sh R ?_
  cases q : evalE F e env with
  | stk => rw [q] at h; exact h.elim
  | exc k x => rw [q] at h; exact h
  | ok p =>
    rw [q] at h
    obtain ⟨b0, e0⟩ := he env p q
    obtain ⟨b, hb, k⟩ := h
    intro G' H' v R' g r
    rw [e0] at hb r
    cases hb
    exact ⟨_, r.i_bl, k G' H' R' g⟩
end
end Vf
end
section
namespace Vf
open PySem L2

/-! ### what is made -/
section
variable {k : Kc} {G H : Hp} {v : V} {d : D}
theorem New.scal (e : Ex G H) (h : Rep k G v d) : New k G H G H false v d := .same e h
theorem New.own {l : Addr} {o : HO} (e : Ex G H) (hl : H l = none) (h : ∀ H', H' l = some o → Own k G H' l d) : New k G H G (upd H l o) true (.ref l) d :=
  ⟨.new hl, .refl _, e.trans (.new hl), fun a z => .inl z, by rw [if_pos rfl]; exact ⟨l, rfl, hl, e.none hl, h _ upd_same⟩⟩
theorem New.lst {l : Addr} {vs : List V} {ds : List D} (e : Ex G H) (hl : H l = none) (r : Reps k G vs ds) : New k G H G (upd H l (.lst vs)) true (.ref l) (.lst ds) :=
  .own e hl fun H' z => ⟨vs, z, r⟩
theorem New.dic {l : Addr} {vs : List (Key × V)} {ds : List (Key × D)} (e : Ex G H) (hl : H l = none) (r : RepK k G vs ds) : New k G H G (upd H l (.dK vs)) true (.ref l) (.dic ds) :=
  .own e hl fun H' z => ⟨vs, z, r⟩
theorem New.tup {l : Addr} {vs : List V} {ds : List D} (e : Ex G H) (hl : H l = none) (r : Reps k G vs ds) : New k G H (upd G l (.tup vs)) (upd H l (.tup vs)) false (.ref l) (.tup ds) := by
  have g := e.none hl
  refine ⟨.new hl, .new g, fun a o q => ?_, fun a z => ?_, ?_⟩
  · by_cases h : a = l
    · subst h; rw [upd_same] at q ⊢; exact q
    · rw [upd_ne h] at q ⊢; exact e a o q
  · by_cases h : a = l
    · subst h; exact .inr hl
    · rw [upd_ne h] at z; exact .inl z
  · rw [if_neg Bool.false_ne_true]
    exact .tup (.inl (.inl upd_same)) (r.mono (.new g))
end

/-- a reading by values is met where the run gives a value -/
def UnOk (c : Cc) (r : V → Hp → VK → Prop) (f : D → Option W) : Prop :=
  ∀ (G H : Hp) (v : V) (d : D) (w : W) (Q : VK), Ex G H → Rep1 c.toKc G H v d → f d = some w → (∀ G' H' v', New c.toKc G H G' H' w.1 v' w.2 → Q v' H') → r v H Q
def BiOk (c : Cc) (r : R2) (f : D → D → Option W) : Prop :=
  ∀ (G H : Hp) (x y : V) (d e : D) (w : W) (Q : VK), Ex G H → Rep1 c.toKc G H x d → Rep1 c.toKc G H y e → f d e = some w → (∀ G' H' v', New c.toKc G H G' H' w.1 v' w.2 → Q v' H') → r x y H Q
section
variable {c : Cc} {ξ : XK} {F : Fs} {σ : St} {H : Hp} {Q : VK}
theorem un_imp {o : U1} {a : E} {r : V → Hp → VK → Prop} (hr : UnOk c r (un1 o)) (h : tv c ξ F (.un o a) σ H Q) : tUn r (to1 c ξ F a) σ H Q := by
  obtain ⟨env, G, R, h⟩ := h
  simp only [evalE, PR.bind] at h
  refine ⟨env, G, R, h.mono fun p k G1 H1 v R1 g1 o1 => ?_⟩
  obtain ⟨d, e1, k⟩ := PR.of k
  obtain ⟨w, e2, k⟩ := PR.of k
  refine hr G1 H1 v d w Q R1.ex (o1.rep1 R1 e1) e2 fun G2 H2 v2 N => ?_
  obtain ⟨R2, ok⟩ := R1.new N
  exact k G2 H2 v2 R2 (g1.trans (R1.gr N)) (ok.back g1.al)
theorem bi_imp {o : B2} {a b : E} {r : R2} (hr : BiOk c r (bi1 o)) (h : tv c ξ F (.bi o a b) σ H Q) : tOp r (to1 c ξ F a) (to1 c ξ F b) σ H Q := by
  obtain ⟨env, G, R, h⟩ := h
  simp only [evalE, PR.bind] at h
  refine ⟨env, G, R, h.mono fun p k G1 H1 x R1 g1 o1 => ⟨p.2, G1, R1, k.mono fun q k G2 H2 y R2 g2 o2 => ?_⟩⟩
  obtain ⟨d, e1, k⟩ := PR.of k
  obtain ⟨e, e2, k⟩ := PR.of k
  obtain ⟨w, e3, k⟩ := PR.of k
  refine hr G2 H2 x y d e w Q R2.ex ((o1.keep g2).rep1 R2 e1) (o2.rep1 R2 e2) e3 fun G3 H3 v3 N => ?_
  obtain ⟨R3, ok⟩ := R2.new N
  exact k G3 H3 v3 R3 ((g1.trans g2).trans (R2.gr N)) (ok.back (g1.trans g2).al)
end
theorem OpR.or {X : Cx} {f : Value → Value → Sem Value} {r r' : R2} (h : OpR X f r) (h' : OpR X f r') : OpR X f (fun x y H Q => r x y H Q ∨ r' x y H Q) := fun pins s σ H x y v u Q I rx ry q => by
  rcases q with q | q
  · exact h pins s σ H x y v u Q I rx ry q
  · exact h' pins s σ H x y v u Q I rx ry q
theorem CallR.or {X : Cx} {f : Value} {r r' : List V → Hp → VK → Prop} (h : CallR X f r) (h' : CallR X f r') : CallR X f (fun xs H Q => r xs H Q ∨ r' xs H Q) := fun pins s σ H xs us Q I rx q => by
  rcases q with q | q
  · exact h pins s σ H xs us Q I rx q
  · exact h' pins s σ H xs us Q I rx q

/-! ### sorting -/
theorem insS_perm (x : Str) : ∀ l, (insS x l).Perm (x :: l)
  | [] => .refl _
  | y :: r => by
    unfold insS
    split
    · exact .trans (.cons y (insS_perm x r)) (.swap x y r)
    · exact .refl _
theorem sortS_perm : ∀ l, (sortS l).Perm l
  | [] => .refl _
  | x :: r => .trans (insS_perm x _) (.cons x (sortS_perm r))
theorem insI_perm (x : Int) : ∀ l, (insI x l).Perm (x :: l)
  | [] => .refl _
  | y :: r => by
    unfold insI
    split
    · exact .trans (.cons y (insI_perm x r)) (.swap x y r)
    · exact .refl _
theorem sortI_perm : ∀ l, (sortI l).Perm l
  | [] => .refl _
  | x :: r => .trans (insI_perm x _) (.cons x (sortI_perm r))
theorem insI_sorted (x : Int) : ∀ {l : List Int}, l.Pairwise (· ≤ ·) → (insI x l).Pairwise (· ≤ ·)
  | [], _ => by simp [insI]
  | y :: r, h => by
    rw [List.pairwise_cons] at h
    unfold insI
    split
    · rw [List.pairwise_cons]
      refine ⟨fun z hz => ?_, insI_sorted x h.2⟩
      rcases List.mem_cons.mp ((insI_perm x r).mem_iff.mp hz) with rfl | hz
      · omega
      · exact h.1 z hz
    · rw [List.pairwise_cons, List.pairwise_cons]
      refine ⟨fun z hz => ?_, h.1, h.2⟩
      rcases List.mem_cons.mp hz with rfl | hz
      · omega
      · have := h.1 z hz; omega
theorem sortI_sorted : ∀ l, (sortI l).Pairwise (· ≤ ·)
  | [] => .nil
  | x :: r => insI_sorted x (sortI_sorted r)
theorem sorted_same {α : Type} {le : α → α → Prop} (anti : ∀ a b, le a b → le b a → a = b) : ∀ {l l' : List α}, l.Perm l' → l.Pairwise le → l'.Pairwise le → l = l'
  | [], l', p, _, _ => (List.Perm.nil_eq p)
  | x :: r, l', p, h, h' => by
    cases l' with
    | nil => exact absurd p.length_eq (by simp)
    | cons y t =>
      have e : x = y := by
        rcases List.mem_cons.mp (p.mem_iff.mp List.mem_cons_self) with e | e
        · exact e
        · rcases List.mem_cons.mp (p.symm.mem_iff.mp (List.mem_cons_self (a := y) (l := t))) with e2 | e2
          · exact e2.symm
          · exact anti x y ((List.pairwise_cons.mp h).1 y e2) ((List.pairwise_cons.mp h').1 x e)
      subst e
      rw [sorted_same anti (List.Perm.cons_inv p) (List.pairwise_cons.mp h).2 (List.pairwise_cons.mp h').2]
/-- texts by their codes -/
def leS (a b : Str) : Prop := ¬ b.cps.toList < a.cps.toList
theorem Str.ext_l {a b : Str} (h : a.cps.toList = b.cps.toList) : a = b := by
  obtain ⟨⟨a⟩⟩ := a; obtain ⟨⟨b⟩⟩ := b
  have : a = b := h
  rw [this]
theorem nlt_antisymm : ∀ {a b : List Nat}, ¬ a < b → ¬ b < a → a = b := fun {a b} h1 h2 => by
  have h1' : b ≤ a := h1
  have h2' : a ≤ b := h2
  exact (List.le_antisymm h1' h2').symm
theorem leS_anti (a b : Str) (h1 : leS a b) (h2 : leS b a) : a = b := Str.ext_l (nlt_antisymm h2 h1)
theorem leS_trans {a b e : Str} (h1 : leS a b) (h2 : leS b e) : leS a e := by
  have h1' : a.cps.toList ≤ b.cps.toList := h1
  have h2' : b.cps.toList ≤ e.cps.toList := h2
  exact List.le_trans h1' h2'
theorem insS_sorted (x : Str) : ∀ {l : List Str}, l.Pairwise leS → (insS x l).Pairwise leS
  | [], _ => by simp [insS]
  | y :: r, h => by
    rw [List.pairwise_cons] at h
    unfold insS
    split
    · rename_i hlt
      rw [List.pairwise_cons]
      refine ⟨fun z hz => ?_, insS_sorted x h.2⟩
      rcases List.mem_cons.mp ((insS_perm x r).mem_iff.mp hz) with rfl | hz
      · exact fun w => List.lt_irrefl _ (List.lt_trans hlt w)
      · exact h.1 z hz
    · rename_i hlt
      rw [List.pairwise_cons, List.pairwise_cons]
      refine ⟨fun z hz => ?_, h.1, h.2⟩
      rcases List.mem_cons.mp hz with rfl | hz
      · exact hlt
      · exact leS_trans hlt (h.1 z hz)
theorem sortS_sorted : ∀ l, (sortS l).Pairwise leS
  | [] => .nil
  | x :: r => insS_sorted x (sortS_sorted r)
theorem risingS_pw : ∀ {l : List Str} {x : Str}, PyProof.Rows.risingS x l = true → (x :: l).Pairwise leS
  | [], x, _ => by simp
  | y :: r, x, h => by
    have h2 : leS x y ∧ PyProof.Rows.risingS y r = true := by
      simp only [PyProof.Rows.risingS, Bool.and_eq_true, Bool.not_eq_true', PyProof.Rows.ltCps_eq, decide_eq_false_iff_not] at h
      exact h
    have h3 := risingS_pw h2.2
    rw [List.pairwise_cons]
    refine ⟨fun z hz => ?_, h3⟩
    rcases List.mem_cons.mp hz with rfl | hz
    · exact h2.1
    · exact leS_trans h2.1 ((List.pairwise_cons.mp h3).1 z hz)

theorem sortedS_eq {ys xs : List Str} (p : ys.Perm xs) (h : PyProof.Rows.sortedS ys = true) : ys = sortS xs := by
  refine sorted_same leS_anti (p.trans (sortS_perm xs).symm) ?_ (sortS_sorted xs)
  cases ys with
  | nil => exact .nil
  | cons y r => exact risingS_pw h
theorem sortedI_eq {ys xs : List Int} (p : ys.Perm xs) (h : ys.Pairwise (· ≤ ·)) : ys = sortI xs :=
  sorted_same (fun a b h1 h2 => Int.le_antisymm h1 h2) (p.trans (sortI_perm xs).symm) h (sortI_sorted xs)

/-! ### one operand -/
section
variable {c : Cc}
theorem u_neg : UnOk c (rU fun i => .int (-i)) (un1 .neg) := by
  intro G H v d w Q e r f k
  cases d <;> simp only [un1, vw, reduceCtorEq, Option.some.injEq] at f
  subst f
  obtain rfl := r.int
  exact ⟨_, rfl, k _ _ _ (.scal e (.int _))⟩
theorem u_len : UnOk c (fun x H Q => (∃ y n, [x] = [y] ∧ LenV c.K y H n ∧ Q (.int n) H) ∨ ∃ a kvs, [x] = [V.ref a] ∧ H a = some (.dK kvs) ∧ Q (.int kvs.length) H) (un1 .len) := by
  intro G H v d w Q e r f k
  cases d <;> simp only [un1, vw, reduceCtorEq, Option.some.injEq] at f
  · obtain ⟨h, f⟩ := ck_some f
    cases f
    obtain rfl := r.str
    exact .inl ⟨_, _, rfl, ⟨h, rfl⟩, k _ _ _ (.scal e (.int _))⟩
  · subst f
    obtain ⟨a, vs, rfl, h, q⟩ := r.tup e
    exact .inl ⟨_, vs.length, rfl, .inr ⟨vs, h, rfl⟩, by rw [q.length]; exact k _ _ _ (.scal e (.int _))⟩
  · subst f
    obtain ⟨a, vs, rfl, h, q⟩ := r.lst e
    exact .inl ⟨_, vs.length, rfl, .inl ⟨vs, h, rfl⟩, by rw [q.length]; exact k _ _ _ (.scal e (.int _))⟩
  · subst f
    obtain ⟨a, vs, rfl, h, q⟩ := r.dic e
    exact .inr ⟨a, vs, rfl, h, by rw [q.length]; exact k _ _ _ (.scal e (.int _))⟩
theorem u_int : UnOk c (fun x H Q => ((∃ i, [x] = [V.int i] ∧ Q (.int i) H) ∨ ∃ k, [x] = [V.bl k] ∧ Q (.int (if k then 1 else 0)) H) ∨ ∃ a n, [x] = [V.str a] ∧ PySem.intText? a = some n ∧ a.length ≤ 640 ∧ Q (.int n) H) (un1 .int) := by
  intro G H v d w Q e r f k
  cases d <;> simp only [un1, vw, reduceCtorEq, Option.some.injEq] at f
  · subst f; obtain rfl := r.bl
    exact .inl (.inr ⟨_, rfl, k _ _ _ (.scal e (.int _))⟩)
  · subst f; obtain rfl := r.int
    exact .inl (.inl ⟨_, rfl, k _ _ _ (.scal e (.int _))⟩)
  · obtain rfl := r.str
    split at f
    · rename_i n hn
      obtain ⟨h, f⟩ := ck_some f
      cases f
      exact .inr ⟨_, _, rfl, hn, h, k _ _ _ (.scal e (.int _))⟩
    · cases f
theorem u_str : UnOk c (fun x H Q => ∃ i : Int, [x] = [V.int i] ∧ i.natAbs.log2 < 1920 ∧ Q (.str (toString i : String)) H) (un1 .str) := by
  intro G H v d w Q e r f k
  cases d <;> simp only [un1, vw, reduceCtorEq, Option.some.injEq] at f
  obtain ⟨h, f⟩ := ck_some f
  cases f; obtain rfl := r.int
  exact ⟨_, rfl, h, k _ _ _ (.scal e (.str _))⟩
theorem u_abs : UnOk c (fun x H Q => ∃ i, [x] = [V.int i] ∧ Q (.int (if i < 0 then -i else i)) H) (un1 .abs) := by
  intro G H v d w Q e r f k
  cases d <;> simp only [un1, vw, reduceCtorEq, Option.some.injEq] at f
  subst f; obtain rfl := r.int
  exact ⟨_, rfl, k _ _ _ (.scal e (.int _))⟩
theorem u_sum : UnOk c (fun x H Q => rSum c.K [x] H Q) (un1 .sum) := by
  intro G H v d w Q e r f k
  cases d <;> simp only [un1, vw, reduceCtorEq, Option.some.injEq] at f
  split at f
  · rename_i ns hn
    cases f
    obtain ⟨a, vs, rfl, h, q⟩ := r.lst e
    exact ⟨a, ns, rfl, (by rw [← q.ints hn]; exact h), k _ _ _ (.scal e (.int _))⟩
  · cases f
theorem u_all : UnOk c (fun x H Q => rAll c.K [x] H Q) (un1 .all) := by
  intro G H v d w Q e r f k
  cases d <;> simp only [un1, vw, reduceCtorEq, Option.some.injEq] at f
  split at f
  · rename_i ns hn
    cases f
    obtain ⟨a, vs, rfl, h, q⟩ := r.lst e
    exact ⟨a, ns, rfl, (by rw [← q.bools hn]; exact h), k _ _ _ (.scal e (.bl _))⟩
  · cases f
theorem u_any : UnOk c (fun x H Q => rAny c.K [x] H Q) (un1 .any) := by
  intro G H v d w Q e r f k
  cases d <;> simp only [un1, vw, reduceCtorEq, Option.some.injEq] at f
  split at f
  · rename_i ns hn
    cases f
    obtain ⟨a, vs, rfl, h, q⟩ := r.lst e
    exact ⟨a, ns, rfl, (by rw [← q.bools hn]; exact h), k _ _ _ (.scal e (.bl _))⟩
  · cases f
theorem u_sorted : UnOk c (fun x H Q => rSortedS c.K [x] H Q ∨ rSortedI c.K [x] H Q) (un1 .sorted) := by
  intro G H v d w Q e r f k
  cases d <;> simp only [un1, vw, fresh, reduceCtorEq, Option.some.injEq] at f
  obtain ⟨a, vs, rfl, h, q⟩ := r.lst e
  split at f
  · rename_i ns hn
    obtain ⟨hl, f⟩ := ck_some f
    cases f
    refine .inl ⟨a, ns, rfl, (by rw [← q.strs hn]; exact h), hl, fun ys p pm so hp => ?_⟩
    rw [sortedS_eq pm so]
    exact k _ _ _ (.lst e hp (.ofStrs _))
  · split at f
    · rename_i ns hn
      cases f
      refine .inr ⟨a, ns, rfl, (by rw [← q.ints hn]; exact h), fun ys p pm so hp => ?_⟩
      rw [sortedI_eq pm so]
      exact k _ _ _ (.lst e hp (.ofInts _))
    · cases f
theorem u_list : UnOk c (fun x H Q => ∃ p ys, [x] = [V.ref p] ∧ (SqL c.K H p ys ∨ SqT c.K H p ys) ∧ ∀ l, H l = none → Q (.ref l) (upd H l (.lst ys))) (un1 .list) := by
  intro G H v d w Q e r f k
  cases d <;> simp only [un1, vw, fresh, reduceCtorEq, Option.some.injEq] at f
  · subst f; obtain ⟨a, vs, rfl, h, q⟩ := r.tup e
    exact ⟨a, vs, rfl, .inr h, fun l hl => k _ _ _ (.lst e hl q)⟩
  · subst f; obtain ⟨a, vs, rfl, h, q⟩ := r.lst e
    exact ⟨a, vs, rfl, .inl h, fun l hl => k _ _ _ (.lst e hl q)⟩
theorem tup_same {k : Kc} {G H : Hp} {v : V} {ds : List D} (r : Rep1 k G H v (.tup ds)) : Rep k G v (.tup ds) := by
  cases r with
  | of h => exact h
  | own h => exact False.elim h
theorem u_isN : UnOk c (fun x H Q => Q (.bl (decide (x = .non))) H) (un1 .isN) := by
  intro G H v d w Q e r f k
  simp only [un1, vw, Option.some.injEq] at f
  subst f
  have : decide (v = V.non) = isNonD d := by
    cases d
    case non => rw [r.non]; rfl
    case bl => rw [r.bl]; rfl
    case int => rw [r.int]; rfl
    case str => rw [r.str]; rfl
    case tup => obtain ⟨a, vs, rfl, _⟩ := r.tup e; rfl
    case lst => obtain ⟨a, vs, rfl, _⟩ := r.lst e; rfl
    case dic => obtain ⟨a, vs, rfl, _⟩ := r.dic e; rfl
    case obj => obtain ⟨a, dx, vs, _, rfl, _⟩ := r.obj e; rfl
  show Q (V.bl (decide (v = V.non))) H
  rw [this]
  exact k _ _ _ (.scal e (.bl _))
theorem u_notN : UnOk c (fun x H Q => Q (.bl (!decide (x = .non))) H) (un1 .notN) := by
  intro G H v d w Q e r f k
  simp only [un1, vw, Option.some.injEq] at f
  subst f
  have : (!decide (v = V.non)) = !isNonD d := by
    cases d
    case non => rw [r.non]; rfl
    case bl => rw [r.bl]; rfl
    case int => rw [r.int]; rfl
    case str => rw [r.str]; rfl
    case tup => obtain ⟨a, vs, rfl, _⟩ := r.tup e; rfl
    case lst => obtain ⟨a, vs, rfl, _⟩ := r.lst e; rfl
    case dic => obtain ⟨a, vs, rfl, _⟩ := r.dic e; rfl
    case obj => obtain ⟨a, dx, vs, _, rfl, _⟩ := r.obj e; rfl
  show Q (V.bl (!decide (v = V.non))) H
  rw [this]
  exact k _ _ _ (.scal e (.bl _))
theorem u_isdec : UnOk c (fun x H Q => (∃ a, x = V.str a) ∧ ∃ a, x = V.str a ∧ ([] : List V) = [] ∧ True ∧ Q (.bl (Txt.isdecimal a)) H) (un1 .isdec) := by
  intro G H v d w Q e r f k
  cases d <;> simp only [un1, vw, fresh, reduceCtorEq, Option.some.injEq] at f
  subst f; obtain rfl := r.str
  exact ⟨⟨_, rfl⟩, _, rfl, rfl, trivial, k _ _ _ (.scal e (.bl _))⟩
theorem rng_reps {k : Kc} {G : Hp} {lo : Int} : ∀ l : List Nat, Reps k G (l.map fun (i : Nat) => V.int (lo + (i : Int))) (l.map fun (i : Nat) => D.int (lo + Int.ofNat i))
  | [] => .nil
  | x :: r => .cons (.int _) (rng_reps r)
theorem u_tuple : UnOk c (fun x H Q => kTup c.K x H Q) (un1 .tuple) := by
  intro G H v d w Q e r f k
  cases d <;> simp only [un1, vw, fresh, reduceCtorEq, Option.some.injEq] at f
  · subst f; have r' := tup_same r; obtain ⟨a, vs, rfl, h, q⟩ := r.tup e
    exact .inr ⟨a, vs, rfl, h, k _ _ _ (.scal e r')⟩
  · subst f; obtain ⟨a, vs, rfl, h, q⟩ := r.lst e
    exact .inl ⟨a, vs, rfl, h, fun l hl => k _ _ _ (.tup e hl q)⟩
theorem kV_reps : ∀ {vs : List (Key × V)} {ds : List (Key × D)} {k : Kc} {G : Hp}, RepK k G vs ds → Reps k G (vs.map fun kv => kV kv.1) (ds.map fun kv => kD kv.1)
  | _, _, _, _, .nil => .nil
  | _, _, _, _, .cons (x := x) _ r => .cons (by cases x <;> constructor) (kV_reps r)
theorem sV_reps : ∀ {vs : List (Key × V)} {ds : List (Key × D)} {k : Kc} {G : Hp}, RepK k G vs ds → Reps k G (vs.map (·.2)) (ds.map (·.2))
  | _, _, _, _, .nil => .nil
  | _, _, _, _, .cons h r => .cons h (sV_reps r)
theorem u_dkeys : UnOk c (fun x H Q => rTupDk x H Q) (un1 .dkeys) := by
  intro G H v d w Q e r f k
  cases d <;> simp only [un1, vw, fresh, reduceCtorEq, Option.some.injEq] at f
  subst f; obtain ⟨a, vs, rfl, h, q⟩ := r.dic e
  exact ⟨a, vs, rfl, h, fun l hl => k _ _ _ (.tup e hl (kV_reps q))⟩
theorem u_lvals : UnOk c (fun x H Q => rListV x H Q) (un1 .lvals) := by
  intro G H v d w Q e r f k
  cases d <;> simp only [un1, vw, fresh, reduceCtorEq, Option.some.injEq] at f
  subst f; obtain ⟨a, vs, rfl, h, q⟩ := r.dic e
  exact ⟨a, vs, rfl, h, fun l hl => k _ _ _ (.lst e hl (sV_reps q))⟩
end
end Vf
end
section
namespace Vf
open PySem L2 PyProof.Rows
section
variable {X : Cx}
def CPowW (i j : Int) : Prop := 0 ≤ j ∧ j ≤ 1000 ∧ i.natAbs < 2 ^ 4096
theorem op_powW : OpR X (binaryOp .Pow) (rI CPowW fun i j => .int (i ^ j.toNat)) := opI fun i j _ _ _ _ _ hc q => by
  refine pow_int hc.1 ?_ q
  have h := PySem.intBits_le_iff.mpr hc.2.2
  have h1 := hc.1
  have h2 := hc.2.1
  have h3 : (Builtin.Int.intBits i : Int) ≤ 4096 := by exact_mod_cast h
  calc (Builtin.Int.intBits i : Int) * j ≤ 4096 * 1000 := Int.mul_le_mul h3 h2 h1 (by decide)
    _ ≤ 2 ^ 27 := by decide
theorem dEq_some {x y : D} {b : Bool} (h : dEq x y = some b) : ∃ p q, toP x = some p ∧ toP y = some q ∧ SeqAt.shaped p = true ∧ SeqAt.shaped q = true ∧ p.eqv q = b := by
  unfold dEq at h
  split at h
  · rename_i p q e1 e2
    split at h
    · rename_i hs; cases h; exact ⟨p, q, e1, e2, hs.1, hs.2, rfl⟩
    · cases h
  · cases h
end
section
variable {c : Cc}
theorem kV_of {k : Kc} {G : Hp} {v : V} {d : D} {x : Key} (h : keyD d = some x) (r : Rep k G v d) : v = kV x := by
  cases d <;> simp only [keyD, reduceCtorEq, Option.some.injEq] at h
  · subst h; exact r.i_int
  · subst h; exact r.i_str
theorem keyD_flat {d : D} {x : Key} (h : keyD d = some x) : flatD d = true := by
  cases d <;> simp only [keyD, reduceCtorEq] at h <;> rfl
theorem b_add : BiOk c (fun x y H Q => rI0 (fun i j => .int (i + j)) x y H Q ∨ (∃ i j, x = .str i ∧ y = .str j ∧ i.length + j.length ≤ sizeLine ∧ Q (.str (i ++ j)) H) ∨ rCatS c.K x y H Q ∨ rCatA c.K x y H Q) (bi1 .add) := by
  intro G H x y d e w Q ex r1 r2 f k
  cases d <;> cases e <;> simp only [bi1, vw, fresh, reduceCtorEq, Option.some.injEq] at f
  · subst f; obtain rfl := r1.int; obtain rfl := r2.int
    exact .inl ⟨_, _, rfl, rfl, k _ _ _ (.scal ex (.int _))⟩
  · obtain ⟨h, f⟩ := ck_some f; cases f; obtain rfl := r1.str; obtain rfl := r2.str
    exact .inr (.inl ⟨_, _, rfl, rfl, h, k _ _ _ (.scal ex (.str _))⟩)
  · obtain ⟨h, f⟩ := ck_some f; cases f
    have t1 := tup_same r1; have t2 := tup_same r2
    obtain ⟨a, vs, rfl, h1, q1⟩ := r1.tup ex; obtain ⟨b, us, rfl, h2, q2⟩ := r2.tup ex
    refine .inr (.inr (.inr ⟨a, b, vs, us, rfl, rfl, h1, h2, by rw [q1.length, q2.length]; exact h, fun e => ?_, fun _ e => ?_, fun _ _ p hp => k _ _ _ (.tup ex hp (q1.append q2))⟩))
    · subst e; cases q1; exact k _ _ _ (.scal ex t2)
    · subst e; cases q2; exact k _ _ _ (.scal ex (by show Rep _ _ _ (.tup (_ ++ [])); rw [List.append_nil]; exact t1))
  · obtain ⟨h, f⟩ := ck_some f; cases f
    obtain ⟨a, vs, rfl, h1, q1⟩ := r1.lst ex; obtain ⟨b, us, rfl, h2, q2⟩ := r2.lst ex
    exact .inr (.inr (.inl ⟨a, b, vs, us, rfl, rfl, h1, h2, by rw [q1.length, q2.length]; exact h, fun p hp => k _ _ _ (.lst ex hp (q1.append q2))⟩))
theorem b_sub : BiOk c (rI0 fun i j => .int (i - j)) (bi1 .sub) := by
  intro G H x y d e w Q ex r1 r2 f k
  cases d <;> cases e <;> simp only [bi1, vw, fresh, reduceCtorEq, Option.some.injEq] at f
  subst f; obtain rfl := r1.int; obtain rfl := r2.int
  exact ⟨_, _, rfl, rfl, k _ _ _ (.scal ex (.int _))⟩
theorem b_mul : BiOk c (fun x y H Q => rI CMul (fun i j => .int (i * j)) x y H Q ∨ rRepS c.K x y H Q) (bi1 .mul) := by
  intro G H x y d e w Q ex r1 r2 f k
  cases d <;> cases e <;> simp only [bi1, vw, fresh, reduceCtorEq, Option.some.injEq] at f
  · obtain ⟨h, f⟩ := ck_some f
    cases f; obtain rfl := r1.int; obtain rfl := r2.int
    refine .inl ⟨_, _, rfl, rfl, ?_, k _ _ _ (.scal ex (.int _))⟩
    rcases h with h | h
    · exact .inl (by omega)
    · exact .inr (by omega)
  · obtain ⟨h, f⟩ := ck_some f
    cases f; obtain ⟨a, vs, rfl, h1, q1⟩ := r1.lst ex; obtain rfl := r2.int
    exact .inr ⟨a, _, vs, rfl, rfl, h1, h.1, h.2.1, by rw [q1.length]; exact h.2.2, fun p hp => k _ _ _ (.lst ex hp (q1.rep _))⟩
theorem b_fdiv : BiOk c (rI CDivN fun i j => .int (i.fdiv j)) (bi1 .fdiv) := by
  intro G H x y d e w Q ex r1 r2 f k
  cases d <;> cases e <;> simp only [bi1, vw, fresh, reduceCtorEq, Option.some.injEq] at f
  obtain ⟨h, f⟩ := ck_some f
  cases f; obtain rfl := r1.int; obtain rfl := r2.int
  exact ⟨_, _, rfl, rfl, h, k _ _ _ (.scal ex (.int _))⟩
theorem b_mod : BiOk c (rI (fun _ j => j ≠ 0) fun i j => .int (i.fmod j)) (bi1 .mod) := by
  intro G H x y d e w Q ex r1 r2 f k
  cases d <;> cases e <;> simp only [bi1, vw, fresh, reduceCtorEq, Option.some.injEq] at f
  obtain ⟨h, f⟩ := ck_some f
  cases f; obtain rfl := r1.int; obtain rfl := r2.int
  exact ⟨_, _, rfl, rfl, h, k _ _ _ (.scal ex (.int _))⟩
theorem b_pow : BiOk c (rI CPowW fun i j => .int (i ^ j.toNat)) (bi1 .pow) := by
  intro G H x y d e w Q ex r1 r2 f k
  cases d <;> cases e <;> simp only [bi1, vw, fresh, reduceCtorEq, Option.some.injEq] at f
  obtain ⟨h, f⟩ := ck_some f
  cases f; obtain rfl := r1.int; obtain rfl := r2.int
  exact ⟨_, _, rfl, rfl, h, k _ _ _ (.scal ex (.int _))⟩
theorem b_eq : BiOk c (rEqD c.K) (bi1 .eq) := by
  intro G H x y d e w Q ex r1 r2 f k
  simp only [bi1, vw] at f
  split at f
  · rename_i b hb
    cases f
    obtain ⟨p, q, e1, e2, s1, s2, rfl⟩ := dEq_some hb
    exact ⟨p, q, r1.dp ex e1, r2.dp ex e2, s1, s2, k _ _ _ (.scal ex (.bl _))⟩
  · cases f
theorem b_ne : BiOk c (rNeD c.K) (bi1 .ne) := by
  intro G H x y d e w Q ex r1 r2 f k
  simp only [bi1, vw] at f
  split at f
  · rename_i b hb
    cases f
    obtain ⟨p, q, e1, e2, s1, s2, rfl⟩ := dEq_some hb
    exact ⟨p, q, r1.dp ex e1, r2.dp ex e2, s1, s2, k _ _ _ (.scal ex (.bl _))⟩
  · cases f
theorem b_lt : BiOk c (fun x y H Q => rI0 (fun i j => .bl (decide (i < j))) x y H Q ∨ ∃ i j, x = .str i ∧ y = .str j ∧ Q (.bl (decide (i.cps.toList < j.cps.toList))) H) (bi1 .lt) := by
  intro G H x y d e w Q ex r1 r2 f k
  cases d <;> cases e <;> simp only [bi1, vw, fresh, reduceCtorEq, Option.some.injEq] at f
  · subst f; obtain rfl := r1.int; obtain rfl := r2.int
    exact .inl ⟨_, _, rfl, rfl, k _ _ _ (.scal ex (.bl _))⟩
  · subst f; obtain rfl := r1.str; obtain rfl := r2.str
    exact .inr ⟨_, _, rfl, rfl, k _ _ _ (.scal ex (.bl _))⟩
theorem b_le : BiOk c (rI0 fun i j => .bl (decide (i ≤ j))) (bi1 .le) := by
  intro G H x y d e w Q ex r1 r2 f k
  cases d <;> cases e <;> simp only [bi1, vw, fresh, reduceCtorEq, Option.some.injEq] at f
  subst f; obtain rfl := r1.int; obtain rfl := r2.int
  exact ⟨_, _, rfl, rfl, k _ _ _ (.scal ex (.bl _))⟩
theorem b_gt : BiOk c (rI0 fun i j => .bl (decide (j < i))) (bi1 .gt) := by
  intro G H x y d e w Q ex r1 r2 f k
  cases d <;> cases e <;> simp only [bi1, vw, fresh, reduceCtorEq, Option.some.injEq] at f
  subst f; obtain rfl := r1.int; obtain rfl := r2.int
  exact ⟨_, _, rfl, rfl, k _ _ _ (.scal ex (.bl _))⟩
theorem b_ge : BiOk c (rI0 fun i j => .bl (decide (j ≤ i))) (bi1 .ge) := by
  intro G H x y d e w Q ex r1 r2 f k
  cases d <;> cases e <;> simp only [bi1, vw, fresh, reduceCtorEq, Option.some.injEq] at f
  subst f; obtain rfl := r1.int; obtain rfl := r2.int
  exact ⟨_, _, rfl, rfl, k _ _ _ (.scal ex (.bl _))⟩
theorem b_max2 : BiOk c (fun x y H Q => ∃ i j, [x, y] = [V.int i, V.int j] ∧ Q (.int (if j > i then j else i)) H) (bi1 .max2) := by
  intro G H x y d e w Q ex r1 r2 f k
  cases d <;> cases e <;> simp only [bi1, vw, fresh, reduceCtorEq, Option.some.injEq] at f
  subst f; obtain rfl := r1.int; obtain rfl := r2.int
  exact ⟨_, _, rfl, k _ _ _ (.scal ex (.int _))⟩
theorem b_min2 : BiOk c (fun x y H Q => ∃ i j, [x, y] = [V.int i, V.int j] ∧ Q (.int (if j < i then j else i)) H) (bi1 .min2) := by
  intro G H x y d e w Q ex r1 r2 f k
  cases d <;> cases e <;> simp only [bi1, vw, fresh, reduceCtorEq, Option.some.injEq] at f
  subst f; obtain rfl := r1.int; obtain rfl := r2.int
  exact ⟨_, _, rfl, k _ _ _ (.scal ex (.int _))⟩
theorem b_gcd : BiOk c (fun x y H Q => rGcd [x, y] H Q) (bi1 .gcd) := by
  intro G H x y d e w Q ex r1 r2 f k
  cases d <;> cases e <;> simp only [bi1, vw, fresh, reduceCtorEq, Option.some.injEq] at f
  subst f; obtain rfl := r1.int; obtain rfl := r2.int
  exact ⟨_, _, rfl, k _ _ _ (.scal ex (.int _))⟩
theorem b_lcm : BiOk c (fun x y H Q => rLcm [x, y] H Q) (bi1 .lcm) := by
  intro G H x y d e w Q ex r1 r2 f k
  cases d <;> cases e <;> simp only [bi1, vw, fresh, reduceCtorEq, Option.some.injEq] at f
  obtain ⟨h, f⟩ := ck_some f
  cases f; obtain rfl := r1.int; obtain rfl := r2.int
  exact ⟨_, _, rfl, h.1, h.2, k _ _ _ (.scal ex (.int _))⟩
/-- which reading: of a dict, of a text, of all else -/
def isDicD : D → Bool
  | .dic _ => true
  | _ => false
theorem b_inD : BiOk c (fun x y H Q => ∃ a o, y = .ref a ∧ DGet H a x o ∧ Q (.bl o.isSome) H) (fun d e => if isDicD e = true then bi1 .inn d e else none) := by
  intro G H x y d e w Q ex r1 r2 f k
  dsimp only at f
  split at f
  · cases e <;> first | (rename_i h; cases h; done) | skip
    simp only [bi1, vw] at f
    split at f
    · rename_i kk hk
      cases f
      obtain ⟨a, kvs, rfl, h, q⟩ := r2.dic ex
      refine ⟨a, valV kvs kk, rfl, ?_, ?_⟩
      · rw [kV_of hk (r1.rep (keyD_flat hk))]; exact DGet.k h
      · rcases q.val (x := kk) with ⟨e1, e2⟩ | ⟨v, d', e1, e2, _⟩
        · rw [e1] at k; rw [e2]; exact k _ _ _ (.scal ex (.bl _))
        · rw [e1] at k; rw [e2]; exact k _ _ _ (.scal ex (.bl _))
    · cases f
  · cases f
theorem b_ninD : BiOk c (fun x y H Q => ∃ a o, y = .ref a ∧ DGet H a x o ∧ Q (.bl (!o.isSome)) H) (fun d e => if isDicD e = true then bi1 .nin d e else none) := by
  intro G H x y d e w Q ex r1 r2 f k
  dsimp only at f
  split at f
  · cases e <;> first | (rename_i h; cases h; done) | skip
    simp only [bi1, vw] at f
    split at f
    · rename_i kk hk
      cases f
      obtain ⟨a, kvs, rfl, h, q⟩ := r2.dic ex
      refine ⟨a, valV kvs kk, rfl, ?_, ?_⟩
      · rw [kV_of hk (r1.rep (keyD_flat hk))]; exact DGet.k h
      · rcases q.val (x := kk) with ⟨e1, e2⟩ | ⟨v, d', e1, e2, _⟩
        · rw [e1] at k; rw [e2]; exact k _ _ _ (.scal ex (.bl _))
        · rw [e1] at k; rw [e2]; exact k _ _ _ (.scal ex (.bl _))
    · cases f
  · cases f
theorem b_inn : BiOk c (fun x y H Q => rIn c.K false x y H Q ∨ ∃ i j, x = .str i ∧ y = .str j ∧ Q (.bl (!(Builtin.Str.occurrences j i 0 j.length 1).isEmpty)) H) (fun d e => if isDicD e = true then none else bi1 .inn d e) := by
  intro G H x y d e w Q ex r1 r2 f k
  dsimp only at f
  split at f
  · cases f
  · cases e
    case lst ys =>
      simp only [bi1, vw] at f
      split at f
      · rename_i hf; cases f
        obtain ⟨a, vs, rfl, h, q⟩ := r2.lst ex
        have rx := r1.rep hf.1
        refine .inl ⟨a, vs, rfl, .inl h, flatV_of rx hf.1, q.flat hf.2, ?_⟩
        rw [if_neg Bool.false_ne_true, Reps.inV rx hf.1 q hf.2]
        exact k _ _ _ (.scal ex (.bl _))
      · cases f
    case tup ys =>
      simp only [bi1, vw] at f
      split at f
      · rename_i hf; cases f
        obtain ⟨a, vs, rfl, h, q⟩ := r2.tup ex
        have rx := r1.rep hf.1
        refine .inl ⟨a, vs, rfl, .inr h, flatV_of rx hf.1, q.flat hf.2, ?_⟩
        rw [if_neg Bool.false_ne_true, Reps.inV rx hf.1 q hf.2]
        exact k _ _ _ (.scal ex (.bl _))
      · cases f
    case str z =>
      cases d <;> simp only [bi1, vw, reduceCtorEq, Option.some.injEq] at f
      subst f; obtain rfl := r1.str; obtain rfl := r2.str
      exact .inr ⟨_, _, rfl, rfl, k _ _ _ (.scal ex (.bl _))⟩
    case dic h => exact (h rfl).elim
    all_goals (cases d <;> simp only [bi1, reduceCtorEq] at f)
theorem b_nin : BiOk c (rIn c.K true) (fun d e => if isDicD e = true then none else bi1 .nin d e) := by
  intro G H x y d e w Q ex r1 r2 f k
  dsimp only at f
  split at f
  · cases f
  · cases e
    case lst ys =>
      simp only [bi1, vw] at f
      split at f
      · rename_i hf; cases f
        obtain ⟨a, vs, rfl, h, q⟩ := r2.lst ex
        have rx := r1.rep hf.1
        refine ⟨a, vs, rfl, .inl h, flatV_of rx hf.1, q.flat hf.2, ?_⟩
        rw [if_pos rfl, Reps.inV rx hf.1 q hf.2]
        exact k _ _ _ (.scal ex (.bl _))
      · cases f
    case tup ys =>
      simp only [bi1, vw] at f
      split at f
      · rename_i hf; cases f
        obtain ⟨a, vs, rfl, h, q⟩ := r2.tup ex
        have rx := r1.rep hf.1
        refine ⟨a, vs, rfl, .inr h, flatV_of rx hf.1, q.flat hf.2, ?_⟩
        rw [if_pos rfl, Reps.inV rx hf.1 q hf.2]
        exact k _ _ _ (.scal ex (.bl _))
      · cases f
    case dic h => exact (h rfl).elim
    all_goals (cases d <;> simp only [bi1, reduceCtorEq] at f)
theorem atI_reps {k : Kc} {G : Hp} {vs : List V} {ds : List D} {i : Int} {d : D} (r : Reps k G vs ds) (h : atI ds i = some d) : ∃ v, atI vs i = some v ∧ Rep k G v d := by
  unfold atI at h ⊢
  rw [r.length]
  cases q : ixN ds.length i with
  | none => rw [q] at h; cases h
  | some j =>
    rw [q] at h
    exact r.get (i := j) h
theorem b_idx : BiOk c (rIx c.K) (fun d e => if isDicD d = true then none else bi1 .idx d e) := by
  intro G H x y d e w Q ex r1 r2 f k
  dsimp only at f
  split at f
  · cases f
  · cases d
    case lst xs =>
      cases e <;> simp only [bi1, vw, reduceCtorEq] at f
      split at f
      · rename_i d' hd; cases f
        obtain ⟨a, vs, rfl, h, q⟩ := r1.lst ex
        obtain rfl := r2.int
        obtain ⟨v, hv, rv⟩ := atI_reps q hd
        exact .inl ⟨a, vs, _, v, rfl, rfl, h, hv, k _ _ _ (.scal ex rv)⟩
      · cases f
    case tup xs =>
      cases e <;> simp only [bi1, vw, reduceCtorEq] at f
      split at f
      · rename_i d' hd; cases f
        obtain ⟨a, vs, rfl, h, q⟩ := r1.tup ex
        obtain rfl := r2.int
        obtain ⟨v, hv, rv⟩ := atI_reps q hd
        exact .inr (.inl ⟨a, vs, _, v, rfl, rfl, h, hv, k _ _ _ (.scal ex rv)⟩)
      · cases f
    case str xs =>
      cases e <;> simp only [bi1, vw, reduceCtorEq] at f
      split at f
      · rename_i d' hd
        obtain ⟨hl, f⟩ := ck_some f
        cases f
        obtain rfl := r1.str
        obtain rfl := r2.int
        exact .inr (.inr ⟨_, _, _, rfl, rfl, hl, hd, k _ _ _ (.scal ex (.str _))⟩)
      · cases f
    case dic h => exact (h rfl).elim
    all_goals (cases e <;> simp only [bi1, reduceCtorEq] at f)
theorem b_idxD : BiOk c (fun x y H Q => ∃ a v, x = .ref a ∧ DGet H a y (some v) ∧ Q v H) (fun d e => if isDicD d = true then bi1 .idx d e else none) := by
  intro G H x y d e w Q ex r1 r2 f k
  dsimp only at f
  split at f
  · cases d <;> first | (rename_i h; cases h; done) | skip
    simp only [bi1, vw] at f
    split at f
    · rename_i kk hk
      split at f
      · rename_i d' hd
        cases f
        obtain ⟨a, kvs, rfl, h, q⟩ := r1.dic ex
        rcases q.val (x := kk) with ⟨e1, e2⟩ | ⟨v, d2, e1, e2, rv⟩
        · rw [e1] at hd; cases hd
        · rw [e1] at hd; cases hd
          refine ⟨a, v, rfl, ?_, k _ _ _ (.scal ex rv)⟩
          rw [← e2, kV_of hk (r2.rep (keyD_flat hk))]; exact DGet.k h
      · cases f
    · cases f
  · cases f
theorem b_join : BiOk c (fun x y H Q => ∃ a p ys, x = V.str a ∧ [y] = [V.ref p] ∧ (SqL c.K H p (ys.map V.str) ∨ SqT c.K H p (ys.map V.str)) ∧ (ys.map fun x => x.length).sum + ys.length * a.length ≤ 16777216 ∧ Q (.str (Txt.join a ys)) H) (bi1 .join) := by
  intro G H x y d e w Q ex r1 r2 f k
  cases d <;> cases e <;> simp only [bi1, vw, fresh, reduceCtorEq, Option.some.injEq] at f
  split at f
  · rename_i ss hs
    obtain ⟨h, f⟩ := ck_some f
    cases f
    obtain rfl := r1.str
    obtain ⟨a, vs, rfl, h1, q⟩ := r2.lst ex
    exact ⟨_, a, ss, rfl, rfl, .inl (by rw [← q.strs hs]; exact h1), h, k _ _ _ (.scal ex (.str _))⟩
  · cases f
theorem b_split : BiOk c (fun x y H Q => ∃ a b, x = V.str a ∧ [y] = [V.str b] ∧ (b.length == 0) = false ∧ a.length + 2 ≤ sizeLine ∧ rNewStrs (Txt.split a b) H Q) (bi1 .split) := by
  intro G H x y d e w Q ex r1 r2 f k
  cases d <;> cases e <;> simp only [bi1, vw, fresh, reduceCtorEq, Option.some.injEq] at f
  obtain ⟨h, f⟩ := ck_some f
  cases f
  obtain rfl := r1.str
  obtain rfl := r2.str
  exact ⟨_, _, rfl, rfl, h.1, h.2, fun p hp => k _ _ _ (.lst ex hp (.ofStrs _))⟩
theorem b_part : BiOk c (fun x y H Q => ∃ a b, x = V.str a ∧ [y] = [V.str b] ∧ (b.length == 0) = false ∧ a.length ≤ sizeLine ∧ ∀ p, H p = none → Q (.ref p) (upd H p (.tup [.str (Txt.partition a b).1, .str (Txt.partition a b).2.1, .str (Txt.partition a b).2.2]))) (bi1 .part) := by
  intro G H x y d e w Q ex r1 r2 f k
  cases d <;> cases e <;> simp only [bi1, vw, fresh, reduceCtorEq, Option.some.injEq] at f
  obtain ⟨h, f⟩ := ck_some f
  cases f
  obtain rfl := r1.str
  obtain rfl := r2.str
  exact ⟨_, _, rfl, rfl, h.1, h.2, fun p hp => k _ _ _ (.tup ex hp (.cons (.str _) (.cons (.str _) (.cons (.str _) .nil))))⟩
theorem b_rmpre : BiOk c (fun x y H Q => ∃ a b, x = V.str a ∧ [y] = [V.str b] ∧ a.length ≤ sizeLine ∧ Q (.str (Txt.removeprefix a b)) H) (bi1 .rmpre) := by
  intro G H x y d e w Q ex r1 r2 f k
  cases d <;> cases e <;> simp only [bi1, vw, fresh, reduceCtorEq, Option.some.injEq] at f
  obtain ⟨h, f⟩ := ck_some f
  cases f
  obtain rfl := r1.str
  obtain rfl := r2.str
  exact ⟨_, _, rfl, rfl, h, k _ _ _ (.scal ex (.str _))⟩
end
end Vf
end
section
namespace Vf
open PySem L2

/-- the addresses that a call may write -/
def inAd : List Bool → List V → List Addr
  | true :: fl, .ref l :: vs => l :: inAd fl vs
  | true :: fl, _ :: vs => inAd fl vs
  | false :: fl, _ :: vs => inAd fl vs
  | _, _ => []
def ArgsOk (k : Kc) (G H : Hp) : List Bool → List V → List D → Prop
  | [], [], [] => True
  | true :: fl, v :: vs, d :: ds => (∃ l, v = .ref l ∧ G l = none ∧ Own k G H l d) ∧ ArgsOk k G H fl vs ds
  | false :: fl, v :: vs, d :: ds => Rep k G v d ∧ ArgsOk k G H fl vs ds
  | _, _, _ => False
def OutsOk (k : Kc) (G H : Hp) : List Bool → List V → List D → Prop
  | [], [], [] => True
  | true :: fl, v :: vs, d :: ds => (∃ l, v = .ref l ∧ G l = none ∧ Own k G H l d) ∧ OutsOk k G H fl vs ds
  | false :: fl, _ :: vs, ds => OutsOk k G H fl vs ds
  | _, _, _ => False
def ResOk (k : Kc) (G' H H' : Hp) (m : Bool) (v : V) (d : D) : Prop :=
  if m = true then ∃ l, v = .ref l ∧ H l = none ∧ G' l = none ∧ Own k G' H' l d else Rep k G' v d
/-- what a def promises: its run's value -/
def spR (k : Kc) (fl : List Bool) (vs : List V) (G H : Hp) (Q : VK) (E : XK) : R (W × List D) → Prop
  | .ok (w, outs) => ∀ G' H' v, Ex G G' → Ex G' H' → (∀ a, G' a ≠ none → G a ≠ none ∨ H a = none) → (∀ a o, H a = some o → a ∉ inAd fl vs → H' a = some o) →
      OutsOk k G' H' fl vs outs → ResOk k G' H H' w.1 v w.2 → Q v H'
  | .exc j x => ∀ (G' H' : Hp) (v : V) (dx : Addr), Rep k G' v x → Ex G G' → Ex G' H' → (∀ a, G' a ≠ none → G a ≠ none ∨ H a = none) → H' dx = some (.xd [("value", v)]) → H dx = none →
      (∀ a o, H a = some o → a ∉ inAd fl vs → H' a = some o) → E (.ref (k.cl j)) (some dx) H'
  | .stk => False
def spF (k : Kc) (F : Fs) (f : Nat) : Sp := fun vs H Q E => ∃ G ds, Ex G H ∧ ArgsOk k G H (F.ino f) vs ds ∧ (inAd (F.ino f) vs).Nodup ∧ spR k (F.ino f) vs G H Q E (F.run f ds)
/-- what the making of an object promises: x is new, its fields are set by __init__ -/
def spIR (k : Kc) (x : Addr) (G H : Hp) (Q : VK) (E : XK) : R D → Prop
  | .ok d => ∀ G' H', Ex G G' → Ex G' H' → (∀ a, G' a ≠ none → G a ≠ none ∨ H a = none ∨ a = x) → (∀ a o, H a = some o → a ≠ x → H' a = some o) → H' x ≠ none → Rep k G' (.ref x) d → Q .non H'
  | .exc j d => ∀ (G' H' : Hp) (v : V) (dx : Addr), Rep k G' v d → Ex G G' → Ex G' H' → (∀ a, G' a ≠ none → G a ≠ none ∨ H a = none) → H' dx = some (.xd [("value", v)]) → H dx = none → (∀ a o, H a = some o → a ≠ x → H' a = some o) → E (.ref (k.cl j)) (some dx) H'
  | .stk => False
def spI (k : Kc) (F : Fs) (j : Nat) : Sp := fun vs H Q E => ∃ G x dx us ds, vs = .ref x :: us ∧ Ex G H ∧ G x = none ∧ H x = some (.ins (k.cl j) dx []) ∧ Reps k G us ds ∧ spIR k x G H Q E (F.make j ds)
theorem ArgsOk.length {k : Kc} {G H : Hp} : ∀ {fl : List Bool} {vs : List V} {ds : List D}, ArgsOk k G H fl vs ds → vs.length = fl.length
  | [], [], [], _ => rfl
  | true :: fl, v :: vs, d :: ds, h => by rw [List.length_cons, List.length_cons, ArgsOk.length h.2]
  | false :: fl, v :: vs, d :: ds, h => by rw [List.length_cons, List.length_cons, ArgsOk.length h.2]
theorem spF_len {k : Kc} {F : Fs} {f : Nat} (vs : List V) (H : Hp) (Q : VK) (E : XK) (h : spF k F f vs H Q E) : vs.length = (F.ino f).length := by
  obtain ⟨G, ds, _, h, _⟩ := h
  exact h.length

/-- arguments as they stand -/
def AV (c : Cc) (σ : St) (G H : Hp) : List Arg → List V → Prop
  | [], [] => True
  | .va d :: r, v :: vs => Rep c.toKc G v d ∧ AV c σ G H r vs
  | .ino i :: r, v :: vs => loc c σ H i = some v ∧ AV c σ G H r vs
  | _, _ => False
def flOf : List Arg → List Bool
  | [] => []
  | .va _ :: r => false :: flOf r
  | .ino _ :: r => true :: flOf r
section
variable {c : Cc} {env env' : Env} {σ : St} {G H G' H' : Hp}
theorem AV.keep {e1 e2 : Env} (g : Gr c σ e1 e2 G H G' H') : ∀ {as : List Arg} {vs : List V}, AV c σ G H as vs → AV c σ G' H' as vs
  | [], [], _ => trivial
  | .va d :: r, v :: vs, h => ⟨Rep.mono g.g h.1, AV.keep g h.2⟩
  | .ino i :: r, v :: vs, h => ⟨(loc_self g.s i).trans h.1, AV.keep g h.2⟩
/-- the slots that go to the callee, and their addresses -/
def Goes (c : Cc) (σ : St) (H : Hp) (env : Env) (as : List Arg) (vs : List V) : Prop :=
  ∀ i ∈ inoIx as, ∃ m d l, getV env i = some (m, d) ∧ m ≠ .sh ∧ loc c σ H i = some (.ref l) ∧ l ∈ inAd (flOf as) vs
theorem av_args (R : Rel c env σ G H) : ∀ {as : List Arg} {vs : List V} {ds : List D}, AV c σ G H as vs → getAs env as = some ds →
    ArgsOk c.toKc G H (flOf as) vs ds ∧ (∀ i ∈ inoIx as, ∃ m d l, getV env i = some (m, d) ∧ m ≠ .sh ∧ loc c σ H i = some (.ref l) ∧ l ∈ inAd (flOf as) vs) ∧
      ∀ l ∈ inAd (flOf as) vs, ∃ i ∈ inoIx as, ∃ m d, getV env i = some (m, d) ∧ m ≠ .sh ∧ loc c σ H i = some (.ref l)
  | [], [], ds, _, e => by
    cases e
    exact ⟨trivial, (fun i h => by simp [inoIx] at h), (fun l h => by simp [flOf, inAd] at h)⟩
  | .va d :: r, v :: vs, ds, h, e => by
    simp only [getAs, Arg.get, Option.bind_some, Option.map_eq_some_iff] at e
    obtain ⟨ds', e, rfl⟩ := e
    obtain ⟨a1, a2, a3⟩ := av_args R h.2 e
    exact ⟨⟨h.1, a1⟩, a2, a3⟩
  | .ino i :: r, v :: vs, ds, h, e => by
    simp only [getAs, Option.bind_eq_some_iff, Option.map_eq_some_iff] at e
    obtain ⟨d, e1, ds', e, rfl⟩ := e
    obtain ⟨a1, a2, a3⟩ := av_args R h.2 e
    obtain ⟨m, hm, hs⟩ : ∃ m, getV env i = some (m, d) ∧ m ≠ .sh := by
      simp only [Arg.get] at e1
      cases hg : getV env i with
      | none => rw [hg] at e1; cases e1
      | some q =>
        obtain ⟨m, d'⟩ := q
        rw [hg] at e1
        cases m with
        | sh => cases e1
        | own => cases e1; exact ⟨_, rfl, by decide⟩
        | ino => cases e1; exact ⟨_, rfl, by decide⟩
    obtain ⟨v', h1, h2⟩ := R.slot i m d hm
    have h3 : loc c σ H i = some v := h.1
    rw [h3] at h1; cases h1
    obtain ⟨l, rfl, hg, ho⟩ : ∃ l, v = .ref l ∧ G l = none ∧ Own c.toKc G H l d := by
      cases m with
      | sh => exact absurd rfl hs
      | own => obtain ⟨l, e1, e2, _, o⟩ := h2; exact ⟨l, e1, e2, o⟩
      | ino => obtain ⟨l, e1, e2, _, o⟩ := h2; exact ⟨l, e1, e2, o⟩
    refine ⟨⟨⟨l, rfl, hg, ho⟩, a1⟩, fun j hj => ?_, fun l' hl => ?_⟩
    · rcases List.mem_cons.mp hj with rfl | hj
      · exact ⟨m, d, l, hm, hs, h3, List.mem_cons_self⟩
      · obtain ⟨m', d', l', b1, b2, b3, b4⟩ := a2 j hj
        exact ⟨m', d', l', b1, b2, b3, List.mem_cons_of_mem _ b4⟩
    · rcases List.mem_cons.mp hl with rfl | hl
      · exact ⟨i, List.mem_cons_self, m, d, hm, hs, h3⟩
      · obtain ⟨j, hj, b⟩ := a3 l' hl
        exact ⟨j, List.mem_cons_of_mem _ hj, b⟩
theorem av_nodup (R : Rel c env σ G H) : ∀ {as : List Arg} {vs : List V} {ds : List D}, AV c σ G H as vs → getAs env as = some ds → (inoIx as).Nodup → (inAd (flOf as) vs).Nodup
  | [], [], ds, _, _, _ => List.nodup_nil
  | .va d :: r, v :: vs, ds, h, e, n => by
    simp only [getAs, Arg.get, Option.bind_some, Option.map_eq_some_iff] at e
    obtain ⟨ds', e, rfl⟩ := e
    exact av_nodup (as := r) R h.2 e n
  | .ino i :: r, v :: vs, ds, h, e, n => by
    have e0 := e
    simp only [getAs, Option.bind_eq_some_iff, Option.map_eq_some_iff] at e
    obtain ⟨d, e1, ds', e, rfl⟩ := e
    have n' := List.nodup_cons.mp n
    have ih := av_nodup (as := r) R h.2 e n'.2
    obtain ⟨_, a2, _⟩ := av_args R h e0
    obtain ⟨m, d', l, b1, b2, b3, _⟩ := a2 i List.mem_cons_self
    have h3 : loc c σ H i = some v := h.1
    rw [h3] at b3; cases b3
    refine List.nodup_cons.mpr ⟨fun hl => ?_, ih⟩
    obtain ⟨_, _, a3⟩ := av_args R h.2 e
    obtain ⟨j, hj, mj, dj, c1, c2, c3⟩ := a3 l hl
    exact R.dist i j m d' mj dj l (fun z => by subst z; exact n'.1 hj) b1 b2 c1 c2 h3 c3
theorem back_ne : ∀ {as : List Arg} {env env' : Env} {os : List D}, backAs env as os = some env' → ∀ {i : Nat}, i ∉ inoIx as → getV env' i = getV env i
  | [], env, env', [], e, i, _ => by cases e; rfl
  | [], env, env', _ :: _, e, i, _ => by cases e
  | .va d :: r, env, env', os, e, i, h => back_ne (as := r) (by simpa only [backAs] using e) h
  | .ino j :: r, env, env', [], e, i, h => by simp [backAs] at e
  | .ino j :: r, env, env', d :: os, e, i, h => by
    simp only [backAs] at e
    split at e
    · rename_i m d' hg
      rw [back_ne (as := r) e (fun z => h (List.mem_cons_of_mem _ z)), getV_ne (fun z => by subst z; exact h List.mem_cons_self)]
    · cases e
theorem back_at : ∀ {as : List Arg} {env env' : Env} {os : List D} {vs : List V}, backAs env as os = some env' → (inoIx as).Nodup → AV c σ G H as vs → OutsOk c.toKc G' H' (flOf as) vs os →
    ∀ {i : Nat}, i ∈ inoIx as → ∀ {m : Md} {d : D}, getV env' i = some (m, d) → (∃ d0, getV env i = some (m, d0)) ∧ ∃ l, loc c σ H i = some (.ref l) ∧ l ∈ inAd (flOf as) vs ∧ G' l = none ∧ Own c.toKc G' H' l d
  | [], env, env', os, vs, e, n, av, ok, i, h => by simp [inoIx] at h
  | .va d :: r, env, env', os, v :: vs, e, n, av, ok, i, h => fun hg => back_at (as := r) (by simpa only [backAs] using e) n av.2 ok h hg
  | .ino j :: r, env, env', [], v :: vs, e, n, av, ok, i, h => by simp [backAs] at e
  | .ino j :: r, env, env', d :: os, v :: vs, e, n, av, ok, i, h => fun hg => by
    simp only [backAs] at e
    split at e
    · rename_i m' d' hg'
      obtain ⟨⟨l, rfl, hl, ho⟩, ok⟩ := ok
      have n' := List.nodup_cons.mp n
      rcases List.mem_cons.mp h with rfl | h
      · rw [back_ne e n'.1, getV_same (getV_lt hg')] at hg
        cases hg
        exact ⟨⟨d', hg'⟩, l, av.1, List.mem_cons_self, hl, ho⟩
      · obtain ⟨⟨d0, h0⟩, l', h1, h2, h3⟩ := back_at (as := r) e n'.2 av.2 ok h hg
        rw [getV_ne (fun z => by subst z; exact n'.1 h)] at h0
        exact ⟨⟨d0, h0⟩, l', h1, List.mem_cons_of_mem _ h2, h3⟩
    · cases e
theorem oL : ∀ {as : List Arg} {vs : List V} {os : List D}, AV c σ G H as vs → OutsOk c.toKc G' H' (flOf as) vs os → ∀ a ∈ inAd (flOf as) vs, H' a ≠ none
  | [], [], os, _, _, a, h => by simp [flOf, inAd] at h
  | .va d :: r, v :: vs, os, av, ok, a, h => oL av.2 ok a h
  | .ino j :: r, v :: vs, [], av, ok, a, h => by simp [flOf, OutsOk] at ok
  | .ino j :: r, v :: vs, d :: os, av, ok, a, h => by
    obtain ⟨⟨l, rfl, hl, ho⟩, ok⟩ := ok
    rcases List.mem_cons.mp h with rfl | h
    · exact ho.some
    · exact oL av.2 ok a h
/-- behind a call -/
theorem Rel.call (R : Rel c env σ G H) {as : List Arg} {vs : List V} {ds os : List D} {m : Bool} {v : V} {d : D} (av : AV c σ G H as vs) (ga : getAs env as = some ds) (nd : (inoIx as).Nodup) (bk : backAs env as os = some env')
    (gg : Ex G G') (gh : Ex G' H') (gf : ∀ a, G' a ≠ none → G a ≠ none ∨ H a = none) (fr : ∀ a o, H a = some o → a ∉ inAd (flOf as) vs → H' a = some o) (ok : OutsOk c.toKc G' H' (flOf as) vs os) (rs : ResOk c.toKc G' H H' m v d) :
    Rel c env' σ G' H' ∧ Gr c σ env env' G H G' H' ∧ ValOk c env' σ H G' H' m v d := by
  obtain ⟨_, a2, a3⟩ := av_args R av ga
  have nino : ∀ {l : Addr} {C dx : Addr} {fs : List (Str × V)}, H l = some (.ins C dx fs) → l ∉ inAd (flOf as) vs := fun {l C dx fs} h hl => by
    obtain ⟨i, _, m, d, h1, h2, h3⟩ := a3 l hl
    obtain ⟨v', q1, q2⟩ := R.slot i m d h1
    rw [h3] at q1; cases q1
    cases m with
    | sh => exact h2 rfl
    | own => obtain ⟨l', z, _, _, o⟩ := q2; cases z; rcases o.H with ⟨_, w⟩ | ⟨_, w⟩ <;> (rw [h] at w; cases w)
    | ino => obtain ⟨l', z, _, _, o⟩ := q2; cases z; rcases o.H with ⟨_, w⟩ | ⟨_, w⟩ <;> (rw [h] at w; cases w)
  have slf : ∀ x, c.self = some x → H' x = H x := fun x e => by
    obtain ⟨_, _, fs, h⟩ := R.sf x e
    rw [h, fr x _ h (nino h)]
  have hl := loc_self (c := c) (σ := σ) slf
  have gn : ∀ {l : Addr}, G l = none → H l ≠ none → G' l = none := fun {l} h1 h2 => by
    cases q : G' l with
    | none => rfl
    | some o =>
      rcases gf l (by rw [q]; exact fun z => nomatch z) with h | h
      · exact absurd h1 h
      · exact absurd h h2
  have back : ∀ {i : Nat} {m : Md} {d : D}, getV env' i = some (m, d) → ∃ d0, getV env i = some (m, d0) := fun {i m d} e => by
    by_cases hi : i ∈ inoIx as
    · exact (back_at bk nd av ok hi e).1
    · rw [back_ne bk hi] at e; exact ⟨d, e⟩
  have keepO : ∀ {i : Nat} {m : Md} {d : D} {l : Addr}, i ∉ inoIx as → getV env i = some (m, d) → m ≠ .sh → loc c σ H i = some (.ref l) → Own c.toKc G H l d → Own c.toKc G' H' l d := fun {i m d l} hi e hm hloc o => by
    have nl : l ∉ inAd (flOf as) vs := fun z => by
      obtain ⟨j, hj, mj, dj, b1, b2, b3⟩ := a3 l z
      exact R.dist i j m d mj dj l (fun w => by subst w; exact hi hj) e hm b1 b2 hloc b3
    refine o.mono gg ?_
    rcases o.H with ⟨us, h⟩ | ⟨us, h⟩ <;> rw [h, fr _ _ h nl]
  refine ⟨⟨R.len, gh, R.g0.trans gg, fun a ha => ?_, fun a o h1 h2 => ?_, fun a ha q => ?_, fun i m d e => ?_, fun i j mi di mj dj l ne e1 n1 e2 n2 l1 => ?_, fun x e => ?_, R.s0, fun x fs e h => R.fsok x fs e (by rw [← slf x e]; exact h)⟩, ⟨gg, slf, fun a o h k => fr a o h fun z => ?_, fun i m d e hm => ?_, fun a ha => (gf a ha).imp id .inl, fun a q => ?_⟩, ?_⟩
  · rcases gf a ha with h | h
    · exact R.gfr a h
    · exact .inr (R.h0 h)
  · refine fr a o (R.fr a o h1 h2) fun z => ?_
    obtain ⟨i, _, m, d, b1, b2, b3⟩ := a3 a z
    obtain ⟨v', q1, q2⟩ := R.slot i m d b1
    rw [b3] at q1; cases q1
    cases m with
    | sh => exact b2 rfl
    | own => obtain ⟨l', z, _, z2, _⟩ := q2; cases z; rw [h1] at z2; cases z2
    | ino => obtain ⟨l', z, _, z2, _⟩ := q2; cases z; exact h2 z2
  · by_cases z : a ∈ inAd (flOf as) vs
    · exact oL av ok a z q
    · cases w : H a with
      | none => exact R.sH a ha w
      | some o => rw [fr a o w z] at q; cases q
  · by_cases hi : i ∈ inoIx as
    · obtain ⟨⟨d0, e0⟩, l, c1, c2, c3, c4⟩ := back_at bk nd av ok hi e
      refine ⟨.ref l, by rw [hl]; exact c1, ?_⟩
      obtain ⟨v', q1, q2⟩ := R.slot i m d0 e0
      rw [c1] at q1; cases q1
      obtain ⟨m', d', _, b1, b2, _⟩ := a2 i hi
      rw [e0] at b1; cases b1
      cases m with
      | sh => exact absurd rfl b2
      | own => obtain ⟨l', z, _, z2, _⟩ := q2; cases z; exact ⟨l, rfl, c3, z2, c4⟩
      | ino => obtain ⟨l', z, _, z2, _⟩ := q2; cases z; exact ⟨l, rfl, c3, z2, c4⟩
    · rw [back_ne bk hi] at e
      obtain ⟨v', q1, q2⟩ := R.slot i m d e
      refine ⟨v', by rw [hl]; exact q1, ?_⟩
      cases m with
      | sh => exact Rep.mono gg q2
      | own => obtain ⟨l, rfl, z1, z2, o⟩ := q2; exact ⟨l, rfl, gn z1 o.some, z2, keepO hi e (by decide) q1 o⟩
      | ino => obtain ⟨l, rfl, z1, z2, o⟩ := q2; exact ⟨l, rfl, gn z1 o.some, z2, keepO hi e (by decide) q1 o⟩
  · rw [hl] at l1 ⊢
    obtain ⟨d1, e1⟩ := back e1
    obtain ⟨d2, e2⟩ := back e2
    exact R.dist i j mi d1 mj d2 l ne e1 n1 e2 n2 l1
  · obtain ⟨h1, h2, fs, h3⟩ := R.sf x e
    exact ⟨gn h1 (by rw [h3]; exact fun z => nomatch z), h2, fs, fr _ _ h3 (nino h3)⟩
  · obtain ⟨i, _, m, d, b1, b2, b3⟩ := a3 a z
    exact k i m d b1 b2 b3
  · obtain ⟨d0, e0⟩ := back e
    exact ⟨m, d0, e0, hm⟩
  · by_cases z : a ∈ inAd (flOf as) vs
    · exact absurd q (oL av ok a z)
    · cases w : H a with
      | none => rfl
      | some o => rw [fr a o w z] at q; cases q
  · unfold ValOk
    unfold ResOk at rs
    split
    · rename_i hm
      rw [if_pos hm] at rs
      obtain ⟨l, e1, e2, e3, o⟩ := rs
      refine ⟨l, e1, e2, e3, R.h0 e2, o, fun i md d' e hmd q => ?_⟩
      obtain ⟨d0, e⟩ := back e
      obtain ⟨v', l1, so⟩ := R.slot i md d0 e
      rw [hl] at q
      rw [l1] at q; cases q
      cases md with
      | sh => exact hmd rfl
      | own => obtain ⟨l', e4, _, _, o'⟩ := so; cases e4; exact o'.some e2
      | ino => obtain ⟨l', e4, _, _, o'⟩ := so; cases e4; exact o'.some e2
    · rename_i hm
      rw [if_neg hm] at rs
      exact rs
end
end Vf
end
section
namespace Vf
open PySem L2
section
variable {c : Cc} {env0 env : Env} {σ : St} {Gz Hz G H G' H' : Hp}
/-- behind a call that was given a container made for it alone -/
theorem Rel.call1 (R : Rel c env σ G H) (g1 : Gr c σ env0 env Gz Hz G H) {l : Addr} (hz : Hz l = none) {m : Bool} {v : V} {d : D} (hg : G l = none) (h0 : c.H0 l = none) (ns : ∀ i md d', getV env i = some (md, d') → md ≠ .sh → loc c σ H i ≠ some (.ref l)) {o0 : HO} (hl : H l = some o0) (hni : ∀ C dx fs, o0 ≠ .ins C dx fs)
    (gg : Ex G G') (gh : Ex G' H') (gf : ∀ a, G' a ≠ none → G a ≠ none ∨ H a = none) (fr : ∀ a o, H a = some o → a ∉ [l] → H' a = some o) (hl' : H' l ≠ none) (rs : ResOk c.toKc G' H H' m v d) :
    Rel c env σ G' H' ∧ Gr c σ env0 env Gz Hz G' H' ∧ ValOk c env σ H G' H' m v d := by
  have nl : ∀ {a : Addr}, a ≠ l → a ∉ [l] := fun {a} h z => h (by simpa using z)
  have slf : ∀ x, c.self = some x → H' x = H x := fun x e => by
    obtain ⟨_, _, fs, h⟩ := R.sf x e
    rw [h, fr x _ h (nl fun z => by subst z; rw [hl] at h; exact hni _ _ _ (Option.some.inj h))]
  have hloc := loc_self (c := c) (σ := σ) slf
  have gn : ∀ {l : Addr}, G l = none → H l ≠ none → G' l = none := fun {l} h1 h2 => by
    cases q : G' l with
    | none => rfl
    | some o =>
      rcases gf l (by rw [q]; exact fun z => nomatch z) with h | h
      · exact absurd h1 h
      · exact absurd h h2
  have keepO : ∀ {i : Nat} {m : Md} {d : D} {a : Addr}, getV env i = some (m, d) → m ≠ .sh → loc c σ H i = some (.ref a) → Own c.toKc G H a d → Own c.toKc G' H' a d := fun {i m d a} e hm q o => by
    have na : a ≠ l := fun z => ns i m d e hm (by rw [q, z])
    refine o.mono gg ?_
    rcases o.H with ⟨us, h⟩ | ⟨us, h⟩ <;> rw [h, fr _ _ h (nl na)]
  refine ⟨⟨R.len, gh, R.g0.trans gg, fun a ha => ?_, fun a o h1 h2 => ?_, fun a ha q => ?_, fun i m d e => ?_, fun i j mi di mj dj a ne e1 n1 e2 n2 l1 => ?_, fun x e => ?_, R.s0, fun x fs e h => R.fsok x fs e (by rw [← slf x e]; exact h)⟩, ⟨g1.g.trans gg, fun x e => (slf x e).trans (g1.s x e), fun a o h k => ?_, g1.ow, fun a ha => ?_, fun a q => g1.al a ?_⟩, ?_⟩
  · rcases gf a ha with h | h
    · exact R.gfr a h
    · exact .inr (R.h0 h)
  · exact fr a o (R.fr a o h1 h2) (nl fun z => by subst z; rw [h0] at h1; cases h1)
  · by_cases z : a = l
    · subst z; exact hl' q
    · cases w : H a with
      | none => exact R.sH a ha w
      | some o => rw [fr a o w (nl z)] at q; cases q
  · obtain ⟨v, h1, h2⟩ := R.slot i m d e
    refine ⟨v, by rw [hloc]; exact h1, ?_⟩
    cases m with
    | sh => exact Rep.mono gg h2
    | own => obtain ⟨a, e1, e2, e3, o⟩ := h2; exact ⟨a, e1, gn e2 o.some, e3, keepO e (by decide) (by rw [h1, e1]) o⟩
    | ino => obtain ⟨a, e1, e2, e3, o⟩ := h2; exact ⟨a, e1, gn e2 o.some, e3, keepO e (by decide) (by rw [h1, e1]) o⟩
  · rw [hloc] at l1 ⊢
    exact R.dist i j mi di mj dj a ne e1 n1 e2 n2 l1
  · obtain ⟨h1, h2, fs, h3⟩ := R.sf x e
    exact ⟨gn h1 (by rw [h3]; exact fun z => nomatch z), h2, fs, by rw [slf x e]; exact h3⟩
  · exact fr a o (g1.fr a o h k) (nl fun z => by subst z; rw [hz] at h; cases h)
  · rcases gf a ha with h | h
    · exact g1.gf a h
    · exact .inr (.inl (g1.al a h))
  · by_cases z : a = l
    · subst z; exact absurd q hl'
    · cases w : H a with
      | none => rfl
      | some o => rw [fr a o w (nl z)] at q; cases q
  · unfold ValOk
    unfold ResOk at rs
    split
    · rename_i hm
      rw [if_pos hm] at rs
      obtain ⟨a, e1, e2, e3, o⟩ := rs
      refine ⟨a, e1, e2, e3, R.h0 e2, o, fun i md d' e hmd q => ?_⟩
      obtain ⟨v', l1, so⟩ := R.slot i md d' e
      rw [hloc] at q
      rw [l1] at q; cases q
      cases md with
      | sh => exact hmd rfl
      | own => obtain ⟨l', e4, _, _, o'⟩ := so; cases e4; exact o'.some e2
      | ino => obtain ⟨l', e4, _, _, o'⟩ := so; cases e4; exact o'.some e2
    · rename_i hm
      rw [if_neg hm] at rs
      exact rs
end
end Vf
end
section
/-! own classes: what the machine tells of them, comparisons by an own ==, lengths -/
namespace Vf
open PySem L2

/-- what a program's top has: names of defs, classes, built-in names that stand, constants -/
structure Pi where
  fns : List Str
  cls : List Str
  free : List Str
  glos : List (Str × Cn)
  gbl : List (Str × String)
  atts : List (Nat × Str)
  kws : List (Nat × List Str × List Nat)
  mkws : List (Nat × List Str)
  eqc : List Nat
  lnc : List Nat
def tyNs : List String := ["NoneType", "bool", "int", "str", "tuple", "list", "dict"]
structure ClsX (K : PySem.W.Frag) (cl : Nat → Addr) (N k : Nat) : Prop where
  cls : L2.Cls K (cl k)
  ca : PySem.W.findIn K (.ref (cl k)) "__class__" = some (some (.builtin "object.__class__"))
  cn : PySem.W.specialIn K (.builtin "object.__class__") "__get__" = some (some (.builtin "getset_descriptor.__get__"))
  ct : PySem.W.takesIn K (.builtin "object.__class__") = some true
  cm : PySem.W.mroIn K (cl k) (.type "object") = some true
  cs : PySem.W.subIn K (.ref (cl k)) (.type "object") = some true
  ne : PySem.W.findIn K (.ref (cl k)) "__ne__" = some (some (.builtin "object.__ne__"))
  kin : ∀ j, j < N → PySem.W.kitOne K (.ref (cl j)) (.ref (cl k)) = some (decide (k = j))
  kb : ∀ t ∈ tyNs, PySem.W.kitOne K (.type t) (.ref (cl k)) = some false
  nf : ∀ t ∈ tyNs, PySem.W.notFirst K (cl k) (.type t) = true
  nfc : ∀ j, j < N → PySem.W.notFirst K (cl k) (.ref (cl j)) = true
/-- what holds of the own classes -/
structure Ob (π : Pi) (k : Kc) (F : Fs) (P : Program) (w : World) (mg : Str → Option Value) (base : Heap) (n : Nat) : Prop where
  clx : ∀ j, j < π.cls.length → ClsX k.K k.cl π.cls.length j
  on : n = 0 → F.on = false
  gcl : ∀ j nm, π.cls[j]? = some nm → mg nm = some (.ref (k.cl j))
  eqx : ∀ j ∈ π.eqc, ∃ f, F.eqf j = some f
  lnx : ∀ j ∈ π.lnc, ∃ f, F.lnf j = some f
  mks : ∀ j nm, π.cls[j]? = some nm → ∀ m, n = m + 1 → ∃ f fd ps, mg nm = some (.ref (k.cl j)) ∧ Mk k.K (k.cl j) f ∧ FnOk P w k.K mg base (L2.CX P w) m f fd ps (spI k F j) ∧ Binds k.K fd ps [] ∧ ∀ ks, (j, ks) ∈ π.mkws → KBn k.K fd ps 1 ks (fun us ws => us ++ ws) (fun vs zs => vs ++ zs)
  eqs : ∀ j f, F.eqf j = some f → ∀ m, n = m + 1 → ∃ a fd ps, Meth k.K (k.cl j) "__eq__" a ∧ FnOk P w k.K mg base (L2.CX P w) m a fd ps (spF k { F with run := F.run1 } f) ∧ Binds k.K fd ps []
  lns : ∀ j f, F.lnf j = some f → ∀ m, n = m + 1 → ∃ a fd ps, Meth k.K (k.cl j) "__len__" a ∧ FnOk P w k.K mg base (L2.CX P w) m a fd ps (spF k { F with run := F.run1 } f) ∧ Binds k.K fd ps []
def tyW (cl : Nat → Addr) : D → Value
  | .non => .type "NoneType"
  | .bl _ => .type "bool"
  | .int _ => .type "int"
  | .str _ => .type "str"
  | .tup _ => .type "tuple"
  | .lst _ => .type "list"
  | .dic _ => .type "dict"
  | .obj j _ => .ref (cl j)
theorem tyx_all {k : Kc} {G H : Hp} {v : V} {d : D} {N : Nat} (hx : ∀ j, j < N → ClsX k.K k.cl N j) (ex : Ex G H) (r : Rep1 k G H v d) (h : okY N d = true) : TyX k.K H v (tyW k.cl d) := by
  cases d
  case obj j fs =>
    obtain ⟨a, dx, fs, fs', rfl, h', _⟩ := r.obj ex
    have q := hx j (by simpa [okY] using h)
    exact .base (.ins h' q.cls q.ca q.cn q.ct q.cm)
  · rw [r.non]; exact .base .non
  · rw [r.bl]; exact .base (.bl _)
  · rw [r.int]; exact .base (.int _)
  · rw [r.str]; exact .base (.str _)
  · obtain ⟨a, vs, rfl, h, _⟩ := r.tup ex
    rcases h with (h | ⟨o, h⟩) | ⟨o, its, n, h1, h2, _⟩
    · exact .base (.tup h)
    · exact .fTuple h
    · exact .kTuple h1 h2
  · obtain ⟨a, vs, rfl, h, _⟩ := r.lst ex
    rcases h with (h | ⟨o, h⟩) | ⟨o, its, n, h1, h2, _⟩
    · exact .base (.lst h)
    · exact .base (.frz h)
    · exact .kList h1 h2
  · obtain ⟨a, vs, rfl, h, _⟩ := r.dic ex
    exact .base (.dK h)
theorem tyW_cases (cl : Nat → Addr) {N : Nat} (d : D) (h : okY N d = true) : (∃ t ∈ tyNs, tyW cl d = .type t) ∨ ∃ j, j < N ∧ tyW cl d = .ref (cl j) := by
  cases d
  case obj j fs => exact .inr ⟨j, by simpa [okY] using h, rfl⟩
  all_goals exact .inl ⟨_, by decide, rfl⟩
/-! ### a rich comparison by what the left one's class has -/
section
variable {prog : Program} {w : World} {A : Around} {E : Value → Shared → Prop} {s : Shared} {K : PySem.W.Frag} {x C L f : Addr} {h₀ : Heap} {m : Str → Option Value} {ox : Obj} {od : Option Obj} {b tb : Value}
theorem cmp_left {op : CmpOp} {Q : Value → Shared → Prop} (hu : A.units < cLine) (X : K.In s.heap) (J : PySem.W.InstAt s.heap x ox C od) (hb : PySem.W.Looks (model prog w) s.heap (typeOf b) tb) (hn : PySem.W.notFirst K C tb = true)
    (one : wpAny (model prog w) A (tryCompare (.ref x) (cmpInfo op).2.1 b) (fun r s' => ∃ v, r = some v ∧ Q v s') E s) : wpAny (model prog w) A (richCompare op (.ref x) b) Q E s := by
  have fin : ∀ r s', (∃ v, r = some v ∧ Q v s') → ∃ v, r = some v ∧ Q v s' := fun _ _ z => z
  unfold richCompare
  simp only [oneThing_ref]
  refine wpAny_holding (wpAny_bind (wpAny_cRoomFor hu (J.type.here (wpAny_bind (hb.here ?_)) |> wpAny_bind)))
  split
  · rename_i q
    have e : PySem.W.subIn K tb (.ref C) = some false := (Bool.or_eq_true_iff.mp hn).elim (fun e => by rw [beq_iff_eq.mp e] at q; simp at q) beq_iff_eq.mp
    refine wpAny_bind ((PySem.W.looks_subIn X e).here ?_)
    simp only [Bool.false_eq_true, if_false]
    refine wpAny_bind (wpAny_mono one (fun r s' z => ?_) fun _ _ e => e)
    obtain ⟨v, hv, hq⟩ := z
    subst hv
    exact wpAny_pure hq
  · refine wpAny_bind (wpAny_pure ?_)
    simp only [Bool.false_eq_true, if_false]
    refine wpAny_bind (wpAny_mono one (fun r s' z => ?_) fun _ _ e => e)
    obtain ⟨v, hv, hq⟩ := z
    subst hv
    exact wpAny_pure hq
/-- != where the class has the == alone -/
theorem ne_left {Q : Option Value → Shared → Prop} (hu : A.in1.units < cLine) (X : K.In s.heap) (J : PySem.W.InstAt s.heap x ox C od) (hne : PySem.W.findIn K (.ref C) "__ne__" = some (some (.builtin "object.__ne__"))) (hsub : PySem.W.subIn K (.ref C) (.type "object") = some true)
    (hs : PySem.W.findIn K (.ref C) "__eq__" = some (some (.ref f))) (hf : PySem.W.isFn K (.ref f) = true)
    (hc : wpAny (model prog w) A.in1 (PySem.call (.ref f) [.ref x, b]) (fun v s' => ∃ t, v = .bool t ∧ Q (some (.bool (!t))) s') E s) : wpAny (model prog w) A (tryCompare (.ref x) "__ne__" b) Q E s := by
  have S : Slot "object" "__ne__" "object.__ne__" := PySem.F.slot_object_ne
  simp only [tryCompare]
  have body : wpAny (model prog w) A.in1 (Builtin.«object.__ne__» ⟨[.ref x, b], []⟩) (fun fin s' => ∃ t, fin = .done (.ret (.bool t)) ∧ Q (some (.bool t)) s') E s := by
    unfold Builtin.«object.__ne__»
    repeat (first
      | with_reducible refine wpAny_cRoomFor hu ?_
      | (refine wpAny_bind (m := callSpecialIfBound? (.ref x) (Str.ofString "__eq__") [b]) (PySem.W.ifBound_K X J hs hf (wpAny_mono hc (fun r s' hr => by
          obtain ⟨t, rfl, hq⟩ := hr
          have hq' : ∃ u, (Fin.done (Flow.ret (Value.bool (!t)))) = .done (.ret (.bool u)) ∧ Q (some (.bool u)) s' := ⟨_, rfl, hq⟩
          repeat (first | exact hq' | exact wpAny_pure hq' | exact wpAny_truthy_bool hq' | (refine wpAny_bind (m := truthy (.bool _)) (wpAny_truthy_bool ?_)) | wp_step)) fun _ _ e => e)))
      | wp_step)
  have chk : ∀ {Q1 : Unit → Shared → Prop}, Q1 () s → wpAny (model prog w) A.in1 (checkBuiltinCall "object.__ne__" ⟨[.ref x, b], []⟩) Q1 E s := fun {Q1} hq => by
    have ha := PySem.F.cmpArgs_ne (.ref x) b
    simp only [checkBuiltinCall, PySem.F.cmpKind_ne, PySem.F.cmpSplit_ne]
    refine wpAny_bind ?_
    unfold isInstance
    refine wpAny_bind (J.type.here ((PySem.W.looks_subIn X hsub).here ?_))
    cases hsig : Manifest.signature? "object.__ne__" with
    | none => exact wpAny_pure hq
    | some sig =>
      simp only [argsOk, hsig] at ha
      exact wpAny_of_eq (show Bind.checkArgs "object.__ne__" sig ⟨[.ref x, b], []⟩ = pure () from ha) hq
  refine wpAny_bind ?_
  simp only [callSpecialIfBound?, bindSpecialIfBound?]
  refine wpAny_holding (wpAny_bind (wpAny_bind (wpAny_bind (J.type.here ((PySem.W.looks_findIn X hne).here ?_)))))
  simp only [S.bind]
  refine wpAny_bind (wpAny_askSetting (wpAny_ite ?_))
  have run : wpAny (model prog w) A (PySem.call (.builtin "object.__ne__") [.ref x, b]) (fun v s' => ∃ t, v = .bool t ∧ Q (some (.bool t)) s') E s :=
    wpAny_call (codeAny_call_builtin S.plain PySem.F.cmpEntry_ne (chk (wpAny_mono body (fun fin s' z => by
      obtain ⟨t, e, hq⟩ := z
      subst e
      exact ⟨t, rfl, hq⟩) fun _ _ e => e)))
  have fin : wpAny (model prog w) A (PySem.call (.builtin "object.__ne__") ([.ref x] ++ [b]) >>= fun v => pure (some v)) (fun r s' => ∃ t, r = some (.bool t) ∧ Q (some (.bool t)) s') E s :=
    wpAny_bind (wpAny_mono run (fun v s' z => by
      obtain ⟨t, e, hq⟩ := z
      subst e
      exact wpAny_pure ⟨t, rfl, hq⟩) fun _ _ e => e)
  split
  · refine wpAny_bind (wpAny_pure (wpAny_pure ?_))
    refine wpAny_mono fin (fun r s' z => ?_) fun _ _ e => e
    obtain ⟨t, e, hq⟩ := z
    subst e
    exact wpAny_pure hq
  · refine wpAny_tryCatch (wpAny_bind (wpAny_pure (wpAny_pure ?_)))
    refine wpAny_mono fin (fun r s' z => ?_) fun _ _ e => e
    obtain ⟨t, e, hq⟩ := z
    subst e
    exact wpAny_pure hq
end
section
variable {X : Cx} {CX : CXT} {C f : Addr} {fd : FuncData} {ps : List Str} {sp : Sp} {E : XK} {n : Nat}
/-- x == y, x != y where x's class has an own == -/
def rOwnX (K : PySem.W.Frag) (C : Addr) (ne : Bool) (sp : Sp) (E : XK) : R2 := fun x y H Q => ∃ a dx fs t, x = .ref a ∧ H a = some (.ins C dx fs) ∧ TyX K H y t ∧ PySem.W.notFirst K C t = true ∧ sp [x, y] H (fun v H' => ∃ b, v = .bl b ∧ Q (.bl (if ne = true then !b else b)) H') E
theorem inst_of {pins : List (Addr × Obj)} {σ : L2.St} {H : Hp} {s : Shared} {a dx : Addr} {fs : List (Str × V)} (I : L2.Inv X pins σ H s) (h : H a = some (.ins C dx fs)) : ∃ ox od, PySem.W.InstAt s.heap a ox C od := by
  obtain ⟨mA, J, _⟩ := ins_get I.hok h
  obtain ⟨od, J, _⟩ := J.look
  exact ⟨_, _, J⟩
theorem op_eqX (M : Meth X.K C "__eq__" f) (F : FnOk X.prog X.w X.K X.mg X.base CX n f fd ps sp) (hb : Binds X.K fd ps []) (hr : Room n X.A) (hx : Passes CX X E) : OpR X (compareOp .Eq) (rOwnX X.K C false sp E) := by
  intro pins s σ H x y v u Q I rx ry h
  obtain ⟨a, dx, fs, t, rfl, ha, ty, nf, hs⟩ := h
  cases (show v = Value.ref a from rx)
  obtain ⟨ox, od, J⟩ := inst_of I ha
  obtain ⟨P, Z, p, _⟩ := kit_of I ry ty
  show wpAny (model X.prog X.w) X.A (richCompare .Eq (.ref a) u) (EP X pins σ Q) X.xe s
  refine cmp_left hr.units0 I.kIn J (Z.ty _ _ I.kIn p) nf ?_
  unfold tryCompare
  refine wpAny_bind (PySem.W.ifBound_K I.kIn J M.at_ M.fn (wpAny_mono (run_fn F hr hb .nil hx I (.cons (show RelV (V.ref a) (Value.ref a) from rfl) (.cons ry .nil)) hs) (fun w s' z => ?_) fun _ _ e => e))
  obtain ⟨z', H', I', rz, b, e, q⟩ := z
  subst e
  cases (show w = Value.bool b from rz)
  exact wpAny_pure ⟨_, rfl, .bl b, H', I', rfl, q⟩
theorem op_neX (M : Meth X.K C "__eq__" f) (hne : PySem.W.findIn X.K (.ref C) "__ne__" = some (some (.builtin "object.__ne__"))) (hsub : PySem.W.subIn X.K (.ref C) (.type "object") = some true) (F : FnOk X.prog X.w X.K X.mg X.base CX n f fd ps sp) (hb : Binds X.K fd ps []) (hr : Room (n + 1) X.A) (hx : Passes CX X E) :
    OpR X (compareOp .NotEq) (rOwnX X.K C true sp E) := by
  intro pins s σ H x y v u Q I rx ry h
  obtain ⟨a, dx, fs, t, rfl, ha, ty, nf, hs⟩ := h
  cases (show v = Value.ref a from rx)
  obtain ⟨ox, od, J⟩ := inst_of I ha
  obtain ⟨P, Z, p, _⟩ := kit_of I ry ty
  show wpAny (model X.prog X.w) X.A (richCompare .NotEq (.ref a) u) (EP X pins σ Q) X.xe s
  refine cmp_left hr.units0 I.kIn J (Z.ty _ _ I.kIn p) nf ?_
  have hr1 : Room n X.A.in1 := hr.in1
  have r2 : Vals [V.ref a, y] [Value.ref a, u] := .cons (show RelV (V.ref a) (Value.ref a) from rfl) (.cons ry .nil)
  have hl : [Value.ref a, u].length = ps.length := by
    rw [← r2.length]; exact F.len _ _ _ _ hs
  refine ne_left hr1.units0 I.kIn J hne hsub M.at_ M.fn (wpAny_call (codeAny_mono (F.run X.A.in1 X.stack s H ⟨[.ref a, u], []⟩ [.ref a, u] [.ref a, y] _ E hr1 I.env0.in1 (by simpa using hb s [.ref a, u] I.kIn (by simpa using hl)) r2 hs) fun r s' hq => ?_))
  cases r with
  | error e => exact hx pins σ H s e s' I hq
  | ok fl =>
    cases fl with
    | ret w =>
      obtain ⟨z', H', I', rz, b, e, q⟩ := I.after hq
      subst e
      cases (show w = Value.bool b from rz)
      exact ⟨b, rfl, _, rfl, .bl (!b), H', I', rfl, q⟩
    | next => exact False.elim hq
    | brk => exact False.elim hq
    | cont => exact False.elim hq
/-- len(x) where x's class has an own length -/
def rLenX (C : Addr) (sp : Sp) (E : XK) : List V → Hp → VK → Prop := fun xs H Q => ∃ a dx fs, xs = [.ref a] ∧ H a = some (.ins C dx fs) ∧ sp [.ref a] H (fun v H' => ∃ i : Int, v = .int i ∧ 0 ≤ i ∧ i < 2 ^ 63 ∧ Q (.int i) H') E
theorem call_lenX (M : Meth X.K C "__len__" f) (F : FnOk X.prog X.w X.K X.mg X.base CX n f fd ps sp) (hb : Binds X.K fd ps []) (hr : Room (n + 1) X.A) (hx : Passes CX X E) : CallR X (.builtin "len") (rLenX C sp E) := by
  intro pins s σ H xs us Q I r h
  obtain ⟨a, dx, fs, rfl, ha, hs⟩ := h
  obtain ⟨u, eu, ru⟩ := vals1 r
  subst eu
  cases (show u = Value.ref a from ru)
  obtain ⟨ox, od, J⟩ := inst_of I ha
  obtain ⟨m, hF⟩ := I.fr
  have hr1 : Room n X.A.in1 := hr.in1
  have r2 : Vals [V.ref a] [Value.ref a] := .cons (show RelV (V.ref a) (Value.ref a) from rfl) .nil
  have hl : [Value.ref a].length = ps.length := by
    rw [← r2.length]; exact F.len _ _ _ _ hs
  refine PySem.W.len_K hF I.ok.mod.kin J M.at_ M.fn (wpAny_call (codeAny_mono (F.run X.A.in1 X.stack s H ⟨[.ref a], []⟩ [.ref a] [.ref a] _ E hr1 I.env0.in1 (by simpa using hb s [.ref a] I.kIn (by simpa using hl)) r2 hs) fun r s' hq => ?_))
  cases r with
  | error e => exact hx pins σ H s e s' I hq
  | ok fl =>
    cases fl with
    | ret w =>
      obtain ⟨z', H', I', rz, i, e, i0, i1, q⟩ := I.after hq
      subst e
      obtain ⟨tk, e2⟩ := (show ∃ t, w = Value.int i t from rz)
      subst e2
      exact ⟨⟨i0, i1⟩, .int i, H', I'.tok _, ⟨_, rfl⟩, q⟩
    | next => exact False.elim hq
    | brk => exact False.elim hq
    | cont => exact False.elim hq
end
end Vf
end
section
namespace Vf
open PySem L2

def Cn.v : Cn → V
  | .non => .non
  | .bl b => .bl b
  | .int i => .int i
  | .str x => .str x
/-- a block's names; those whose cells were made at its entry -/
structure Ns where
  l : List (Str × NameKind)
  fb : Str → Bool
  no : Str
def Ns.lookup (ns : Ns) (x : Str) : Option NameKind := ns.l.lookup x
structure Gd (π : Pi) (c : Cc) (ξ : XK) (F : Fs) (n : Nat) (N fl : List Str) (ns : Ns) (X : Cx) : Prop where
  hN : X.N = N
  len : N.length = c.n
  nd : N.Nodup
  kd : X.env.scope.names = ns.l
  knd : X.env.scope.kind = .function
  K : X.K = c.K
  calm : X.calm = true
  room : Room n X.A
  ob : Ob π c.toKc F X.prog X.w X.mg X.base n
  fn : ∀ x, ns.fb x = true → X.fn x = true
  pass : Passes (L2.CX X.prog X.w) X ξ
  free : ∀ x ∈ π.free, X.mg x = none
  glos : ∀ x k, (x, k) ∈ π.glos → ∃ u, X.mg x = some u ∧ RelV k.v u
  gbl : ∀ x id, (x, id) ∈ π.gbl → X.mg x = some (.builtin id)
  atts : ∀ k f, (k, f) ∈ π.atts → L2.Cls c.K (c.cl k) ∧ NoAttr c.K (c.cl k) f
  fld : c.fl = fl
  slf : ∀ f ∈ fl, ∃ x, c.self = some x
  selfc : ∀ f ∈ fl, L2.Cls c.K c.selfC ∧ NoAttr c.K c.selfC f
  self0 : ∀ x, c.self = some x → N[0]? = some ns.no
  kcalls : ∀ f ks pm, (f, ks, pm) ∈ π.kws → ∀ nm, π.fns[f]? = some nm → ∃ a fd ps, X.mg nm = some (.ref a) ∧ PySem.W.keepIn X.K (.ref a) = true ∧ FnOk X.prog X.w X.K X.mg X.base (L2.CX X.prog X.w) n a fd ps (spF c.toKc F f) ∧ KBn X.K fd ps (pm.length - ks.length) ks (fun us ws => permL pm (us ++ ws)) (fun vs zs => permL pm (vs ++ zs))
  calls : ∀ f nm, π.fns[f]? = some nm → ∃ a fd ps, X.mg nm = some (.ref a) ∧ PySem.W.keepIn X.K (.ref a) = true ∧ FnOk X.prog X.w X.K X.mg X.base (L2.CX X.prog X.w) n a fd ps (spF c.toKc F f) ∧ Binds X.K fd ps []

/-! ### plain pieces of syntax -/
def plain : Expr → Bool
  | .Name .. | .Constant .. | .BinOp .. | .UnaryOp .. | .BoolOp .. | .Compare .. | .IfExp .. | .Attribute .. | .Subscript .. | .Tuple .. | .List .. | .Dict .. | .JoinedStr .. | .ListComp .. | .DictComp .. => true
  | .Call f args kws _ => !(args.isEmpty && kws.isEmpty) || (match f with | .Name .. => false | _ => true)
  | _ => false
def tests : Expr → Bool
  | .UnaryOp .Not _ _ => false
  | .BoolOp .. => false
  | .IfExp .. => false
  | .Compare .. => false
  | _ => true
theorem star_plain {e : Expr} (h : plain e = true) (es : List Expr) (env : PySem.Env) : starEach (e :: es) env = (false, eval e env) :: starEach es env := by
  cases e <;> first | rfl | (cases h; done)
theorem attr_plain {e : Expr} (h : plain e = true) (f : Str) (env : PySem.Env) : attributeBase e f env (eval e env) = eval e env := by
  cases e
  case Call g args kws pos =>
    cases g <;> cases args <;> cases kws <;> first | rfl | (simp [plain] at h; done)
  all_goals first | rfl | (cases h; done)
theorem test_plain {e : Expr} (h : tests e = true) (env : PySem.Env) : ∀ whole, isTrue e env whole = (do let v ← whole; standAt e.pos; holding [v] (truthy v)) := by
  cases e
  case UnaryOp o a p => cases o <;> first | (intro _; rfl) | (cases h; done)
  all_goals first | (intro _; rfl) | (cases h; done)
theorem ix_plain {b : Expr} (h : plain b = true) : PlainIx b := by
  cases b <;> first | (intro _ _; rfl) | (cases h; done)
theorem hash_plain {b : Expr} (h : plain b = true) (env : PySem.Env) : ∀ x, foldedSetIterable b env x = pure x := by
  cases b <;> first | (intro _; rfl) | (cases h; done)
def isLc : Expr → Bool
  | .ListComp .. => true
  | .DictComp .. => true
  | _ => false
theorem sw_plain {e : Expr} (h : plain e = true) (hl : isLc e = false) (t : Option Expr) (l : Nat) (env : PySem.Env) : swapsWith e t l env = pure false := by
  cases e <;> first | rfl | (cases h; done) | (cases hl; done)
theorem behind_plain {e : Expr} (h : plain e = true) (op : CmpOp) : behindInMarks op e = false := by
  cases e <;> first | rfl | (cases h; done)

/-! ### names -/
def visB (ns : Ns) (x : Str) : Bool := match ns.lookup x with
  | some .local | some .cell | some .free => true
  | _ => false
def glbB (ns : Ns) (x : Str) : Bool := match ns.lookup x with
  | some .globalImplicit => true
  | _ => false
def nmB (x : Str) : Bool := !(x == ("__debug__" : Str)) && !(x == ("__classdict__" : Str)) && !(x == ("__name__" : Str))
section
variable {π : Pi} {c : Cc} {ξ : XK} {F : Fs} {n : Nat} {N fl : List Str} {ns : Ns} {X : Cx}
theorem Gd.vis (g : Gd π c ξ F n N fl ns X) {x : Str} (h : visB ns x = true) : Vis X.env.scope x := by
  unfold visB Ns.lookup at h
  unfold Vis
  rw [g.kd]
  split at h
  · exact .inl (by assumption)
  · exact .inr (.inl (by assumption))
  · exact .inr (.inr (by assumption))
  · cases h
theorem Gd.gl (g : Gd π c ξ F n N fl ns X) {x : Str} (h : glbB ns x = true) : Gl X x := by
  unfold glbB Ns.lookup at h
  show X.env.scope.names.lookup x = some .globalImplicit
  rw [g.kd]
  split at h
  · assumption
  · cases h
theorem nmB_ok {x : Str} (h : nmB x = true) : (x == ("__debug__" : Str)) = false ∧ (x == ("__classdict__" : Str)) = false ∧ x ≠ ("__name__" : Str) := by
  unfold nmB at h
  simp only [Bool.and_eq_true, Bool.not_eq_true', beq_eq_false_iff_ne] at h
  exact ⟨beq_eq_false_iff_ne.mpr h.1.1, beq_eq_false_iff_ne.mpr h.1.2, h.2⟩

/-- an expression and its run -/
structure Snd (X : Cx) (c : Cc) (ξ : XK) (F : Fs) (ast : Expr) (e : Vf.E) : Prop where
  pe : PE X ast (tv c ξ F e)
  pt : PT X ast (tb1 c ξ F e)
theorem Snd.mk1 (g : Gd π c ξ F n N fl ns X) {ast : Expr} {e : Vf.E} (ht : tests ast = true) (h : PE X ast (tv c ξ F e)) : Snd X c ξ F ast e :=
  ⟨h, PT.imp (pt_truth h (test_plain ht _)) fun σ H Q w => by rw [g.K]; exact Tb_of w⟩
/-- as an operand -/
theorem Snd.op {ast : Expr} {e : Vf.E} (h : PE X ast (tv c ξ F e)) (he : ∀ env, opd e (evalE F e env) env = (evalE F e env >>= fun p => .ok (.va p.1.2, p.2))) : PE X ast (to1 c ξ F e) :=
  PE.imp h fun _ _ _ w => TO_of he w
theorem snd_var (g : Gd π c ξ F n N fl ns X) {i : Nat} {x : Str} {pos : Pos} (hi : N[i]? = some x) (hv : visB ns x = true) (hm : nmB x = true) : Snd X c ξ F (.Name x pos) (.var i) ∧ PE X (.Name x pos) (to1 c ξ F (.var i)) := by
  have h : PE X (.Name x pos) (tVar i) := pe_var (by rw [g.hN]; exact hi) (g.vis hv) (nmB_ok hm).1 (nmB_ok hm).2.1
  have hlt : i < c.n := by rw [← g.len]; exact (List.getElem?_eq_some_iff.mp hi).1
  have ht : ∀ (env : Env) σ (G H : Hp) (Q : VK) v, Rel c env σ G H → loc c σ H i = some v → Q v H → (∃ p, getV env i = some p) → tVar i σ H Q := fun env σ G H Q v R hl q _ => by
    unfold loc at hl
    rw [if_pos hlt] at hl
    refine ⟨v, ?_, q⟩
    cases z : σ[i]? with
    | none => rw [z] at hl; cases hl
    | some o => rw [z] at hl; rw [show o = some v from hl]
  exact ⟨Snd.mk1 g rfl (PE.imp h fun σ H Q w => T_place ht (fun _ => by simp only [evalE]) w), PE.imp h fun σ H Q w => TO_place ht (fun _ => rfl) w⟩
theorem snd_con (g : Gd π c ξ F n N fl ns X) {k : Cn} {cst : Const} {j : Nat} {pos : Pos} (h : PE X (.Constant cst j pos) (tC k.v)) : Snd X c ξ F (.Constant cst j pos) (.con k) :=
  Snd.mk1 g rfl (PE.imp h fun σ H Q w => by
    obtain ⟨env, G, R, w⟩ := w
    simp only [evalE] at w
    refine w G H k.v R (.refl _ _) (.sh ?_)
    cases k <;> constructor)
theorem snd_glo (g : Gd π c ξ F n N fl ns X) {x : Str} {k : Cn} {pos : Pos} (hx : glbB ns x = true) (hm : nmB x = true) (hk : (x, k) ∈ π.glos) : Snd X c ξ F (.Name x pos) (.glo x k) := by
  obtain ⟨u, h1, h2⟩ := g.glos x k hk
  exact Snd.mk1 g rfl (PE.imp (pe_glob (g.gl hx) h1 h2 (nmB_ok hm).1) fun σ H Q w => by
    obtain ⟨env, G, R, w⟩ := w
    simp only [evalE] at w
    refine w G H k.v R (.refl _ _) (.sh ?_)
    cases k <;> constructor)

/-! ### operators -/
section
variable {a b : Vf.E} {x y : Expr} {pos p : Pos}
theorem snd_un (g : Gd π c ξ F n N fl ns X) {o : U1} {op : UnaryOp} {r : V → Hp → VK → Prop} (hop : UnR X (unaryOp op) r) (hn : op ≠ .Not) (hr : UnOk c r (un1 o)) (ha : PE X x (to1 c ξ F a)) : Snd X c ξ F (.UnaryOp op x pos) (.un o a) :=
  Snd.mk1 g (by cases op <;> first | rfl | exact absurd rfl hn) (PE.imp (pe_un hop ha) fun _ _ _ w => un_imp hr w)
theorem snd_callB (g : Gd π c ξ F n N fl ns X) {o : U1} {f : Str} {id : String} {r : List V → Hp → VK → Prop} (hc : CallR X (.builtin id) r) (hv : bootBuiltins f = some (.builtin id)) (hr : UnOk c (fun x H Q => r [x] H Q) (un1 o))
    (hg : glbB ns f = true) (hf : f ∈ π.free) (hm : nmB f = true) (hp : plain x = true) (ha : PE X x (to1 c ξ F a)) : Snd X c ξ F (.Call (.Name f p) [x] [] pos) (.un o a) :=
  Snd.mk1 g rfl (PE.imp (pe_callB hc (g.gl hg) (g.free f hf) hv (pa_cons ha pa_nil (star_plain hp _ _)) (nmB_ok hm).2.2 (nmB_ok hm).1 (star_plain hp _ _) rfl) fun _ _ _ w => un_imp hr w)
theorem snd_callT (g : Gd π c ξ F n N fl ns X) {o : U1} {f : Str} {T : String} {r : List V → Hp → VK → Prop} (hc : CallR X (.type T) r) (hv : bootBuiltins f = some (.type T)) (hr : UnOk c (fun x H Q => r [x] H Q) (un1 o))
    (hg : glbB ns f = true) (hf : f ∈ π.free) (hm : nmB f = true) (hp : plain x = true) (ha : PE X x (to1 c ξ F a)) : Snd X c ξ F (.Call (.Name f p) [x] [] pos) (.un o a) :=
  Snd.mk1 g rfl (PE.imp (pe_callTy hc (g.gl hg) (g.free f hf) hv (pa_cons ha pa_nil (star_plain hp _ _)) (nmB_ok hm).2.2 (nmB_ok hm).1 (star_plain hp _ _) rfl) fun _ _ _ w => un_imp hr w)
theorem snd_callB2 (g : Gd π c ξ F n N fl ns X) {o : B2} {f : Str} {id : String} {r : List V → Hp → VK → Prop} (hc : CallR X (.builtin id) r) (hv : bootBuiltins f = some (.builtin id)) (hr : BiOk c (fun x y H Q => r [x, y] H Q) (bi1 o))
    (hg : glbB ns f = true) (hf : f ∈ π.free) (hm : nmB f = true) (hp : plain x = true) (hp2 : plain y = true) (ha : PE X x (to1 c ξ F a)) (hb : PE X y (to1 c ξ F b)) : Snd X c ξ F (.Call (.Name f p) [x, y] [] pos) (.bi o a b) :=
  Snd.mk1 g rfl (PE.imp (pe_callB hc (g.gl hg) (g.free f hf) hv (pa_cons ha (pa_cons hb pa_nil (star_plain hp2 _ _)) (star_plain hp _ _)) (nmB_ok hm).2.2 (nmB_ok hm).1 (star_plain hp _ _) (by rw [star_plain hp2]; rfl)) fun _ _ _ w => bi_imp hr w)
theorem snd_bin (g : Gd π c ξ F n N fl ns X) {o : B2} {op : Operator} {r : R2} (hop : OpR X (binaryOp op) r) (hr : BiOk c r (bi1 o)) (ha : PE X x (to1 c ξ F a)) (hb : PE X y (to1 c ξ F b)) : Snd X c ξ F (.BinOp x op y pos) (.bi o a b) :=
  Snd.mk1 g rfl (PE.imp (pe_op hop ha hb) fun _ _ _ w => bi_imp hr w)
theorem cmp_bl {o : B2} (h : ∀ d e w, bi1 o d e = some w → ∃ b, w = (false, .bl b)) : ∀ env p, evalE F (.bi o a b) env = .ok p → ∃ b, p.1 = (false, .bl b) := by
  intro env p h'
  simp only [evalE] at h'
  cases q1 : opd a (evalE F a env) env with
  | exc k x => rw [q1] at h'; cases h'
  | stk => rw [q1] at h'; cases h'
  | ok u =>
    rw [q1, R.bind_ok] at h'
    cases q2 : opd b (evalE F b u.2) u.2 with
    | exc k x => rw [q2] at h'; cases h'
    | stk => rw [q2] at h'; cases h'
    | ok v =>
      rw [q2, R.bind_ok] at h'
      cases q3 : u.1.get v.2 with
      | none => rw [q3] at h'; cases h'
      | some d =>
        rw [q3, R.of_some, R.bind_ok] at h'
        cases q4 : v.1.get v.2 with
        | none => rw [q4] at h'; cases h'
        | some e =>
          rw [q4, R.of_some, R.bind_ok] at h'
          cases q5 : bi1 o d e with
          | none => rw [q5] at h'; cases h'
          | some w =>
            rw [q5, R.of_some, R.bind_ok] at h'
            cases h'
            exact h d e w q5
theorem snd_cmp (g : Gd π c ξ F n N fl ns X) {o : B2} {op : CmpOp} {r : R2} (hop : OpR X (compareOp op) r) (hr : BiOk c r (bi1 o)) (hb1 : ∀ d e w, bi1 o d e = some w → ∃ b, w = (false, .bl b)) (hp : plain y = true) (ha : PE X x (to1 c ξ F a)) (hb : PE X y (to1 c ξ F b)) : Snd X c ξ F (.Compare x [op] [y] pos) (.bi o a b) :=
  ⟨PE.imp (pe_cmpR hop ha hb (behind_plain hp _)) fun _ _ _ w => bi_imp hr w, PT.imp (pt_cmpR hop ha hb (behind_plain hp _)) fun _ _ _ w => bi_imp hr (Tb_bl (cmp_bl hb1) w)⟩
/-- two readings, by what the operands are -/
theorem bi_or {o : B2} {P : D → D → Bool} {r r' : R2} (h1 : BiOk c r (fun d e => if P d e = true then bi1 o d e else none)) (h2 : BiOk c r' (fun d e => if P d e = true then none else bi1 o d e)) {σ : St} {H : Hp} {Q : VK} (h : tv c ξ F (.bi o a b) σ H Q) :
    tOp r (to1 c ξ F a) (to1 c ξ F b) σ H Q ∨ tOp r' (to1 c ξ F a) (to1 c ξ F b) σ H Q := by
  obtain ⟨env, G, R, h⟩ := h
  simp only [evalE, PR.bind] at h
  by_cases hP : ∃ p q d e, opd a (evalE F a env) env = .ok p ∧ opd b (evalE F b p.2) p.2 = .ok q ∧ p.1.get q.2 = some d ∧ q.1.get q.2 = some e ∧ P d e = false
  · obtain ⟨p0, q0, d0, e0, z1, z2, z3, z4, z5⟩ := hP
    refine .inr ⟨env, G, R, ?_⟩
    rw [z1] at h ⊢
    intro G1 H1 x R1 g1 o1
    refine ⟨p0.2, G1, R1, ?_⟩
    have h' : PR c ξ (opd b (evalE F b p0.2) p0.2) _ := h
    rw [z2] at h' ⊢
    intro G2 H2 y R2 g2 o2
    have h2' : PR c ξ (Vf.R.of (p0.1.get q0.2)) _ := h'
    obtain ⟨d, e1, k1⟩ := PR.of h2'
    obtain ⟨e, e2, k2⟩ := PR.of k1
    obtain ⟨w, e3, k3⟩ := PR.of k2
    rw [z3] at e1; cases e1
    rw [z4] at e2; cases e2
    refine h2 G2 H2 x y d0 e0 w Q R2.ex ((o1.keep g2).rep1 R2 z3) (o2.rep1 R2 z4) (by dsimp only; rw [z5, if_neg Bool.false_ne_true]; exact e3) fun G3 H3 v3 N => ?_
    obtain ⟨R3, ok⟩ := R2.new N
    exact k3 G3 H3 v3 R3 ((g1.trans g2).trans (R2.gr N)) (ok.back (g1.trans g2).al)
  · refine .inl ⟨env, G, R, ?_⟩
    cases z1 : opd a (evalE F a env) env with
    | stk => rw [z1] at h; exact h.elim
    | exc k x => rw [z1] at h; exact h
    | ok p0 =>
      rw [z1] at h
      intro G1 H1 x R1 g1 o1
      refine ⟨p0.2, G1, R1, ?_⟩
      have h' : PR c ξ (opd b (evalE F b p0.2) p0.2) _ := h
      cases z2 : opd b (evalE F b p0.2) p0.2 with
      | stk => rw [z2] at h'; exact h'.elim
      | exc k x => rw [z2] at h'; exact h'
      | ok q0 =>
        rw [z2] at h'
        intro G2 H2 y R2 g2 o2
        have h2' : PR c ξ (Vf.R.of (p0.1.get q0.2)) _ := h'
        obtain ⟨d, e1, k⟩ := PR.of h2'
        obtain ⟨e, e2, k⟩ := PR.of k
        obtain ⟨w, e3, k⟩ := PR.of k
        have hp : P d e = true := by
          cases z5 : P d e with
          | true => rfl
          | false => exact absurd ⟨p0, q0, d, e, z1, z2, e1, e2, z5⟩ hP
        refine h1 G2 H2 x y d e w Q R2.ex ((o1.keep g2).rep1 R2 e1) (o2.rep1 R2 e2) (by dsimp only; rw [hp, if_pos rfl]; exact e3) fun G3 H3 v3 N => ?_
        obtain ⟨R3, ok⟩ := R2.new N
        exact k G3 H3 v3 R3 ((g1.trans g2).trans (R2.gr N)) (ok.back (g1.trans g2).al)
end
end
end Vf
end
section
namespace Vf
open PySem L2
section
variable {π : Pi} {c : Cc} {ξ : XK} {F : Fs} {n : Nat} {N fl : List Str} {ns : Ns} {X : Cx}
variable {a b e : Vf.E} {x y z : Expr} {pos p : Pos}
theorem snd_not (g : Gd π c ξ F n N fl ns X) (h : Snd X c ξ F x a) : Snd X c ξ F (.UnaryOp .Not x pos) (.not a) := by
  refine ⟨PE.imp (pe_notT h.pe) fun σ H Q w => ?_, PT.imp (pt_not h.pt) fun σ H Q w => ?_⟩
  · obtain ⟨env, G, R, w⟩ := w
    simp only [evalE, PR.bind] at w
    refine T_sh R (w.mono fun p k G1 H1 v R1 g1 r1 => ?_)
    obtain ⟨t, e1, k⟩ := PR.of k
    exact ⟨t, by rw [g.K]; exact tru_of R1.ex r1 e1, k G1 H1 _ R1 g1 (.sh (.bl _))⟩
  · obtain ⟨env, G, R, w⟩ := w
    simp only [evalE, PR.bind] at w
    refine ⟨env, G, R, w.mono fun p k => ?_⟩
    obtain ⟨t, e1, b, e2, k⟩ := PR.of k
    refine ⟨t, e1, fun G1 H1 R1 g1 => ?_⟩
    simp only [dtruth, Option.some.injEq] at e2
    subst e2
    exact k G1 H1 R1 g1
/-- a chain of and, or -/
structure SndB (X : Cx) (c : Cc) (ξ : XK) (F : Fs) (op : BoolOp) (es : List Expr) (pos : Pos) (e : Vf.E) : Prop where
  pe : PE X (.BoolOp op es pos) (tv c ξ F e)
  pw : PW X (.BoolOp op es pos) (tb1 c ξ F e)
theorem SndB.snd {op : BoolOp} {es : List Expr} (h : SndB X c ξ F op es pos e) : Snd X c ξ F (.BoolOp op es pos) e := ⟨h.pe, h.pw.pt⟩
theorem sndb_one {op : BoolOp} (h : Snd X c ξ F x a) : SndB X c ξ F op [x] pos a := ⟨pe_one h.pe, by cases op <;> first | exact pw_and1 h.pt | exact pw_or1 h.pt⟩
theorem sndb_and (g : Gd π c ξ F n N fl ns X) {rest : List Expr} (h : Snd X c ξ F x a) (h2 : SndB X c ξ F .And (y :: rest) pos b) : SndB X c ξ F .And (x :: y :: rest) pos (.and a b) := by
  refine ⟨PE.imp (pe_andT h.pe h2.pe) fun σ H Q w => ?_, ⟨fun whole pins s σ H Q I w => (pw_and h.pt h2.pw).run whole pins s σ H Q I ?_⟩⟩
  · obtain ⟨env, G, R, w⟩ := w
    simp only [evalE, PR.bind] at w
    refine T_sh R (w.mono fun p k G1 H1 v R1 g1 r1 => ?_)
    obtain ⟨t, e1, k⟩ := PR.of k
    refine ⟨t, by rw [g.K]; exact tru_of R1.ex r1 e1, ?_⟩
    cases t with
    | true => exact ⟨p.2, G1, R1, PR.mono (show PR c ξ (evalE F b p.2) _ from k) fun q k G2 H2 v2 R2 g2 ok => k G2 H2 v2 R2 (g1.trans g2) (ok.back g1.al)⟩
    | false => exact (show PR c ξ (Vf.R.ok ((false, p.1.2), p.2)) _ from k) G1 H1 v R1 g1 (.sh r1)
  · obtain ⟨env, G, R, w⟩ := w
    simp only [evalE, PR.bind] at w
    refine ⟨env, G, R, w.mono fun p k => ?_⟩
    obtain ⟨t, e1, k⟩ := PR.of k
    refine ⟨t, e1, fun G1 H1 R1 g1 => ?_⟩
    cases t with
    | true => exact ⟨p.2, G1, R1, PR.mono (show PR c ξ (evalE F b p.2) _ from k) fun q ⟨b0, e2, k⟩ => ⟨b0, e2, fun G2 H2 R2 g2 => k G2 H2 R2 (g1.trans g2)⟩⟩
    | false =>
      obtain ⟨b0, e2, k⟩ := (show PR c ξ (Vf.R.ok ((false, p.1.2), p.2)) _ from k)
      have e2' : dtruth p.1.2 = some b0 := e2
      rw [e1] at e2'; cases e2'
      exact k G1 H1 R1 g1
theorem sndb_or (g : Gd π c ξ F n N fl ns X) {rest : List Expr} (h : Snd X c ξ F x a) (h2 : SndB X c ξ F .Or (y :: rest) pos b) : SndB X c ξ F .Or (x :: y :: rest) pos (.or a b) := by
  refine ⟨PE.imp (pe_orT h.pe h2.pe) fun σ H Q w => ?_, ⟨fun whole pins s σ H Q I w => (pw_or h.pt h2.pw).run whole pins s σ H Q I ?_⟩⟩
  · obtain ⟨env, G, R, w⟩ := w
    simp only [evalE, PR.bind] at w
    refine T_sh R (w.mono fun p k G1 H1 v R1 g1 r1 => ?_)
    obtain ⟨t, e1, k⟩ := PR.of k
    refine ⟨t, by rw [g.K]; exact tru_of R1.ex r1 e1, ?_⟩
    cases t with
    | false => exact ⟨p.2, G1, R1, PR.mono (show PR c ξ (evalE F b p.2) _ from k) fun q k G2 H2 v2 R2 g2 ok => k G2 H2 v2 R2 (g1.trans g2) (ok.back g1.al)⟩
    | true => exact (show PR c ξ (Vf.R.ok ((false, p.1.2), p.2)) _ from k) G1 H1 v R1 g1 (.sh r1)
  · obtain ⟨env, G, R, w⟩ := w
    simp only [evalE, PR.bind] at w
    refine ⟨env, G, R, w.mono fun p k => ?_⟩
    obtain ⟨t, e1, k⟩ := PR.of k
    refine ⟨t, e1, fun G1 H1 R1 g1 => ?_⟩
    cases t with
    | false => exact ⟨p.2, G1, R1, PR.mono (show PR c ξ (evalE F b p.2) _ from k) fun q ⟨b0, e2, k⟩ => ⟨b0, e2, fun G2 H2 R2 g2 => k G2 H2 R2 (g1.trans g2)⟩⟩
    | true =>
      obtain ⟨b0, e2, k⟩ := (show PR c ξ (Vf.R.ok ((false, p.1.2), p.2)) _ from k)
      have e2' : dtruth p.1.2 = some b0 := e2
      rw [e1] at e2'; cases e2'
      exact k G1 H1 R1 g1
/-- a test as a condition, what follows by its answer -/
theorem tb_of_cond {α : Type} {f : Bool → Env → Vf.R α} {σ : St} {H : Hp} {Q : Bool → Hp → Prop} {env : Env} {G : Hp} {P : α → Prop} (R : Rel c env σ G H) (w : PR c ξ (evalE F a env >>= fun p => Vf.R.of (dtruth p.1.2) >>= fun t => f t p.2) P)
    (k : ∀ t env1 G1 H1, Rel c env1 σ G1 H1 → Gr c σ env env1 G H G1 H1 → PR c ξ (f t env1) P → Q t H1) : tb1 c ξ F a σ H Q := by
  simp only [PR.bind] at w
  refine ⟨env, G, R, w.mono fun p q => ?_⟩
  obtain ⟨t, e1, q⟩ := PR.of q
  exact ⟨t, e1, fun G1 H1 R1 g1 => k t p.2 G1 H1 R1 g1 q⟩
theorem snd_ite (g : Gd π c ξ F n N fl ns X) (h : Snd X c ξ F z e) (ha : Snd X c ξ F x a) (hb : Snd X c ξ F y b) : PE X (.IfExp z x y pos) (tv c ξ F (.ite e a b)) := by
  refine PE.imp (pe_ifExp h.pt ha.pe hb.pe) fun σ H Q w => ?_
  obtain ⟨env, G, R, w⟩ := w
  simp only [evalE] at w
  refine tb_of_cond (f := fun t env => if t = true then evalE F a env else evalE F b env) R w fun t env1 G1 H1 R1 g1 k => ?_
  cases t with
  | true => exact ⟨env1, G1, R1, PR.mono (show PR c ξ (evalE F a env1) _ from k) fun q k G2 H2 v2 R2 g2 ok => k G2 H2 v2 R2 (g1.trans g2) (ok.back g1.al)⟩
  | false => exact ⟨env1, G1, R1, PR.mono (show PR c ξ (evalE F b env1) _ from k) fun q k G2 H2 v2 R2 g2 ok => k G2 H2 v2 R2 (g1.trans g2) (ok.back g1.al)⟩
/-- an if-expression as a test -/
theorem pt_ifExp {tA tB tC : TT} (hc : PT X z tA) (ha : PT X x tB) (hb : PT X y tC) : PT X (.IfExp z x y pos) (fun σ H Q => tA σ H fun t H1 => if t = true then tB σ H1 Q else tC σ H1 Q) := by
  refine ⟨fun pins s σ H Q I h => ?_⟩
  show wpAny _ _ (do if ← isTrue z X.env (eval z X.env) then isTrue x X.env (eval x X.env) else isTrue y X.env (eval y X.env)) _ _ s
  refine wpAny_bind (thn (hc.run pins s σ H _ I h) fun t s1 ⟨H1, I1, q⟩ => ?_)
  cases t with
  | true => exact ha.run pins s1 σ H1 _ I1 q
  | false => exact hb.run pins s1 σ H1 _ I1 q
theorem snd_ite' (g : Gd π c ξ F n N fl ns X) (h : Snd X c ξ F z e) (ha : Snd X c ξ F x a) (hb : Snd X c ξ F y b) : Snd X c ξ F (.IfExp z x y pos) (.ite e a b) := by
  refine ⟨snd_ite g h ha hb, PT.imp (pt_ifExp h.pt ha.pt hb.pt) fun σ H Q w => ?_⟩
  obtain ⟨env, G, R, w⟩ := w
  simp only [evalE] at w
  refine tb_of_cond (f := fun t env => if t = true then evalE F a env else evalE F b env) R w fun t env1 G1 H1 R1 g1 k => ?_
  cases t with
  | true => exact ⟨env1, G1, R1, PR.mono (show PR c ξ (evalE F a env1) _ from k) fun q ⟨b0, e2, k⟩ => ⟨b0, e2, fun G2 H2 R2 g2 => k G2 H2 R2 (g1.trans g2)⟩⟩
  | false => exact ⟨env1, G1, R1, PR.mono (show PR c ξ (evalE F b env1) _ from k) fun q ⟨b0, e2, k⟩ => ⟨b0, e2, fun G2 H2 R2 g2 => k G2 H2 R2 (g1.trans g2)⟩⟩
/-- in -/
theorem or_pe {ast : Expr} {t t' t'' : TE} (h : PE X ast t) (h' : PE X ast t') (k : ∀ σ H Q, t'' σ H Q → t σ H Q ∨ t' σ H Q) : PE X ast t'' := PE.imp (PE.or h h') k
theorem PT.or {ast : Expr} {t t' : TT} (h : PT X ast t) (h' : PT X ast t') : PT X ast (fun σ H Q => t σ H Q ∨ t' σ H Q) := ⟨fun pins s σ H Q I w => by
  rcases w with w | w
  · exact h.run pins s σ H Q I w
  · exact h'.run pins s σ H Q I w⟩
theorem in_bl (d e : D) (w : W) (h : bi1 .inn d e = some w) : ∃ b, w = (false, .bl b) := by
  cases e <;> simp only [bi1, vw] at h
  case lst => split at h <;> first | (cases h; exact ⟨_, rfl⟩) | cases h
  case tup => split at h <;> first | (cases h; exact ⟨_, rfl⟩) | cases h
  case dic => split at h <;> first | (cases h; exact ⟨_, rfl⟩) | cases h
  case str => cases d <;> simp only [bi1, vw, reduceCtorEq, Option.some.injEq] at h; exact ⟨_, h.symm⟩
  all_goals (cases d <;> simp only [bi1, reduceCtorEq] at h)
theorem nin_bl (d e : D) (w : W) (h : bi1 .nin d e = some w) : ∃ b, w = (false, .bl b) := by
  cases e <;> simp only [bi1, vw] at h
  case lst => split at h <;> first | (cases h; exact ⟨_, rfl⟩) | cases h
  case tup => split at h <;> first | (cases h; exact ⟨_, rfl⟩) | cases h
  case dic => split at h <;> first | (cases h; exact ⟨_, rfl⟩) | cases h
  all_goals (cases d <;> simp only [bi1, reduceCtorEq] at h)
theorem snd_in (g : Gd π c ξ F n N fl ns X) (hp : plain y = true) (ha : PE X x (to1 c ξ F a)) (hb : PE X y (to1 c ξ F b)) : Snd X c ξ F (.Compare x [.In] [y] pos) (.bi .inn a b) := by
  have hu := hu_of g.room
  have op : OpR X (compareOp .In) _ := op_in_seq.or op_in_str
  have key : ∀ σ H Q, tv c ξ F (.bi .inn a b) σ H Q → tDIn (to1 c ξ F a) (to1 c ξ F b) σ H Q ∨ tOp (fun x y H Q => rIn c.K false x y H Q ∨ ∃ i j, x = .str i ∧ y = .str j ∧ Q (.bl (!(Builtin.Str.occurrences j i 0 j.length 1).isEmpty)) H) (to1 c ξ F a) (to1 c ξ F b) σ H Q :=
    fun σ H Q w => bi_or (P := fun _ e => isDicD e) b_inD b_inn w
  rw [g.K] at op
  exact ⟨or_pe (pe_cmp (pc_din hu ha hb) (behind_plain hp _)) (pe_cmpR op ha hb (behind_plain hp _)) key,
    PT.imp (PT.or (pt_cmp (pc_din hu ha hb) (behind_plain hp _)) (pt_cmpR op ha hb (behind_plain hp _))) fun σ H Q w => key σ H _ (Tb_bl (cmp_bl in_bl) w)⟩
theorem snd_nin (g : Gd π c ξ F n N fl ns X) (hp : plain y = true) (ha : PE X x (to1 c ξ F a)) (hb : PE X y (to1 c ξ F b)) : Snd X c ξ F (.Compare x [.NotIn] [y] pos) (.bi .nin a b) := by
  have hu := hu_of g.room
  have op : OpR X (compareOp .NotIn) _ := op_notIn_seq
  have key : ∀ σ H Q, tv c ξ F (.bi .nin a b) σ H Q → tDNotIn (to1 c ξ F a) (to1 c ξ F b) σ H Q ∨ tOp (rIn c.K true) (to1 c ξ F a) (to1 c ξ F b) σ H Q :=
    fun σ H Q w => bi_or (P := fun _ e => isDicD e) b_ninD b_nin w
  rw [g.K] at op
  exact ⟨or_pe (pe_cmp (pc_dnotin hu ha hb) (behind_plain hp _)) (pe_cmpR op ha hb (behind_plain hp _)) key,
    PT.imp (PT.or (pt_cmp (pc_dnotin hu ha hb) (behind_plain hp _)) (pt_cmpR op ha hb (behind_plain hp _))) fun σ H Q w => key σ H _ (Tb_bl (cmp_bl nin_bl) w)⟩
/-- xs[i], d[k] -/
theorem snd_idx (g : Gd π c ξ F n N fl ns X) (hp : plain y = true) (ha : PE X x (to1 c ξ F a)) (hb : PE X y (to1 c ξ F b)) : Snd X c ξ F (.Subscript x y pos) (.bi .idx a b) := by
  have hu := hu_of g.room
  have op : IxR X _ := ix_seq
  rw [g.K] at op
  exact Snd.mk1 g rfl (or_pe (pe_dget hu ha hb (ix_plain hp)) (pe_ix op ha hb (ix_plain hp)) fun σ H Q w => bi_or (P := fun d _ => isDicD d) b_idxD b_idx w)
/-- methods of texts -/
theorem snd_mt0 (g : Gd π c ξ F n N fl ns X) {o : U1} {id : String} {name : Str} {apos : Pos} {r : V → List V → Hp → VK → Prop} (slot : PySem.Slot "str" name id) (ty : typeOf (.builtin id) = pure (.type "method_descriptor")) (rule : MtR X id r)
    (hr : UnOk c (fun x H Q => (∃ a, x = V.str a) ∧ r x [] H Q) (un1 o)) (hp : plain x = true) (hl : (apos.endLine == pos.line) = true) (ha : PE X x (tv c ξ F a)) : Snd X c ξ F (.Call (.Attribute x name apos) [] [] pos) (.mt0 o a) :=
  Snd.mk1 g rfl (PE.imp (pe_m0 slot ty rule ha (attr_plain hp _ _) hl) fun σ H Q w => by
    obtain ⟨env, G, R, w⟩ := w
    simp only [evalE, PR.bind] at w
    refine T_sh R (w.mono fun p k G1 H1 v R1 g1 r1 => ?_)
    obtain ⟨w, e1, k⟩ := PR.of k
    refine hr G1 H1 v _ w Q R1.ex (.of r1) e1 fun G2 H2 v2 N => ?_
    obtain ⟨R2, ok⟩ := R1.new N
    exact k G2 H2 v2 R2 (g1.trans (R1.gr N)) (ok.back g1.al))
theorem snd_mt1 (g : Gd π c ξ F n N fl ns X) {o : B2} {id : String} {name : Str} {apos : Pos} {r : V → List V → Hp → VK → Prop} (slot : PySem.Slot "str" name id) (ty : typeOf (.builtin id) = pure (.type "method_descriptor")) (rule : MtR X id r)
    (hr : BiOk c (fun x y H Q => r x [y] H Q) (bi1 o)) (hp : plain x = true) (hp2 : plain y = true) (hl : (apos.endLine == pos.line) = true) (ha : PE X x (tv c ξ F a)) (hb : PE X y (to1 c ξ F b)) :
    Snd X c ξ F (.Call (.Attribute x name apos) [y] [] pos) (.mt1 o a b) :=
  Snd.mk1 g rfl (PE.imp (pe_m1 slot ty rule ha hb (star_plain hp2 _ _) (attr_plain hp _ _) hl) fun σ H Q w => by
    obtain ⟨env, G, R, w⟩ := w
    simp only [evalE, PR.bind] at w
    refine T_sh R (w.mono fun p k G1 H1 v R1 g1 r1 => ?_)
    obtain ⟨hs, k⟩ := PR.chk k
    refine ⟨?_, p.2, G1, R1, PR.mono (show PR c ξ (opd b (evalE F b p.2) p.2) _ from k) fun q k G2 H2 y2 R2 g2 o2 => ?_⟩
    · revert r1 hs
      cases p.1.2 <;> intro r1 hs <;> first | exact ⟨_, r1.i_str⟩ | cases hs
    · obtain ⟨d, e1, k⟩ := PR.of k
      obtain ⟨w, e2, k⟩ := PR.of k
      refine hr G2 H2 v y2 _ d w Q R2.ex (.of (r1.mono g2.g)) (o2.rep1 R2 e1) e2 fun G3 H3 v3 N => ?_
      obtain ⟨R3, ok⟩ := R2.new N
      exact k G3 H3 v3 R3 ((g1.trans g2).trans (R2.gr N)) (ok.back (g1.trans g2).al))
end
end Vf
end
section
namespace Vf
open PySem L2
section
variable {π : Pi} {c : Cc} {ξ : XK} {F : Fs} {n : Nat} {N fl : List Str} {ns : Ns} {X : Cx}
variable {a b e : Vf.E} {x y z : Expr} {pos p : Pos} {es : Vf.Es} {xs : List Expr}
/-! ### several -/
theorem sas_nil : PA X [] (ta1 c ξ F .nil) := PA.imp pa_nil fun σ H Q w => by
  obtain ⟨env, G, R, w⟩ := w
  simp only [evalEs] at w
  exact w G H [] R (.refl _ _) .nil
theorem sas_cons (hp : plain x = true) (h : PE X x (tv c ξ F a)) (hr : PA X xs (ta1 c ξ F es)) : PA X (x :: xs) (ta1 c ξ F (.cons a es)) := PA.imp (pa_cons h hr (star_plain hp _ _)) fun σ H Q w => by
  obtain ⟨env, G, R, w⟩ := w
  simp only [evalEs, PR.bind] at w
  refine T_sh R (w.mono fun p k G1 H1 v R1 g1 r1 => ⟨p.2, G1, R1, k.mono fun q k G2 H2 vs R2 g2 r2 => ?_⟩)
  exact k G2 H2 (v :: vs) R2 (g1.trans g2) (.cons (r1.mono g2.g) r2)
theorem snd_tup (g : Gd π c ξ F n N fl ns X) {j : Nat} (h : PA X xs (ta1 c ξ F es)) : Snd X c ξ F (.Tuple xs j pos) (.tup es) :=
  Snd.mk1 g rfl (PE.imp (pe_tup h) fun σ H Q w => by
    obtain ⟨env, G, R, w⟩ := w
    simp only [evalE, PR.bind] at w
    refine ⟨env, G, R, w.mono fun p k G1 H1 vs R1 g1 r1 => ?_⟩
    obtain ⟨hl, k⟩ := PR.chk k
    refine ⟨by rw [r1.length]; exact hl, fun l hl => ?_⟩
    obtain ⟨R2, ok⟩ := R1.new (New.tup R1.ex hl r1)
    exact (show ∀ G' H' v, _ from k) _ _ _ R2 (g1.trans (R1.gr (New.tup R1.ex hl r1))) (ok.back g1.al))
theorem snd_lst (g : Gd π c ξ F n N fl ns X) (h : PA X xs (ta1 c ξ F es)) : Snd X c ξ F (.List xs pos) (.lst es) :=
  Snd.mk1 g rfl (PE.imp (pe_lst h) fun σ H Q w => by
    obtain ⟨env, G, R, w⟩ := w
    simp only [evalE, PR.bind] at w
    refine ⟨env, G, R, w.mono fun p k G1 H1 vs R1 g1 r1 => ?_⟩
    obtain ⟨hl, k⟩ := PR.chk k
    refine ⟨by rw [r1.length]; exact hl, fun l hl => ?_⟩
    obtain ⟨R2, ok⟩ := R1.new (New.lst R1.ex hl r1)
    exact (show ∀ G' H' v, _ from k) _ _ _ R2 (g1.trans (R1.gr (New.lst R1.ex hl r1))) (ok.back g1.al))
theorem snd_att (g : Gd π c ξ F n N fl ns X) {k : Nat} {f : Str} (hp : plain x = true) (hcl : L2.Cls c.K (c.cl k) ∧ NoAttr c.K (c.cl k) f) (h : PE X x (tv c ξ F a)) : Snd X c ξ F (.Attribute x f pos) (.att a k f) :=
  Snd.mk1 g rfl (PE.imp (pe_fld h (attr_plain hp _ _)) fun σ H Q w => by
    obtain ⟨env, G, R, w⟩ := w
    simp only [evalE, PR.bind] at w
    refine T_sh R (w.mono fun p k G1 H1 v R1 g1 r1 => ?_)
    obtain ⟨u, e1, k⟩ := PR.of k
    cases hd : p.1.2 <;> (rw [hd] at e1 r1; simp only [att1, reduceCtorEq] at e1)
    rename_i j fs
    split at e1
    · cases e1
    rename_i hjk
    have hjk' := Decidable.not_not.mp hjk
    subst hjk'
    split at e1
    · rename_i d' hl
      cases e1
      cases r1 with
      | obj ho hz rf =>
        obtain ⟨v, h1, h2⟩ := rf.look hl
        rw [← hz] at h1
        rw [g.K]
        exact ⟨_, _, _, _, v, rfl, R1.ex _ _ ho, hcl.1, hcl.2, h1, (show ∀ G' H' v, _ from k) _ _ _ R1 g1 (.sh h2)⟩
    · cases e1)
/-! ### slices -/
def part1 (c : Cc) (ξ : XK) (F : Fs) (e : Vf.E) : TO := fun σ H Q => ∃ env G, Rel c env σ G H ∧ PR c ξ (part? e (evalE F e env) env) fun p => ∀ G' H', Rel c p.2 σ G' H' → Gr c σ env p.2 G H G' H' → Q p.1 H'
theorem PO.imp {o : Option Expr} {t t' : TO} (h : PO X o t) (k : ∀ σ H Q, t' σ H Q → t σ H Q) : PO X o t' := ⟨fun pins s σ H Q I w => h.run pins s σ H Q I (k σ H Q w)⟩
theorem spart_none : PO X none (part1 c ξ F .nop) := PO.imp po_none fun σ H Q w => by
  obtain ⟨env, G, R, w⟩ := w
  exact (show ∀ G' H', _ from w) G H R (.refl _ _)
theorem spart_some (ha : a ≠ .nop) (h : PE X x (tv c ξ F a)) : PO X (some x) (part1 c ξ F a) := PO.imp (po_some h) fun σ H Q w => by
  obtain ⟨env, G, R, w⟩ := w
  have e1 : part? a (evalE F a env) env = (evalE F a env >>= fun p => match p.1.2 with | .int i => .ok (some i, p.2) | _ => .stk) := by
    cases a <;> first | rfl | exact absurd rfl ha
  rw [e1, PR.bind] at w
  refine T_sh R (w.mono fun p k G1 H1 v R1 g1 r1 => ?_)
  cases hd : p.1.2 <;> (rw [hd] at k r1; try exact False.elim k)
  exact ⟨_, r1.i_int, (show ∀ G' H', _ from k) G1 H1 R1 g1⟩
theorem cutD_reps {k : Kc} {G : Hp} {vs : List V} {ds : List D} (r : Reps k G vs ds) (lo hi : Option Int) : Reps k G (cutV vs lo hi) (cutD ds lo hi) := by
  unfold cutV cutD
  rw [r.length]
  exact (r.drop _).take _
theorem cutD_all {α : Type} (xs : List α) {lo hi : Option Int} (h1 : HT.sIx xs.length 0 lo = 0) (h2 : HT.sIx xs.length xs.length hi = xs.length) : cutD xs lo hi = xs := by
  unfold cutD
  rw [h1, h2, List.drop_zero, Nat.sub_zero, List.take_length]
def rSl1 (K : PySem.W.Frag) : V → Option Int → Option Int → Hp → VK → Prop := fun x lo hi H Q => rSlL K x lo hi H Q ∨ rSlA K x lo hi H Q ∨ rSlS x lo hi H Q
theorem slc_ok {G H : Hp} {v : V} {d : D} {lo hi : Option Int} {w : W} {Q : VK} (ex : Ex G H) (r : Rep1 c.toKc G H v d) (f : slc1 d lo hi = some w) (k : ∀ G' H' v', New c.toKc G H G' H' w.1 v' w.2 → Q v' H') :
    rSlL c.K v lo hi H Q ∨ rSlA c.K v lo hi H Q ∨ rSlS v lo hi H Q := by
  cases d <;> simp only [slc1, vw, fresh, reduceCtorEq, Option.some.injEq] at f
  · obtain ⟨h, f⟩ := ck_some f
    cases f
    obtain rfl := r.str
    exact .inr (.inr ⟨_, rfl, h, k _ _ _ (.scal ex (.str _))⟩)
  · subst f
    have r' := tup_same r
    obtain ⟨a, vs, rfl, h, q⟩ := r.tup ex
    refine .inr (.inl ⟨a, vs, rfl, h, fun ⟨h1, h2⟩ => ?_, fun _ p hp => k _ _ _ (.tup ex hp (cutD_reps q lo hi))⟩)
    have := k G H (.ref a) (.scal ex (d := .tup _) (by rw [cutD_all _ (by rw [← q.length]; exact h1) (by rw [← q.length]; exact h2)]; exact r'))
    exact this
  · subst f
    obtain ⟨a, vs, rfl, h, q⟩ := r.lst ex
    exact .inl ⟨a, vs, rfl, h, fun p hp => k _ _ _ (.lst ex hp (cutD_reps q lo hi))⟩
theorem snd_slc (g : Gd π c ξ F n N fl ns X) {lo hi : Option Expr} {l h : Vf.E} {p2 : Pos} (ha : PE X x (to1 c ξ F a)) (hl : PO X lo (part1 c ξ F l)) (hh : PO X hi (part1 c ξ F h)) : Snd X c ξ F (.Subscript x (.Slice lo hi none p2) pos) (.slc a l h) := by
  have op : SlR X _ := sl_list.or (sl_tupA.or sl_str)
  rw [g.K] at op
  exact Snd.mk1 g rfl (PE.imp (pe_slice op ha hl hh) fun σ H Q w => by
    obtain ⟨env, G, R, w⟩ := w
    simp only [evalE, PR.bind] at w
    refine ⟨env, G, R, w.mono fun p k G1 H1 v R1 g1 o1 => ⟨p.2, G1, R1, k.mono fun q k G2 H2 R2 g2 => ⟨q.2, G2, R2, k.mono fun u k G3 H3 R3 g3 => ?_⟩⟩⟩
    obtain ⟨d, e1, k⟩ := PR.of k
    obtain ⟨w, e2, k⟩ := PR.of k
    have o3 := ((o1.keep g2).keep g3).rep1 R3 e1
    refine slc_ok R3.ex o3 e2 fun G4 H4 v4 N => ?_
    obtain ⟨R4, ok⟩ := R3.new N
    have gg := (g1.trans g2).trans g3
    exact k G4 H4 v4 R4 (gg.trans (R3.gr N)) (ok.back gg.al))
/-! ### calls -/
def tas (c : Cc) (ξ : XK) (F : Fs) (fl : List Bool) (es : Vf.Es) : TA := fun σ H Q => ∃ env G, Rel c env σ G H ∧ PR c ξ (evalAs F es fl env) fun p => ∀ G' H' vs, Rel c p.2 σ G' H' → Gr c σ env p.2 G H G' H' → AV c σ G' H' p.1 vs → flOf p.1 = fl → Q vs H'
theorem sar_nil : PA X [] (tas c ξ F [] .nil) := PA.imp pa_nil fun σ H Q w => by
  obtain ⟨env, G, R, w⟩ := w
  simp only [evalAs] at w
  exact w G H [] R (.refl _ _) trivial rfl
theorem sar_va {fs : List Bool} (hp : plain x = true) (h : PE X x (tv c ξ F a)) (hr : PA X xs (tas c ξ F fs es)) : PA X (x :: xs) (tas c ξ F (false :: fs) (.cons a es)) := PA.imp (pa_cons h hr (star_plain hp _ _)) fun σ H Q w => by
  obtain ⟨env, G, R, w⟩ := w
  simp only [evalAs, PR.bind] at w
  refine T_sh R (w.mono fun p k G1 H1 v R1 g1 r1 => ⟨p.2, G1, R1, k.mono fun q k G2 H2 vs R2 g2 r2 f2 => ?_⟩)
  exact k G2 H2 (v :: vs) R2 (g1.trans g2) ⟨r1.mono g2.g, r2⟩ (by show false :: _ = _; rw [f2])
theorem sar_ino (g : Gd π c ξ F n N fl ns X) {fs : List Bool} {i : Nat} {nm : Str} (hi : N[i]? = some nm) (hv : visB ns nm = true) (hm : nmB nm = true) (hr : PA X xs (tas c ξ F fs es)) : PA X (.Name nm p :: xs) (tas c ξ F (true :: fs) (.cons (.var i) es)) := by
  have h : PE X (.Name nm p) (tVar i) := pe_var (by rw [g.hN]; exact hi) (g.vis hv) (nmB_ok hm).1 (nmB_ok hm).2.1
  have hlt : i < c.n := by rw [← g.len]; exact (List.getElem?_eq_some_iff.mp hi).1
  refine PA.imp (pa_cons h hr (star_plain rfl _ _)) fun σ H Q w => ?_
  obtain ⟨env, G, R, w⟩ := w
  simp only [evalAs, PR.bind, inoA] at w
  split at w
  · exact w.elim
  · rename_i m d hn hg
    obtain ⟨v, h1, h2⟩ := R.slot i m d hg
    have h1' := h1
    unfold loc at h1'
    rw [if_pos hlt] at h1'
    refine ⟨v, ?_, env, G, R, PR.mono (show PR c ξ (evalAs F es fs env) _ from w) fun q k G2 H2 vs R2 g2 r2 f2 => ?_⟩
    · cases z : σ[i]? with
      | none => rw [z] at h1'; cases h1'
      | some o => rw [z] at h1'; rw [show o = some v from h1']
    · exact k G2 H2 (v :: vs) R2 g2 ⟨(loc_self g2.s i).trans h1, r2⟩ (by show true :: _ = _; rw [f2])
  · exact w.elim
theorem snd_call (g : Gd π c ξ F n N fl ns X) {f : Nat} {nm : Str} (hf : π.fns[f]? = some nm) (hg : glbB ns nm = true) (hm : nmB nm = true) (hp : plain x = true) (hs : ∀ env, ((backTo pos (starEach xs env)).any (·.1)) = false) (ha : PA X (x :: xs) (tas c ξ F (F.ino f) es)) :
    Snd X c ξ F (.Call (.Name nm p) (x :: xs) [] pos) (.call f es []) := by
  obtain ⟨ad, fd, ps, h1, h2, h3, h4⟩ := g.calls f nm hf
  refine Snd.mk1 g rfl (PE.imp (pe_call h3 g.room (g.gl hg) h1 h2 h4 .nil g.pass ha (nmB_ok hm).1 (star_plain hp _ _) (hs _)) fun σ H Q w => ?_)
  obtain ⟨env, G, R, w⟩ := w
  simp only [evalE, PR.bind] at w
  refine ⟨env, G, R, w.mono fun p k G1 H1 vs R1 g1 av hfl => ?_⟩
  obtain ⟨ds, e1, k⟩ := PR.of k
  have k' : PR c ξ (Vf.chk (inoIx p.1).Nodup (Vf.R.ok ())) _ := k
  obtain ⟨nd, k'⟩ := PR.chk k'
  obtain ⟨a1, a2, a3⟩ := av_args R1 av e1
  rw [hfl] at a1
  rw [List.append_nil]
  refine ⟨G1, ds, R1.ex, a1, by rw [← hfl]; exact av_nodup R1 av e1 nd, ?_⟩
  have k2 : PR c ξ (F.run f ds) _ := k'
  cases hr : F.run f ds with
  | stk => rw [hr] at k2; exact k2.elim
  | exc j x =>
    rw [hr] at k2
    intro G' H' v dx r1 r2 r3 r4 r5 r6 r7
    refine k2 G' H' v dx r1 (R1.g0.trans r2) r3 (fun a ha => ?_) r5 (R1.h0 r6) fun a o q hs => ?_
    · rcases r4 a ha with z | z
      · exact R1.gfr a z
      · exact .inr (R1.h0 z)
    · refine r7 a o (R1.fr a o q hs) fun z => ?_
      rw [← hfl] at z
      obtain ⟨i, _, m, d, b1, b2, b3⟩ := a3 a z
      obtain ⟨v', q1, q2⟩ := R1.slot i m d b1
      rw [b3] at q1; cases q1
      cases m with
      | sh => exact b2 rfl
      | own => obtain ⟨l', z, _, z2, _⟩ := q2; cases z; rw [q] at z2; cases z2
      | ino => obtain ⟨l', z, _, z2, _⟩ := q2; cases z; exact hs z2
  | ok r =>
    rw [hr] at k2
    intro G' H' v r1 r2 r3 r4 r5 r6
    obtain ⟨env', e2, k3⟩ := PR.of (show PR c ξ (Vf.R.of (backAs p.2 p.1 r.2)) _ from k2)
    rw [← hfl] at r4 r5
    obtain ⟨R2, g2, ok⟩ := R1.call av e1 nd e2 r1 r2 r3 r4 r5 r6
    exact (show ∀ G' H' v, _ from k3) G' H' v R2 (g1.trans g2) (ok.back g1.al)
theorem snd_cal1 (g : Gd π c ξ F n N fl ns X) {f : Nat} {e : Vf.E} {nm : Str} (hf : π.fns[f]? = some nm) (hg : glbB ns nm = true) (hm : nmB nm = true) (hp : plain x = true) (ha : PE X x (tv c ξ F e)) :
    Snd X c ξ F (.Call (.Name nm p) [x] [] pos) (.cal1 f e) := by
  obtain ⟨ad, fd, ps, h1, h2, h3, h4⟩ := g.calls f nm hf
  refine Snd.mk1 g rfl (PE.imp (pe_call h3 g.room (g.gl hg) h1 h2 h4 .nil g.pass (pa_cons ha pa_nil (star_plain hp _ _)) (nmB_ok hm).1 (star_plain hp _ _) rfl) fun σ H Q w => ?_)
  obtain ⟨env, G, R, w⟩ := w
  simp only [evalE, PR.bind] at w
  obtain ⟨hfl, w⟩ := PR.chk w
  refine ⟨env, G, R, PR.mono (show PR c ξ (evalE F e env) _ from w) fun p k G1 H1 v0 R1 g1 ok => ?_⟩
  obtain ⟨hp1, k⟩ := PR.chk k
  unfold ValOk at ok
  rw [if_pos hp1] at ok
  obtain ⟨l, rfl, hz, hgl, h0l, own, nsl⟩ := ok
  obtain ⟨o0, ho0, hni⟩ : ∃ o0, H1 l = some o0 ∧ ∀ C dx fs, o0 ≠ HO.ins C dx fs := by
    rcases own.H with ⟨us, h⟩ | ⟨us, h⟩ <;> exact ⟨_, h, fun _ _ _ z => nomatch z⟩
  change spF c.toKc F f [V.ref l] H1 Q ξ
  refine ⟨G1, [p.1.2], R1.ex, by rw [hfl]; exact ⟨⟨l, rfl, hgl, own⟩, trivial⟩, by rw [hfl]; exact List.nodup_cons.mpr ⟨List.not_mem_nil, List.nodup_nil⟩, ?_⟩
  rw [hfl]
  have k2 : PR c ξ (F.run f [p.1.2]) _ := k
  cases hr : F.run f [p.1.2] with
  | stk => rw [hr] at k2; exact k2.elim
  | exc j x =>
    rw [hr] at k2
    intro G' H' v dx r1 r2 r3 r4 r5 r6 r7
    refine k2 G' H' v dx r1 (R1.g0.trans r2) r3 (fun a ha => ?_) r5 (R1.h0 r6) fun a o q hs => ?_
    · rcases r4 a ha with z | z
      · exact R1.gfr a z
      · exact .inr (R1.h0 z)
    · refine r7 a o (R1.fr a o q hs) fun z => ?_
      have : a = l := by simpa [inAd] using z
      subst this
      rw [h0l] at q; cases q
  | ok r =>
    rw [hr] at k2
    intro G' H' v r1 r2 r3 r4 r5 r6
    obtain ⟨hlen, k3⟩ := PR.chk (show PR c ξ (Vf.chk (r.2.length = 1) (Vf.R.ok ())) _ from k2)
    obtain ⟨d1, hd1⟩ : ∃ d1, r.2 = [d1] := by
      cases hq : r.2 with
      | nil => rw [hq] at hlen; cases hlen
      | cons d1 t => cases t with
        | nil => exact ⟨d1, rfl⟩
        | cons _ _ => rw [hq] at hlen; simp at hlen
    rw [hd1] at r5
    obtain ⟨⟨l', z1, _, o'⟩, _⟩ := r5
    cases z1
    obtain ⟨R2, g2, ok⟩ := R1.call1 g1 hz hgl h0l nsl ho0 hni r1 r2 r3 r4 o'.some r6
    exact (show ∀ G' H' v, _ from k3) G' H' v R2 g2 (ok.back g1.al)
end
end Vf
end
section
namespace Vf
open PySem L2
section
variable {c : Cc} {env : Env} {σ : St} {G H G' H' : Hp} {m : Md} {d d' : D} {l : Addr} {o : HO}
theorem Rel.at_ (R : Rel c env σ G H) {i : Nat} (e : getV env i = some (m, d)) (hm : m ≠ .sh) : ∃ l, loc c σ H i = some (.ref l) ∧ G l = none ∧ Own c.toKc G H l d := by
  obtain ⟨v, h1, h2⟩ := R.slot i m d e
  cases m with
  | sh => exact absurd rfl hm
  | own => obtain ⟨l, rfl, z, _, o⟩ := h2; exact ⟨l, h1, z, o⟩
  | ino => obtain ⟨l, rfl, z, _, o⟩ := h2; exact ⟨l, h1, z, o⟩
/-- what stands in a slot of one's own is written -/
theorem Rel.write (R : Rel c env σ G H) {i : Nat} (e : getV env i = some (m, d)) (hm : m ≠ .sh) (hl : loc c σ H i = some (.ref l)) (ho : Own c.toKc G (upd H l o) l d') :
    Rel c (env.set i (some (m, d'))) σ G (upd H l o) ∧ Gr c σ env (env.set i (some (m, d'))) G H G (upd H l o) := by
  obtain ⟨l', h1, gl, ow⟩ := R.at_ e hm
  rw [hl] at h1; cases h1
  have self_ne : ∀ x, c.self = some x → x ≠ l := fun x q z => by
    obtain ⟨_, _, fs, h⟩ := R.sf x q
    subst z
    rcases ow.H with ⟨_, w⟩ | ⟨_, w⟩ <;> (rw [h] at w; cases w)
  have slf : ∀ x, c.self = some x → upd H l o x = H x := fun x q => upd_ne (self_ne x q)
  have hloc := loc_self (c := c) (σ := σ) slf
  have keep : ∀ {j mj dj lj}, j ≠ i → getV env j = some (mj, dj) → mj ≠ .sh → loc c σ H j = some (.ref lj) → Own c.toKc G H lj dj → Own c.toKc G (upd H l o) lj dj := fun {j mj dj lj} ne ej hmj hlj oj => by
    have : lj ≠ l := fun z => by
      subst z
      exact R.dist j i mj dj m d lj ne ej hmj e hm hlj hl
    exact oj.mono (.refl _) (upd_ne this)
  refine ⟨⟨R.len, fun a u h => ?_, R.g0, R.gfr, fun a u h1 h2 => ?_, fun a ha => ?_, fun j mj dj ej => ?_, fun j j' mi di mj dj lj ne e1 n1 e2 n2 => ?_, fun x q => ?_, R.s0, fun x fs e h => R.fsok x fs e (by rw [← slf x e]; exact h)⟩, ?_⟩
  · rw [upd_ne (fun z => by subst z; rw [gl] at h; cases h)]; exact R.ex a u h
  · have al : a ≠ l := fun z => by
      subst z
      obtain ⟨v, q1, q2⟩ := R.slot i m d e
      rw [hl] at q1; cases q1
      cases m with
      | sh => exact hm rfl
      | own => obtain ⟨l', z, _, z2, _⟩ := q2; cases z; rw [h1] at z2; cases z2
      | ino => obtain ⟨l', z, _, z2, _⟩ := q2; cases z; exact h2 z2
    rw [upd_ne al]; exact R.fr a u h1 h2
  · by_cases z : a = l
    · subst z; rw [upd_same]; exact fun z => nomatch z
    · rw [upd_ne z]; exact R.sH a ha
  · by_cases hij : i = j
    · subst hij
      rw [getV_same (getV_lt e)] at ej
      cases ej
      obtain ⟨v, q1, q2⟩ := R.slot i m d e
      rw [hl] at q1; cases q1
      refine ⟨_, by rw [hloc]; exact hl, ?_⟩
      cases m with
      | sh => exact absurd rfl hm
      | own => obtain ⟨l', z, z1, z2, _⟩ := q2; cases z; exact ⟨l, rfl, z1, z2, ho⟩
      | ino => obtain ⟨l', z, z1, z2, _⟩ := q2; cases z; exact ⟨l, rfl, z1, z2, ho⟩
    · rw [getV_ne hij] at ej
      obtain ⟨v, q1, q2⟩ := R.slot j mj dj ej
      refine ⟨v, by rw [hloc]; exact q1, ?_⟩
      cases mj with
      | sh => exact q2
      | own => obtain ⟨l', rfl, z1, z2, o'⟩ := q2; exact ⟨l', rfl, z1, z2, keep (Ne.symm hij) ej (by decide) q1 o'⟩
      | ino => obtain ⟨l', rfl, z1, z2, o'⟩ := q2; exact ⟨l', rfl, z1, z2, keep (Ne.symm hij) ej (by decide) q1 o'⟩
  · rw [hloc, hloc]
    have back : ∀ {j mj dj}, getV (env.set i (some (m, d'))) j = some (mj, dj) → ∃ d0, getV env j = some (mj, d0) := fun {j mj dj} q => by
      by_cases hij : i = j
      · subst hij; rw [getV_same (getV_lt e)] at q; cases q; exact ⟨d, e⟩
      · rw [getV_ne hij] at q; exact ⟨dj, q⟩
    obtain ⟨d1, e1⟩ := back e1
    obtain ⟨d2, e2⟩ := back e2
    exact R.dist j j' mi d1 mj d2 lj ne e1 n1 e2 n2
  · obtain ⟨h1, h2, fs, h3⟩ := R.sf x q
    exact ⟨h1, h2, fs, by rw [slf x q]; exact h3⟩
  · refine ⟨.refl _, slf, fun a u h k => ?_, fun j mj dj ej hmj => ?_, fun a h => .inl h, fun a h => ?_⟩
    · rw [upd_ne (fun z => by subst z; exact k i m d e hm hl)]; exact h
    · by_cases hij : i = j
      · subst hij; rw [getV_same (getV_lt e)] at ej; cases ej; exact ⟨_, d, e, hm⟩
      · rw [getV_ne hij] at ej; exact ⟨mj, dj, ej, hmj⟩
    · by_cases z : a = l
      · subst z; rw [upd_same] at h; cases h
      · rw [upd_ne z] at h; exact h
end
theorem isOwnL_ok {p : Option (Md × D)} (h : isOwnL p = true) : ∃ m xs, p = some (m, .lst xs) ∧ m ≠ .sh := by
  unfold isOwnL at h
  split at h
  · exact ⟨_, _, rfl, by decide⟩
  · exact ⟨_, _, rfl, by decide⟩
  · cases h
theorem ixN_lt {n : Nat} {i : Int} {j : Nat} (h : ixN n i = some j) : j < n := (ixN_seq h).2.1
section
variable {π : Pi} {c : Cc} {ξ : XK} {F : Fs} {n : Nat} {N fl : List Str} {ns : Ns} {X : Cx}
variable {a b e : Vf.E} {x y z : Expr} {pos p : Pos} {es : Vf.Es} {xs : List Expr}
/-- a place: a slot's name, a field of the object that is made -/
structure Plc (X : Cx) (c : Cc) (i : Nat) (ast : Expr) : Prop where
  pl : plain ast = true
  ts : tests ast = true
  pe : PE X ast (fun σ H Q => ∃ v, loc c σ H i = some v ∧ (c.n ≤ i → ∃ x fs, c.self = some x ∧ H x = some (.ins c.selfC c.selfD fs) ∧ σ[0]? = some (some (.ref x))) ∧ Q v H)
theorem plc_name (g : Gd π c ξ F n N fl ns X) {i : Nat} {nm : Str} (hi : N[i]? = some nm) (hv : visB ns nm = true) (hm : nmB nm = true) : Plc X c i (.Name nm p) := by
  have h : PE X (.Name nm p) (tVar i) := pe_var (by rw [g.hN]; exact hi) (g.vis hv) (nmB_ok hm).1 (nmB_ok hm).2.1
  have hlt : i < c.n := by rw [← g.len]; exact (List.getElem?_eq_some_iff.mp hi).1
  refine ⟨rfl, rfl, PE.imp h fun σ H Q ⟨v, hl, _, q⟩ => ?_⟩
  unfold loc at hl
  rw [if_pos hlt] at hl
  refine ⟨v, ?_, q⟩
  cases z : σ[i]? with
  | none => rw [z] at hl; cases hl
  | some o => rw [z] at hl; rw [show o = some v from hl]
theorem plc_fld (g : Gd π c ξ F n N fl ns X) {i : Nat} {nm f : Str} {p2 : Pos} (h0 : N[0]? = some nm) (hv : visB ns nm = true) (hm : nmB nm = true) (hi : c.n ≤ i) (hf : fl[i - c.n]? = some f) : Plc X c i (.Attribute (.Name nm p) f p2) := by
  have h : PE X (.Name nm p) (tVar 0) := pe_var (by rw [g.hN]; exact h0) (g.vis hv) (nmB_ok hm).1 (nmB_ok hm).2.1
  refine ⟨rfl, rfl, PE.imp (pe_fld h (attr_plain rfl _ _)) fun σ H Q ⟨v, hl, hs, q⟩ => ?_⟩
  obtain ⟨x, fs, e1, e2, e3⟩ := hs hi
  unfold loc at hl
  rw [if_neg (Nat.not_lt.mpr hi), e1] at hl
  simp only [e2, g.fld, hf, Option.bind_some] at hl
  obtain ⟨c1, c2⟩ := g.selfc f (List.mem_of_getElem? hf)
  rw [g.K]
  exact ⟨_, e3, _, _, _, _, v, rfl, e2, c1, c2, hl, q⟩
theorem snd_pop (g : Gd π c ξ F n N fl ns X) {i : Nat} {apos : Pos} (hpl : Plc X c i y) (hp : plain x = true) (hl : (apos.endLine == pos.line) = true) (ha : PE X x (to1 c ξ F a)) : Snd X c ξ F (.Call (.Attribute y "pop" apos) [x] [] pos) (.pop i a) :=
  Snd.mk1 g rfl (PE.imp (pe_bm PySem.F.plainAttrs_list PySem.F.slot_list_pop PySem.F.type_list_pop mt_popAt hpl.pe (pa_cons ha pa_nil (star_plain hp _ _)) (attr_plain hpl.pl _ _) (by rw [star_plain hp]; rfl) hl (star_plain hp _ _) rfl) fun σ H Q w => by
    obtain ⟨env, G, R, w⟩ := w
    simp only [evalE, PR.bind] at w
    obtain ⟨ho, w⟩ := PR.chk w
    obtain ⟨m, xs, e0, hm⟩ := isOwnL_ok ho
    obtain ⟨l, h1, h2, vs, h3, h4⟩ := R.at_ e0 hm
    refine ⟨.ref l, h1, R.place h1, .inl ⟨rfl, vs, by rw [g.K]; exact .inl (.inl h3)⟩, ?_⟩
    refine ⟨env, G, R, PR.mono (show PR c ξ (opd a (evalE F a env) env) _ from w) fun p k G1 H1 v R1 g1 o1 => ?_⟩
    obtain ⟨d, e1, k⟩ := PR.of k
    obtain ⟨q, e2, k⟩ := PR.of k
    obtain ⟨hq, k⟩ := PR.chk k
    obtain ⟨r, e3, k⟩ := PR.of (show PR c ξ (Vf.R.of (pop1 q.2 d)) _ from k)
    have o2 := o1.rep1 R1 e1
    obtain ⟨md, dd⟩ := q
    have e2' : getV p.2 i = some (md, dd) := e2
    cases dd <;> cases d <;> simp only [pop1, reduceCtorEq] at e3
    simp only [Option.bind_eq_some_iff] at e3
    obtain ⟨nn, e4, u, e5, e6⟩ := e3
    split at e6
    · rename_i hb
      cases e6
      obtain ⟨l', q1, q2, us, q3, q4⟩ := R1.at_ e2' hq
      rw [loc_self g1.s, h1] at q1; cases q1
      obtain rfl := o2.int
      obtain ⟨y, q5, q6⟩ := q4.get e5
      have hl2 : loc c σ H1 i = some (.ref l) := by rw [loc_self g1.s]; exact h1
      obtain ⟨R2, g2⟩ := R1.write e2' hq hl2 (o := .lst (us.eraseIdx nn)) (d' := .lst (_)) ⟨_, upd_same, q4.erase nn⟩
      refine ⟨l, us, _, nn, y, rfl, rfl, q3, hb.1, hb.2, ?_, q5, (show ∀ G' H' v, _ from k) G1 _ y R2 (g1.trans g2) (.sh q6)⟩
      rw [q4.length]
      exact (ixN_seq e4).1
    · cases e6)
end
end Vf
end
section
namespace Vf
open PySem L2
/-! ### what is walked -/
def SrcOk (c : Cc) (σ : St) (G H : Hp) (J : It) (s : Src) : Prop :=
  ∀ (env' : Env) (σ' : St) (G' H' : Hp), Rel c env' σ' G' H' → Ex G G' → (∀ j, s = .slot j → loc c σ' H' j = loc c σ H j) → ∀ i, (nxtOf s i env' = some none → J.stop i H') ∧
    ∀ d, nxtOf s i env' = some (some d) → J.go i H' ∧ ∀ x H2, J.yld i H' x H2 → ∃ G2, New c.toKc G' H' G2 H2 false x d
def srcR (F : Fs) (k : IK) (a b : E) (env : Env) : R (Src × Env) :=
  opd a (evalE F a env) env >>= fun u => opB b (opd b (evalE F b u.2) u.2) u.2 >>= fun v => R.of (src k u.1 v.1 v.2) >>= fun s => .ok (s, v.2)
def ti (c : Cc) (ξ : XK) (F : Fs) (k : IK) (a b : E) : TI := fun σ H W => ∃ env G, Rel c env σ G H ∧ PR c ξ (srcR F k a b env) fun p => ∀ G' H' J, Rel c p.2 σ G' H' → Gr c σ env p.2 G H G' H' → SrcOk c σ G' H' J p.1 → W J H'
theorem PI.imp {X : Cx} {tg ast : Expr} {t t' : TI} (h : PI X tg ast t) (k : ∀ σ H Q, t' σ H Q → t σ H Q) : PI X tg ast t' := ⟨fun pins s σ H Q I w => h.run pins s σ H Q I (k σ H Q w)⟩
theorem PI.or {X : Cx} {tg ast : Expr} {t t' : TI} (h : PI X tg ast t) (h' : PI X tg ast t') : PI X tg ast (fun σ H Q => t σ H Q ∨ t' σ H Q) := ⟨fun pins s σ H Q I w => by
  rcases w with w | w
  · exact h.run pins s σ H Q I w
  · exact h'.run pins s σ H Q I w⟩
section
variable {c : Cc} {σ : St} {G H : Hp}
theorem src_list {a : Addr} {vs : List V} {ds : List D} (h : SqL c.K G a vs) (r : Reps c.toKc G vs ds) : SrcOk c σ G H (Itl c.K a) (.items ds) := by
  intro env' σ' G' H' R e _ i
  have hs : SqL c.K H' a vs := R.ex.sql (e.sql h)
  refine ⟨fun z => ⟨vs, hs, ?_⟩, fun d z => ?_⟩
  · have z' : ds[i]? = none := Option.some.inj z
    rw [r.length]; exact List.getElem?_eq_none_iff.mp z'
  · have z' : ds[i]? = some d := Option.some.inj z
    obtain ⟨v, h1, h2⟩ := r.get z'
    refine ⟨⟨vs, v, hs, h1⟩, fun x H2 ⟨y1, y2⟩ => ?_⟩
    subst y1
    have := y2 vs hs
    rw [h1] at this; cases this
    exact ⟨G', .same R.ex (h2.mono e)⟩
theorem src_tup {a : Addr} {vs : List V} {ds : List D} (h : SqT c.K G a vs) (r : Reps c.toKc G vs ds) : SrcOk c σ G H (Itt c.K a) (.items ds) := by
  intro env' σ' G' H' R e _ i
  have hs : SqT c.K H' a vs := R.ex.sqt (e.sqt h)
  refine ⟨fun z => ⟨vs, hs, ?_⟩, fun d z => ?_⟩
  · have z' : ds[i]? = none := Option.some.inj z
    rw [r.length]; exact List.getElem?_eq_none_iff.mp z'
  · have z' : ds[i]? = some d := Option.some.inj z
    obtain ⟨v, h1, h2⟩ := r.get z'
    refine ⟨⟨vs, v, hs, h1⟩, fun x H2 ⟨y1, y2⟩ => ?_⟩
    subst y1
    have := y2 vs hs
    rw [h1] at this; cases this
    exact ⟨G', .same R.ex (h2.mono e)⟩
theorem src_rng {lo : Int} {n : Nat} : SrcOk c σ G H (Itr lo n) (.items (rngD lo n)) := by
  intro env' σ' G' H' R e _ i
  refine ⟨fun z => ?_, fun d z => ?_⟩
  · have z' : (rngD lo n)[i]? = none := Option.some.inj z
    have := List.getElem?_eq_none_iff.mp z'
    unfold rngD at this
    rw [List.length_map, List.length_range] at this
    exact this
  · have z' : (rngD lo n)[i]? = some d := Option.some.inj z
    unfold rngD at z'
    rw [List.getElem?_map] at z'
    by_cases hi : i < n
    · rw [List.getElem?_range hi] at z'
      cases z'
      refine ⟨hi, fun x H2 ⟨y1, y2⟩ => ?_⟩
      subst y1; subst y2
      exact ⟨G', .same R.ex (.int _)⟩
    · rw [List.getElem?_eq_none (by rw [List.length_range]; omega)] at z'; cases z'
theorem src_str {x : Str} : SrcOk c σ G H (Its x) (.items (x.cps.toList.map fun c => D.str ⟨#[c]⟩)) := by
  intro env' σ' G' H' R e _ i
  refine ⟨fun z => ?_, fun d z => ?_⟩
  · have z' : (x.cps.toList.map fun c => D.str ⟨#[c]⟩)[i]? = none := Option.some.inj z
    have := List.getElem?_eq_none_iff.mp z'
    rw [List.length_map, Array.length_toList] at this
    exact this
  · have z' : (x.cps.toList.map fun c => D.str ⟨#[c]⟩)[i]? = some d := Option.some.inj z
    rw [List.getElem?_map, Option.map_eq_some_iff] at z'
    obtain ⟨q, h1, rfl⟩ := z'
    have h2 : x.cps[i]? = some q := by rw [← Array.getElem?_toList]; exact h1
    refine ⟨(Array.getElem?_eq_some_iff.mp h2).1, fun y H2 ⟨y1, c', y2, y3⟩ => ?_⟩
    subst y1; subst y3
    rw [h2] at y2; cases y2
    exact ⟨G', .same R.ex (.str _)⟩
theorem src_slot {j : Nat} {l : Addr} (h : loc c σ H j = some (.ref l)) : SrcOk c σ G H (Itl c.K l) (.slot j) := by
  intro env' σ' G' H' R e s i
  have hl := s j rfl
  rw [h] at hl
  have key : ∀ {m ds}, getV env' j = some (m, .lst ds) → ∃ vs, SqL c.K H' l vs ∧ Reps c.toKc G' vs ds := fun {m ds} q => by
    obtain ⟨v, h1, h2⟩ := R.slot j m _ q
    rw [hl] at h1; cases h1
    cases m with
    | sh => cases h2 with | lst h r => exact ⟨_, R.ex.sql h, r⟩
    | own => obtain ⟨l', z, _, _, vs, h, r⟩ := h2; cases z; exact ⟨vs, .inl (.inl h), r⟩
    | ino => obtain ⟨l', z, _, _, vs, h, r⟩ := h2; cases z; exact ⟨vs, .inl (.inl h), r⟩
  refine ⟨fun z => ?_, fun d z => ?_⟩
  · unfold nxtOf at z
    split at z
    · rename_i z0; cases z0
    · rename_i z0; cases z0
      split at z
      · rename_i ds q
        obtain ⟨vs, h1, h2⟩ := key q
        refine ⟨vs, h1, ?_⟩
        rw [h2.length]; exact List.getElem?_eq_none_iff.mp (Option.some.inj z)
      · cases z
  · unfold nxtOf at z
    split at z
    · rename_i z0; cases z0
    · rename_i z0; cases z0
      split at z
      · rename_i ds q
        obtain ⟨vs, h1, h2⟩ := key q
        obtain ⟨v, h3, h4⟩ := h2.get (Option.some.inj z)
        refine ⟨⟨vs, v, h1, h3⟩, fun x H2 ⟨y1, y2⟩ => ?_⟩
        subst y1
        have := y2 vs h1
        rw [h3] at this; cases this
        exact ⟨G', .same R.ex h4⟩
      · cases z
theorem zipD_get : ∀ {xs ys : List D} {i : Nat}, (zipD xs ys)[i]? = match xs[i]?, ys[i]? with
    | some x, some y => some (.tup [x, y])
    | _, _ => none
  | [], ys, i => by cases ys <;> simp [zipD]
  | x :: xs, [], i => by cases i <;> simp [zipD] <;> (cases xs[_]? <;> rfl)
  | x :: xs, y :: ys, 0 => by simp [zipD]
  | x :: xs, y :: ys, i + 1 => by simp only [zipD, List.getElem?_cons_succ]; exact zipD_get
theorem enumD_get : ∀ {xs : List D} {i : Nat} {j : Int}, (enumD j xs)[i]? = (xs[i]?).map fun x => .tup [.int (j + (i : Int)), x]
  | [], i, j => by simp [enumD]
  | x :: xs, 0, j => by simp [enumD]
  | x :: xs, i + 1, j => by
    simp only [enumD, List.getElem?_cons_succ, enumD_get (xs := xs)]
    cases xs[i]? <;> simp
    omega
theorem src_zip {a b : Addr} {vs us : List V} {ds es : List D} (h : SqL c.K G a vs) (h' : SqL c.K G b us) (r : Reps c.toKc G vs ds) (r' : Reps c.toKc G us es) : SrcOk c σ G H (Itz c.K a b) (.items (zipD ds es)) := by
  intro env' σ' G' H' R e _ i
  have hs : SqL c.K H' a vs := R.ex.sql (e.sql h)
  have hs' : SqL c.K H' b us := R.ex.sql (e.sql h')
  refine ⟨fun z => ⟨vs, us, hs, hs', ?_⟩, fun d z => ?_⟩
  · have z' : (zipD ds es)[i]? = none := Option.some.inj z
    rw [zipD_get] at z'
    rw [r.length, r'.length]
    cases q1 : ds[i]? with
    | none => exact .inl (List.getElem?_eq_none_iff.mp q1)
    | some x => cases q2 : es[i]? with
      | none => exact .inr (List.getElem?_eq_none_iff.mp q2)
      | some y => rw [q1, q2] at z'; cases z'
  · have z' : (zipD ds es)[i]? = some d := Option.some.inj z
    rw [zipD_get] at z'
    cases q1 : ds[i]? with
    | none => rw [q1] at z'; cases z'
    | some x => cases q2 : es[i]? with
      | none => rw [q1, q2] at z'; cases z'
      | some y =>
        rw [q1, q2] at z'; cases z'
        obtain ⟨v, h1, h2⟩ := r.get q1
        obtain ⟨u, h3, h4⟩ := r'.get q2
        refine ⟨⟨vs, us, v, u, hs, hs', h1, h3⟩, fun x2 H2 ⟨T, x1, y1, e1, e2, e3, e4, e5⟩ => ?_⟩
        subst e1 e3
        have := e4 vs hs; rw [h1] at this; cases this
        have := e5 us hs'; rw [h3] at this; cases this
        exact ⟨_, New.tup R.ex e2 (.cons (h2.mono e) (.cons (h4.mono e) .nil))⟩
theorem src_zipT {a b : Addr} {vs us : List V} {ds es : List D} (h : SqT c.K G a vs) (h' : SqT c.K G b us) (r : Reps c.toKc G vs ds) (r' : Reps c.toKc G us es) : SrcOk c σ G H (RZ.ItzT c.K a b) (.items (zipD ds es)) := by
  intro env' σ' G' H' R e _ i
  have hs : SqT c.K H' a vs := R.ex.sqt (e.sqt h)
  have hs' : SqT c.K H' b us := R.ex.sqt (e.sqt h')
  refine ⟨fun z => ⟨vs, us, hs, hs', ?_⟩, fun d z => ?_⟩
  · have z' : (zipD ds es)[i]? = none := Option.some.inj z
    rw [zipD_get] at z'
    rw [r.length, r'.length]
    cases q1 : ds[i]? with
    | none => exact .inl (List.getElem?_eq_none_iff.mp q1)
    | some x => cases q2 : es[i]? with
      | none => exact .inr (List.getElem?_eq_none_iff.mp q2)
      | some y => rw [q1, q2] at z'; cases z'
  · have z' : (zipD ds es)[i]? = some d := Option.some.inj z
    rw [zipD_get] at z'
    cases q1 : ds[i]? with
    | none => rw [q1] at z'; cases z'
    | some x => cases q2 : es[i]? with
      | none => rw [q1, q2] at z'; cases z'
      | some y =>
        rw [q1, q2] at z'; cases z'
        obtain ⟨v, h1, h2⟩ := r.get q1
        obtain ⟨u, h3, h4⟩ := r'.get q2
        refine ⟨⟨vs, us, v, u, hs, hs', h1, h3⟩, fun x2 H2 ⟨T, x1, y1, e1, e2, e3, e4, e5⟩ => ?_⟩
        subst e1 e3
        have := e4 vs hs; rw [h1] at this; cases this
        have := e5 us hs'; rw [h3] at this; cases this
        exact ⟨_, New.tup R.ex e2 (.cons (h2.mono e) (.cons (h4.mono e) .nil))⟩
theorem Ex.sqB {K : PySem.W.Frag} {b : Bool} {H H' : Hp} {a : Addr} {xs : List V} (e : Ex H H') (h : SqB K b H a xs) : SqB K b H' a xs := by
  cases b
  · exact e.sql h
  · exact e.sqt h
theorem src_enB {b : Bool} {a : Addr} {k : Int} {vs : List V} {ds : List D} (h : SqB c.K b G a vs) (r : Reps c.toKc G vs ds) : SrcOk c σ G H (IteB c.K b a k) (.items (enumD k ds)) := by
  intro env' σ' G' H' R e _ i
  have hs : SqB c.K b H' a vs := R.ex.sqB (e.sqB h)
  refine ⟨fun z => ⟨vs, hs, ?_⟩, fun d z => ?_⟩
  · have z' : (enumD k ds)[i]? = none := Option.some.inj z
    rw [enumD_get, Option.map_eq_none_iff] at z'
    rw [r.length]; exact List.getElem?_eq_none_iff.mp z'
  · have z' : (enumD k ds)[i]? = some d := Option.some.inj z
    rw [enumD_get, Option.map_eq_some_iff] at z'
    obtain ⟨x, q1, q2⟩ := z'
    subst q2
    obtain ⟨v, h1, h2⟩ := r.get q1
    refine ⟨⟨vs, v, hs, h1⟩, fun x2 H2 ⟨T, x1, e1, e2, e3, e4⟩ => ?_⟩
    subst e1 e3
    have := e4 vs hs; rw [h1] at this; cases this
    exact ⟨_, New.tup R.ex e2 (.cons (.int _) (.cons (h2.mono e) .nil))⟩
end
section
variable {π : Pi} {c : Cc} {ξ : XK} {F : Fs} {n : Nat} {N fl : List Str} {ns : Ns} {X : Cx}
variable {a b e : Vf.E} {x y z tg : Expr} {pos p : Pos}
theorem Itl_of (g : Gd π c ξ F n N fl ns X) : X.K = c.K := g.K
theorem spi_val (g : Gd π c ξ F n N fl ns X) (ha : PE X x (to1 c ξ F a)) : PI X tg x (ti c ξ F .val a .nop) := by
  have h1 : PI X tg x (iList X.K (to1 c ξ F a)) := pi_list ha
  have h2 : PI X tg x (iTup X.K (to1 c ξ F a)) := pi_tup ha
  have h3 : PI X tg x (iStr (to1 c ξ F a)) := pi_str ha
  rw [g.K] at h1 h2
  refine PI.imp (PI.or h3 (PI.or h1 h2)) fun σ H W w => ?_
  obtain ⟨env, G, R, w⟩ := w
  simp only [srcR, opB, PR.bind] at w
  cases hq : opd a (evalE F a env) env with
  | stk => rw [hq] at w; exact w.elim
  | exc k x => rw [hq] at w; exact .inr (.inl ⟨env, G, R, by rw [hq]; exact w⟩)
  | ok u =>
    rw [hq] at w
    obtain ⟨s, e1, w⟩ := PR.of (show PR c ξ (Vf.R.of (src .val u.1 (.va .non) u.2)) _ from w)
    obtain ⟨u1, u2⟩ := u
    cases u1 with
    | sl i =>
      simp only [src] at e1
      split at e1
      · rename_i hi
        cases e1
        refine .inr (.inl ⟨env, G, R, by
          rw [hq]
          intro G1 H1 v R1 g1 o1
          obtain ⟨m, xs, e2, hm⟩ := isOwnL_ok hi
          obtain ⟨l, h1, h2, vs, h3, h4⟩ := R1.at_ e2 hm
          have h1' : loc c σ H1 i = some v := o1
          rw [h1'] at h1; cases h1
          exact ⟨l, rfl, ⟨vs, .inl (.inl h3)⟩, (show ∀ G' H' J, _ from w) G1 H1 _ R1 g1 (src_slot h1')⟩⟩)
      · cases e1
    | va d =>
      cases d <;> simp only [src, reduceCtorEq] at e1
      · cases e1
        refine .inl ⟨env, G, R, by
          rw [hq]
          intro G1 H1 v R1 g1 o1
          have o1' : Rep c.toKc G1 v (.str _) := o1
          obtain rfl := o1'.i_str
          exact ⟨_, rfl, (show ∀ G' H' J, _ from w) G1 H1 _ R1 g1 src_str⟩⟩
      · cases e1
        refine .inr (.inr ⟨env, G, R, by
          rw [hq]
          intro G1 H1 v R1 g1 o1
          have o1' : Rep c.toKc G1 v (.tup _) := o1
          cases o1' with
          | tup h r => exact ⟨_, rfl, ⟨_, R1.ex.sqt h⟩, (show ∀ G' H' J, _ from w) G1 H1 _ R1 g1 (src_tup h r)⟩⟩)
      · cases e1
        refine .inr (.inl ⟨env, G, R, by
          rw [hq]
          intro G1 H1 v R1 g1 o1
          have o1' : Rep c.toKc G1 v (.lst _) := o1
          cases o1' with
          | lst h r => exact ⟨_, rfl, ⟨_, R1.ex.sql h⟩, (show ∀ G' H' J, _ from w) G1 H1 _ R1 g1 (src_list h r)⟩⟩)
theorem spi_rng1 (g : Gd π c ξ F n N fl ns X) (hg : glbB ns "range" = true) (hf : ("range" : Str) ∈ π.free) (hp : plain x = true) (ha : PE X x (to1 c ξ F a)) : PI X tg (.Call (.Name "range" p) [x] [] pos) (ti c ξ F .rng1 a .nop) := by
  refine PI.imp (pi_range1 (g.gl hg) (g.free _ hf) (pa_cons ha pa_nil (star_plain hp _ _)) (star_plain hp _ _)) fun σ H W w => ?_
  obtain ⟨env, G, R, w⟩ := w
  simp only [srcR, opB, PR.bind] at w
  refine ⟨env, G, R, w.mono fun u w G1 H1 v R1 g1 o1 => ?_⟩
  obtain ⟨s, e1, w⟩ := PR.of (show PR c ξ (Vf.R.of (src .rng1 u.1 (.va .non) u.2)) _ from w)
  obtain ⟨u1, u2⟩ := u
  cases u1 with
  | sl i => simp only [src, reduceCtorEq] at e1
  | va d =>
    cases d <;> simp only [src, reduceCtorEq] at e1
    obtain ⟨hb, e1⟩ := ck_some e1
    cases e1
    have o1' : Rep c.toKc G1 v (.int _) := o1
    obtain rfl := o1'.i_int
    have hsz : (sizeLine : Int) < 2 ^ 62 := by decide
    exact ⟨_, rfl, hb.1, by omega, (show ∀ G' H' J, _ from w) G1 H1 _ R1 g1 src_rng⟩
theorem spi_rng2 (g : Gd π c ξ F n N fl ns X) (hg : glbB ns "range" = true) (hf : ("range" : Str) ∈ π.free) (hp : plain x = true) (hp2 : plain y = true) (hn : b ≠ .nop) (ha : PE X x (to1 c ξ F a)) (hb : PE X y (to1 c ξ F b)) : PI X tg (.Call (.Name "range" p) [x, y] [] pos) (ti c ξ F .rng2 a b) := by
  refine PI.imp (pi_range2 (g.gl hg) (g.free _ hf) (pa_cons ha (pa_cons hb pa_nil (star_plain hp2 _ _)) (star_plain hp _ _)) (by rw [star_plain hp, star_plain hp2]; rfl) (star_plain hp2 _ _)) fun σ H W w => ?_
  obtain ⟨env, G, R, w⟩ := w
  have eb : ∀ r env, opB b r env = r := fun r env => by cases b <;> first | rfl | exact absurd rfl hn
  simp only [srcR, eb, PR.bind] at w
  refine ⟨env, G, R, w.mono fun u w G1 H1 v R1 g1 o1 => ⟨u.2, G1, R1, w.mono fun q w G2 H2 v2 R2 g2 o2 => ?_⟩⟩
  obtain ⟨s, e1, w⟩ := PR.of (show PR c ξ (Vf.R.of (src .rng2 u.1 q.1 q.2)) _ from w)
  obtain ⟨u1, u2⟩ := u
  obtain ⟨q1, q2⟩ := q
  cases u1 with
  | sl i => simp only [src, reduceCtorEq] at e1
  | va d =>
    cases d <;> simp only [src, reduceCtorEq] at e1
    cases q1 with
    | sl i => simp only [src, reduceCtorEq] at e1
    | va d2 =>
      cases d2 <;> simp only [src, reduceCtorEq] at e1
      obtain ⟨hbd, e1⟩ := ck_some e1
      cases e1
      have o1' : Rep c.toKc G1 v (.int _) := o1
      have o2' : Rep c.toKc G2 v2 (.int _) := o2
      obtain rfl := o1'.i_int
      obtain rfl := o2'.i_int
      exact ⟨_, _, rfl, ⟨hbd.1, hbd.2.1, hbd.2.2.1, hbd.2.2.2.1⟩, (show ∀ G' H' J, _ from w) G2 H2 _ R2 (g1.trans g2) src_rng⟩
theorem spi_zip (g : Gd π c ξ F n N fl ns X) {elts : List Expr} {kk : Nat} {tpos : Pos} (hg : glbB ns "zip" = true) (hf : ("zip" : Str) ∈ π.free) (hp : plain x = true) (hp2 : plain y = true) (hn : b ≠ .nop) (ha : PE X x (to1 c ξ F a)) (hb : PE X y (to1 c ξ F b)) :
    PI X (.Tuple elts kk tpos) (.Call (.Name "zip" p) [x, y] [] pos) (ti c ξ F .zip a b) := by
  have h0 := RZ.pi_zipA (elts := elts) (kk := kk) (tpos := tpos) (p := p) (pos := pos) (g.gl hg) (g.free _ hf) (pa_cons ha (pa_cons hb pa_nil (star_plain hp2 _ _)) (star_plain hp _ _)) (star_plain hp _ _) (by rw [star_plain hp2]; rfl)
  rw [g.K] at h0
  refine PI.imp h0 fun σ H W w => ?_
  obtain ⟨env, G, R, w⟩ := w
  have eb : ∀ r env, opB b r env = r := fun r env => by cases b <;> first | rfl | exact absurd rfl hn
  simp only [srcR, eb, PR.bind] at w
  refine ⟨env, G, R, w.mono fun u w G1 H1 v R1 g1 o1 => ⟨u.2, G1, R1, w.mono fun q w G2 H2 v2 R2 g2 o2 => ?_⟩⟩
  obtain ⟨s, e1, w⟩ := PR.of (show PR c ξ (Vf.R.of (src .zip u.1 q.1 q.2)) _ from w)
  obtain ⟨u1, u2⟩ := u
  obtain ⟨q1, q2⟩ := q
  cases u1 with
  | sl i => simp only [src, reduceCtorEq] at e1
  | va d =>
    cases q1 with
    | sl i => cases d <;> simp only [src, reduceCtorEq] at e1
    | va d2 =>
      have o1' : Rep c.toKc G2 v d := Rep.mono g2.g o1
      have o2' : Rep c.toKc G2 v2 d2 := o2
      cases d <;> cases d2 <;> simp only [src, reduceCtorEq] at e1
      · cases e1
        cases o1' with
        | tup h r => cases o2' with
          | tup h' r' => exact ⟨_, _, _, _, rfl, .inr ⟨R2.ex.sqt h, R2.ex.sqt h', (show ∀ G' H' J, _ from w) G2 H2 _ R2 (g1.trans g2) (src_zipT h h' r r')⟩⟩
      · cases e1
        cases o1' with
        | lst h r => cases o2' with
          | lst h' r' => exact ⟨_, _, _, _, rfl, .inl ⟨R2.ex.sql h, R2.ex.sql h', (show ∀ G' H' J, _ from w) G2 H2 _ R2 (g1.trans g2) (src_zip h h' r r')⟩⟩
theorem spi_enum (g : Gd π c ξ F n N fl ns X) {elts : List Expr} {kk : Nat} {tpos : Pos} (hg : glbB ns "enumerate" = true) (hf : ("enumerate" : Str) ∈ π.free) (hp : plain x = true) (ha : PE X x (to1 c ξ F a)) :
    PI X (.Tuple elts kk tpos) (.Call (.Name "enumerate" p) [x] [] pos) (ti c ξ F .enum a .nop) := by
  have h0 := pi_enB (elts := elts) (kk := kk) (tpos := tpos) (p := p) (pos := pos) (g.gl hg) (g.free _ hf) (pa_cons ha pa_nil (star_plain hp _ _)) (star_plain hp _ _)
  rw [g.K] at h0
  refine PI.imp h0 fun σ H W w => ?_
  obtain ⟨env, G, R, w⟩ := w
  simp only [srcR, opB, PR.bind] at w
  refine ⟨env, G, R, w.mono fun u w G1 H1 v R1 g1 o1 => ?_⟩
  obtain ⟨s, e1, w⟩ := PR.of (show PR c ξ (Vf.R.of (src .enum u.1 (.va .non) u.2)) _ from w)
  obtain ⟨u1, u2⟩ := u
  cases u1 with
  | sl i => simp only [src, reduceCtorEq] at e1
  | va d =>
    have o1' : Rep c.toKc G1 v d := o1
    cases d <;> simp only [src, reduceCtorEq] at e1
    · cases e1
      cases o1' with
      | tup h r => exact ⟨true, _, _, rfl, R1.ex.sqB (b := true) h, (show ∀ G' H' J, _ from w) G1 H1 _ R1 g1 (src_enB (b := true) h r)⟩
    · cases e1
      cases o1' with
      | lst h r => exact ⟨false, _, _, rfl, R1.ex.sqB (b := false) h, (show ∀ G' H' J, _ from w) G1 H1 _ R1 g1 (src_enB (b := false) h r)⟩
theorem spi_enumK (g : Gd π c ξ F n N fl ns X) {elts : List Expr} {kk : Nat} {tpos kp : Pos} (hg : glbB ns "enumerate" = true) (hf : ("enumerate" : Str) ∈ π.free) (hp : plain x = true) (hn : b ≠ .nop) (ha : PE X x (to1 c ξ F a)) (hb : PE X y (to1 c ξ F b)) :
    PI X (.Tuple elts kk tpos) (.Call (.Name "enumerate" p) [x] [⟨some "start", y, kp⟩] pos) (ti c ξ F .enumK a b) := by
  have h0 := pi_enK (elts := elts) (kk := kk) (tpos := tpos) (p := p) (pos := pos) (k := y) (kp := kp) (g.gl hg) (g.free _ hf) (pa_cons ha pa_nil (star_plain hp _ _)) (pk_cons hb pk_nil) (star_plain hp _ _)
  rw [g.K] at h0
  refine PI.imp h0 fun σ H W w => ?_
  obtain ⟨env, G, R, w⟩ := w
  have eb : ∀ r env, opB b r env = r := fun r env => by cases b <;> first | rfl | exact absurd rfl hn
  simp only [srcR, eb, PR.bind] at w
  refine ⟨env, G, R, w.mono fun u w G1 H1 v R1 g1 o1 => ⟨u.2, G1, R1, w.mono fun q w G2 H2 v2 R2 g2 o2 => ?_⟩⟩
  obtain ⟨s, e1, w⟩ := PR.of (show PR c ξ (Vf.R.of (src .enumK u.1 q.1 q.2)) _ from w)
  obtain ⟨u1, u2⟩ := u
  obtain ⟨q1, q2⟩ := q
  cases u1 with
  | sl i => simp only [src, reduceCtorEq] at e1
  | va d =>
    cases q1 with
    | sl i => cases d <;> simp only [src, reduceCtorEq] at e1
    | va d2 =>
      have o1' : Rep c.toKc G2 v d := Rep.mono g2.g o1
      have o2' : Rep c.toKc G2 v2 d2 := o2
      cases d <;> cases d2 <;> simp only [src, reduceCtorEq] at e1
      · obtain ⟨hk, e1⟩ := ck_some e1
        cases e1
        obtain rfl := o2'.i_int
        cases o1' with
        | tup h r => exact ⟨true, _, _, _, rfl, rfl, R2.ex.sqB (b := true) h, by omega, by omega, (show ∀ G' H' J, _ from w) G2 H2 _ R2 (g1.trans g2) (src_enB (b := true) h r)⟩
      · obtain ⟨hk, e1⟩ := ck_some e1
        cases e1
        obtain rfl := o2'.i_int
        cases o1' with
        | lst h r => exact ⟨false, _, _, _, rfl, rfl, R2.ex.sqB (b := false) h, by omega, by omega, (show ∀ G' H' J, _ from w) G2 H2 _ R2 (g1.trans g2) (src_enB (b := false) h r)⟩
end
end Vf
end
section
namespace Vf
open PySem L2
/-! ### targets -/
def slotsP : Pat → List Nat
  | .nm i => [i]
  | .skip i => [i]
  | .tp2 a b => slotsP a ++ slotsP b
  | .tp3 a b c => slotsP a ++ slotsP b ++ slotsP c
def gPat (K : PySem.W.Frag) : Pat → TG
  | .nm i => gName i
  | .skip i => gName i
  | .tp2 a b => gTup K 2 (gCons (gPat K a) (gCons (gPat K b) gNil))
  | .tp3 a b c => gTup K 3 (gCons (gPat K a) (gCons (gPat K b) (gCons (gPat K c) gNil)))
section
variable {c : Cc} {G H : Hp}
theorem bind_ok : ∀ (p : Pat) {v : V} {d : D} {env env' : Env} {σ : St} {Q : St → Hp → Prop}, (∀ i ∈ slotsP p, Sl c i) → bindP p d env = some env' → Rel c env σ G H → Rep c.toKc G v d →
    (∀ σ', Rel c env' σ' G H → (∀ i, i ∉ slotsP p → σ'[i]? = σ[i]?) → (∀ i, i ∉ slotsP p → getV env' i = getV env i) → (∀ i m d, i ∈ slotsP p → getV env' i = some (m, d) → m = .sh) → Q σ' H) → gPat c.K p v σ H Q
  | .nm i, v, d, env, env', σ, Q, hn, e, R, r, k => by
    simp only [bindP, Option.some.injEq] at e
    subst e
    obtain ⟨R1, hl⟩ := R.store (hn i (by simp [slotsP])) v
    have R2 := R1.setSh (i := i) hl r
    rw [List.set_set] at R2
    refine k _ R2 (fun j hj => ?_) (fun j hj => ?_) fun j m d' hj q => ?_
    · rw [List.getElem?_set_ne (fun z => hj (by simp [slotsP, z]))]
    · rw [getV_ne (fun z => hj (by simp [slotsP, z]))]
    · have : j = i := by simpa [slotsP] using hj
      subst this
      rw [getV_set] at q
      split at q
      · cases q; rfl
      · rename_i z; exact absurd ⟨rfl, getV_lt q⟩ z
  | .skip i, v, d, env, env', σ, Q, hn, e, R, r, k => by
    simp only [bindP, Option.some.injEq] at e
    subst e
    obtain ⟨R1, hl⟩ := R.store (hn i (by simp [slotsP])) v
    refine k _ R1 (fun j hj => ?_) (fun j hj => ?_) fun j m d' hj q => ?_
    · rw [List.getElem?_set_ne (fun z => hj (by simp [slotsP, z]))]
    · rw [getV_ne (fun z => hj (by simp [slotsP, z]))]
    · have : j = i := by simpa [slotsP] using hj
      subst this
      rw [getV_set] at q
      split at q
      · cases q
      · rename_i z; exact absurd ⟨rfl, getV_lt q⟩ z
  | .tp2 a b, v, d, env, env', σ, Q, hn, e, R, r, k => by
    obtain ⟨x, y, rfl⟩ : ∃ x y, d = .tup [x, y] := by
      unfold bindP at e
      split at e <;> first | exact ⟨_, _, rfl⟩ | cases e | skip
      all_goals first | (rename_i h _ _ _; cases h; done) | (rename_i h _ _ ; cases h; done) | (rename_i h _ ; cases h; done) | (rename_i h; cases h; done) | (simp_all; done)
    have e' : ((bindP a x env).bind fun env1 => bindP b y env1) = some env' := e
    · simp only [Option.bind_eq_some_iff] at e'
      obtain ⟨env1, e1, e2⟩ := e'
      cases r with
      | tup h r =>
        obtain ⟨u1, us1, rfl, q1, r⟩ := r.inv
        obtain ⟨u2, us2, rfl, q2, r⟩ := r.inv
        obtain rfl := r.inv0
        refine ⟨_, _, rfl, R.ex.sqt h, rfl, u1, _, rfl, bind_ok a (fun i hi => hn i (by simp [slotsP, hi])) e1 R q1 fun σ1 R1 s1 g1 m1 => ⟨u2, _, rfl, bind_ok b (fun i hi => hn i (by simp [slotsP, hi])) e2 R1 q2 fun σ2 R2 s2 g2 m2 => ⟨rfl, ?_⟩⟩⟩
        refine k σ2 R2 (fun i hi => ?_) (fun i hi => ?_) fun i m d' hi q => ?_
        · simp only [slotsP, List.mem_append, not_or] at hi; rw [s2 i hi.2, s1 i hi.1]
        · simp only [slotsP, List.mem_append, not_or] at hi; rw [g2 i hi.2, g1 i hi.1]
        · by_cases hb : i ∈ slotsP b
          · exact m2 i m d' hb q
          · simp only [slotsP, List.mem_append] at hi
            rw [g2 i hb] at q
            exact m1 i m d' (hi.resolve_right hb) q
  | .tp3 a b e3, v, d, env, env', σ, Q, hn, e, R, r, k => by
    obtain ⟨x, y, z, rfl⟩ : ∃ x y z, d = .tup [x, y, z] := by
      unfold bindP at e
      split at e <;> first | exact ⟨_, _, _, rfl⟩ | cases e | skip
      all_goals first | (rename_i h _ _ _; cases h; done) | (rename_i h _ _ ; cases h; done) | (rename_i h _ ; cases h; done) | (rename_i h; cases h; done) | (simp_all; done)
    have e' : ((bindP a x env).bind fun env1 => (bindP b y env1).bind fun env2 => bindP e3 z env2) = some env' := e
    · simp only [Option.bind_eq_some_iff] at e'
      obtain ⟨env1, e1, env2, e2, e4⟩ := e'
      cases r with
      | tup h r =>
        obtain ⟨u1, us1, rfl, q1, r⟩ := r.inv
        obtain ⟨u2, us2, rfl, q2, r⟩ := r.inv
        obtain ⟨u3, us3, rfl, q3, r⟩ := r.inv
        obtain rfl := r.inv0
        refine ⟨_, _, rfl, R.ex.sqt h, rfl, u1, _, rfl, bind_ok a (fun i hi => hn i (by simp [slotsP, hi])) e1 R q1 fun σ1 R1 s1 g1 m1 => ⟨u2, _, rfl, bind_ok b (fun i hi => hn i (by simp [slotsP, hi])) e2 R1 q2 fun σ2 R2 s2 g2 m2 =>
          ⟨u3, _, rfl, bind_ok e3 (fun i hi => hn i (by simp [slotsP, hi])) e4 R2 q3 fun σ3 R3 s3 g3 m3 => ⟨rfl, ?_⟩⟩⟩⟩
        refine k σ3 R3 (fun i hi => ?_) (fun i hi => ?_) fun i m d' hi q => ?_
        · simp only [slotsP, List.mem_append, not_or] at hi; rw [s3 i hi.2, s2 i hi.1.2, s1 i hi.1.1]
        · simp only [slotsP, List.mem_append, not_or] at hi; rw [g3 i hi.2, g2 i hi.1.2, g1 i hi.1.1]
        · by_cases hc : i ∈ slotsP e3
          · exact m3 i m d' hc q
          · rw [g3 i hc] at q
            by_cases hb : i ∈ slotsP b
            · exact m2 i m d' hb q
            · rw [g2 i hb] at q
              simp only [slotsP, List.mem_append] at hi
              exact m1 i m d' ((hi.resolve_right hc).resolve_right hb) q
end
/-! ### a comprehension's own names -/
theorem getV_wipe {env : Env} {i : Nat} : ∀ {vs : List Nat}, getV (wipeE env vs) i = if i ∈ vs then none else getV env i
  | [] => by simp [wipeE]
  | v :: vs => by
    unfold wipeE
    rw [getV_set, getV_wipe (vs := vs)]
    by_cases h : v = i
    · subst h
      by_cases h2 : v < (wipeE env vs).length
      · rw [if_pos ⟨rfl, h2⟩, if_pos List.mem_cons_self]
      · rw [if_neg (fun z => h2 z.2), if_pos List.mem_cons_self]
        split
        · rfl
        · cases q : getV env v with
          | none => rfl
          | some p =>
            have := getV_lt q
            have hl : (wipeE env vs).length = env.length := by
              clear this q h2
              induction vs with
              | nil => rfl
              | cons w ws ih => unfold wipeE; rw [List.length_set]; exact ih (fun z => by simp_all)
            omega
    · rw [if_neg (fun z => h z.1)]
      by_cases h2 : i ∈ vs
      · rw [if_pos h2, if_pos (List.mem_cons_of_mem _ h2)]
      · rw [if_neg h2, if_neg (by simp [h2]; exact fun z => h z.symm)]
theorem getV_back {env0 env : Env} {i : Nat} {m : Md} {d : D} : ∀ {vs : List Nat}, getV (backE env0 env vs) i = some (m, d) → (i ∈ vs ∧ m = .sh ∧ getV env0 i = some (.sh, d)) ∨ (i ∉ vs ∧ getV env i = some (m, d))
  | [], h => .inr ⟨by simp, h⟩
  | v :: vs, h => by
    unfold backE at h
    rw [getV_set] at h
    split at h
    · rename_i z
      obtain ⟨rfl, _⟩ := z
      split at h
      · rename_i d' q; cases h; exact .inl ⟨List.mem_cons_self, rfl, q⟩
      · cases h
    · rename_i z
      by_cases hv : v = i
      · subst hv
        exact absurd ⟨rfl, getV_lt h⟩ z
      · rcases getV_back h with ⟨a, b⟩ | ⟨a, b⟩
        · exact .inl ⟨List.mem_cons_of_mem _ a, b⟩
        · exact .inr ⟨by simp [a]; exact fun z => hv z.symm, b⟩
section
variable {c : Cc} {env : Env} {σ : St} {G H G' H' : Hp}
theorem loc_wipe {vs : List Nat} {i : Nat} (hi : i ∉ vs) : loc c (wipe σ vs) H i = loc c σ H i := by
  unfold loc
  split
  · have : (wipe σ vs)[i]? = σ[i]? := by
      induction vs with
      | nil => rfl
      | cons v vs ih =>
        unfold wipe
        rw [List.getElem?_set_ne (fun z => hi (by simp [z]))]
        exact ih (fun z => hi (List.mem_cons_of_mem _ z))
    rw [this]
  · rfl
theorem wipe_out {σ : St} {i : Nat} : ∀ {vs : List Nat}, i ∉ vs → (L2.wipe σ vs)[i]? = σ[i]?
  | [], _ => rfl
  | v :: vs, h => by
    unfold L2.wipe
    rw [List.getElem?_set_ne (fun z => h (by rw [z]; exact List.mem_cons_self))]
    exact wipe_out fun z => h (List.mem_cons_of_mem _ z)
theorem Rel.wipe (R : Rel c env σ G H) (vs : List Nat) (hw : ∀ x, c.self = some x → 0 ∉ vs) : Rel c (wipeE env vs) (L2.wipe σ vs) G H := by
  refine ⟨by rw [wipe_length]; exact R.len, R.ex, R.g0, R.gfr, R.fr, R.sH, fun i m d e => ?_, fun i j mi di mj dj l ne e1 n1 e2 n2 => ?_, R.sf, fun x e => by rw [wipe_out (hw x e)]; exact R.s0 x e, R.fsok⟩
  · rw [getV_wipe] at e
    split at e
    · cases e
    · rename_i hi
      rw [loc_wipe hi]; exact R.slot i m d e
  · rw [getV_wipe] at e1 e2
    split at e1
    · cases e1
    · split at e2
      · cases e2
      · rename_i h1 h2
        rw [loc_wipe h1, loc_wipe h2]
        exact R.dist i j mi di mj dj l ne e1 n1 e2 n2
/-- the state behind a turn, the own names as they were -/
theorem Rel.back {env2 : Env} {σ2 : St} {G2 H2 : Hp} {vs : List Nat} (R : Rel c env σ G H) (R2 : Rel c env2 σ2 G2 H2) (e : Ex G G2) (s : ∀ x, c.self = some x → H2 x = H x) (hs : ∀ i, i ∉ vs → σ2[i]? = σ[i]?) : Rel c (backE env env2 vs) σ G2 H2 := by
  have hl : ∀ i, i ∉ vs → loc c σ H2 i = loc c σ2 H2 i := fun i hi => by
    unfold loc
    split
    · rw [hs i hi]
    · rfl
  refine ⟨R.len, R2.ex, R2.g0, R2.gfr, R2.fr, R2.sH, fun i m d q => ?_, fun i j mi di mj dj l ne e1 n1 e2 n2 => ?_, R2.sf, R.s0, R2.fsok⟩
  · rcases getV_back q with ⟨h1, h2, h3⟩ | ⟨h1, h2⟩
    · subst h2
      obtain ⟨v, q1, q2⟩ := R.slot i _ d h3
      exact ⟨v, by rw [loc_self s]; exact q1, Rep.mono e q2⟩
    · rw [hl i h1]; exact R2.slot i m d h2
  · rcases getV_back e1 with ⟨_, h2, _⟩ | ⟨h1, h2⟩
    · exact absurd h2 n1
    · rcases getV_back e2 with ⟨_, h3, _⟩ | ⟨h3, h4⟩
      · exact absurd h3 n2
      · rw [hl i h1, hl j h3]
        exact R2.dist i j mi di mj dj l ne h2 n1 h4 n2
/-- a list that nobody but the machine holds yet -/
structure Tmp (c : Cc) (env : Env) (σ : St) (G H : Hp) (L : Addr) : Prop where
  g : G L = none
  h0 : c.H0 L = none
  ns : ∀ i m d, getV env i = some (m, d) → m ≠ .sh → loc c σ H i ≠ some (.ref L)
theorem Rel.tmpO (R : Rel c env σ G H) {L : Addr} (t : Tmp c env σ G H L) {o u' : HO} (h : H L = some o) (hn : ∀ C dx fs, o ≠ .ins C dx fs) : Rel c env σ G (upd H L u') := by
  have slf : ∀ x, c.self = some x → upd H L u' x = H x := fun x q => upd_ne (fun z => by
    obtain ⟨_, _, fs, w⟩ := R.sf x q
    subst z; rw [h] at w; exact hn _ _ _ (Option.some.inj w))
  have hloc := loc_self (c := c) (σ := σ) slf
  have keep : ∀ {i m d l}, getV env i = some (m, d) → m ≠ .sh → loc c σ H i = some (.ref l) → Own c.toKc G H l d → Own c.toKc G (upd H L u') l d := fun {i m d l} e hm hl o =>
    o.mono (.refl _) (upd_ne (fun z => by subst z; exact t.ns i m d e hm hl))
  refine ⟨R.len, fun a u q => ?_, R.g0, R.gfr, fun a u h1 h2 => ?_, fun a ha => ?_, fun i m d e => ?_, fun i j mi di mj dj l ne e1 n1 e2 n2 => ?_, fun x q => ?_, R.s0, fun x fs e h => R.fsok x fs e (by rw [← slf x e]; exact h)⟩
  · rw [upd_ne (fun z => by subst z; rw [t.g] at q; cases q)]; exact R.ex a u q
  · rw [upd_ne (fun z => by subst z; rw [t.h0] at h1; cases h1)]; exact R.fr a u h1 h2
  · by_cases z : a = L
    · subst z; rw [upd_same]; exact fun z => nomatch z
    · rw [upd_ne z]; exact R.sH a ha
  · obtain ⟨v, q1, q2⟩ := R.slot i m d e
    refine ⟨v, by rw [hloc]; exact q1, ?_⟩
    cases m with
    | sh => exact q2
    | own => obtain ⟨l', rfl, z1, z2, o'⟩ := q2; exact ⟨l', rfl, z1, z2, keep e (by decide) q1 o'⟩
    | ino => obtain ⟨l', rfl, z1, z2, o'⟩ := q2; exact ⟨l', rfl, z1, z2, keep e (by decide) q1 o'⟩
  · rw [hloc, hloc]; exact R.dist i j mi di mj dj l ne e1 n1 e2 n2
  · obtain ⟨h1, h2, fs, h3⟩ := R.sf x q
    exact ⟨h1, h2, fs, by rw [slf x q]; exact h3⟩
theorem Rel.tmp (R : Rel c env σ G H) {L : Addr} (t : Tmp c env σ G H L) {vs us : List V} (h : H L = some (.lst vs)) : Rel c env σ G (upd H L (.lst us)) := R.tmpO t h fun _ _ _ z => nomatch z
theorem Tmp.keep {env' : Env} {L : Addr} (t : Tmp c env σ G H L) (g : Gr c σ env env' G H G' H') (h : H L ≠ none) : Tmp c env' σ G' H' L := by
  refine ⟨?_, t.h0, fun i m d e hm q => ?_⟩
  · cases z : G' L with
    | none => rfl
    | some o =>
      rcases g.gf L (by rw [z]; exact fun z => nomatch z) with w | w | ⟨i, m, d, e, hm, q⟩
      · exact absurd t.g w
      · exact absurd w h
      · exact absurd q (t.ns i m d e hm)
  · obtain ⟨m0, d0, e0, h0⟩ := g.ow i m d e hm
    rw [loc_self g.s] at q
    exact t.ns i m0 d0 e0 h0 q
end
end Vf
end
section
namespace Vf
open PySem L2
def locB (ns : Ns) (x : Str) : Bool := match ns.lookup x with
  | some .local => !decide (x = ns.no)
  | some .cell => ns.fb x && !decide (x = ns.no)
  | _ => false
def tgtB : Expr → Bool
  | .Name .. => true
  | .Tuple .. => true
  | _ => false
theorem asg_each {e : Expr} (h : tgtB e = true) (es : List Expr) (env : PySem.Env) : assignEach (e :: es) env = (false, assign e env) :: assignEach es env := by
  cases e <;> first | rfl | cases h
def chkP (N : List Str) (ns : Ns) : Pat → Expr → Bool
  | .nm i, .Name x _ => decide (N[i]? = some x) && locB ns x
  | .skip i, .Name x _ => decide (N[i]? = some x) && locB ns x
  | .tp2 a b, .Tuple [x, y] _ _ => chkP N ns a x && chkP N ns b y
  | .tp3 a b c, .Tuple [x, y, z] _ _ => chkP N ns a x && chkP N ns b y && chkP N ns c z
  | _, _ => false
theorem chkP_tgt {N : List Str} {ns : Ns} {p : Pat} {e : Expr} (h : chkP N ns p e = true) : tgtB e = true := by
  cases p <;> cases e <;> first | rfl | (simp [chkP] at h; done)
section
variable {π : Pi} {c : Cc} {ξ : XK} {F : Fs} {n : Nat} {N fl : List Str} {ns : Ns} {X : Cx}
variable {a b e : Vf.E} {x y z tg : Expr} {pos p : Pos}
theorem Gd.loc (g : Gd π c ξ F n N fl ns X) {x : Str} (h : locB ns x = true) : L2.Loc X.env.scope x ∧ (X.fn x = true ∨ X.env.scope.names.lookup x = some .local) := by
  unfold locB Ns.lookup at h
  unfold L2.Loc
  rw [g.kd]
  split at h
  · exact ⟨.inl (by assumption), .inr (by assumption)⟩
  · rw [Bool.and_eq_true] at h
    exact ⟨.inr (by assumption), .inl (g.fn _ h.1)⟩
  · cases h
theorem locB_no {x : Str} (h : locB ns x = true) : x ≠ ns.no := by
  unfold locB at h
  split at h
  · simpa using h
  · rw [Bool.and_eq_true] at h
    simpa using h.2
  · cases h
theorem Gd.sl (g : Gd π c ξ F n N fl ns X) {i : Nat} {x : Str} (h : N[i]? = some x) (hx : x ≠ ns.no) : Sl c i :=
  ⟨by rw [← g.len]; exact (List.getElem?_eq_some_iff.mp h).1, fun y e z => by subst z; rw [g.self0 y e] at h; cases h; exact hx rfl⟩
theorem chkP_ok (g : Gd π c ξ F n N fl ns X) : ∀ (p : Pat) {tg : Expr}, chkP N ns p tg = true → PG X tg (gPat c.K p) ∧ ∀ i ∈ slotsP p, Sl c i
  | .nm i, tg, h => by
    cases tg <;> simp only [chkP, Bool.and_eq_true, decide_eq_true_eq, Bool.false_eq_true] at h
    obtain ⟨h1, h2⟩ := g.loc h.2
    refine ⟨pg_name (by rw [g.hN]; exact g.nd) (by rw [g.hN]; exact h.1) h1 h2, fun j hj => ?_⟩
    have : j = i := by simpa [slotsP] using hj
    subst this
    exact g.sl h.1 (locB_no h.2)
  | .skip i, tg, h => by
    cases tg <;> simp only [chkP, Bool.and_eq_true, decide_eq_true_eq, Bool.false_eq_true] at h
    obtain ⟨h1, h2⟩ := g.loc h.2
    refine ⟨pg_name (by rw [g.hN]; exact g.nd) (by rw [g.hN]; exact h.1) h1 h2, fun j hj => ?_⟩
    have : j = i := by simpa [slotsP] using hj
    subst this
    exact g.sl h.1 (locB_no h.2)
  | .tp2 a b, tg, h => by
    obtain ⟨x, y, u, v, rfl⟩ : ∃ x y u v, tg = .Tuple [x, y] u v := by
      unfold chkP at h
      split at h <;> first | exact ⟨_, _, _, _, rfl⟩ | cases h | skip
      all_goals simp_all
    have h' : (chkP N ns a x && chkP N ns b y) = true := h
    rw [Bool.and_eq_true] at h'
    obtain ⟨p1, q1⟩ := chkP_ok g a h'.1
    obtain ⟨p2, q2⟩ := chkP_ok g b h'.2
    refine ⟨by rw [← g.K]; exact pg_tup (n := 2) g.calm (pgs_cons (by rw [g.K]; exact p1) (pgs_cons (by rw [g.K]; exact p2) pgs_nil (by rw [asg_each (chkP_tgt h'.2)]; rfl)) (by rw [asg_each (chkP_tgt h'.1)]; rfl)) (by rw [asg_each (chkP_tgt h'.1), asg_each (chkP_tgt h'.2)]; rfl) (by rw [asg_each (chkP_tgt h'.1), asg_each (chkP_tgt h'.2)]; rfl), fun j hj => ?_⟩
    simp only [slotsP, List.mem_append] at hj
    exact hj.elim (q1 j) (q2 j)
  | .tp3 a b d, tg, h => by
    obtain ⟨x, y, z, u, v, rfl⟩ : ∃ x y z u v, tg = .Tuple [x, y, z] u v := by
      unfold chkP at h
      split at h <;> first | exact ⟨_, _, _, _, _, rfl⟩ | cases h | skip
      all_goals simp_all
    have h' : (chkP N ns a x && chkP N ns b y && chkP N ns d z) = true := h
    rw [Bool.and_eq_true, Bool.and_eq_true] at h'
    obtain ⟨p1, q1⟩ := chkP_ok g a h'.1.1
    obtain ⟨p2, q2⟩ := chkP_ok g b h'.1.2
    obtain ⟨p3, q3⟩ := chkP_ok g d h'.2
    refine ⟨by rw [← g.K]; exact pg_tup (n := 3) g.calm (pgs_cons (by rw [g.K]; exact p1) (pgs_cons (by rw [g.K]; exact p2) (pgs_cons (by rw [g.K]; exact p3) pgs_nil (by rw [asg_each (chkP_tgt h'.2)]; rfl)) (by rw [asg_each (chkP_tgt h'.1.2)]; rfl)) (by rw [asg_each (chkP_tgt h'.1.1)]; rfl)) (by rw [asg_each (chkP_tgt h'.1.1), asg_each (chkP_tgt h'.1.2), asg_each (chkP_tgt h'.2)]; rfl) (by rw [asg_each (chkP_tgt h'.1.1), asg_each (chkP_tgt h'.1.2), asg_each (chkP_tgt h'.2)]; rfl), fun j hj => ?_⟩
    simp only [slotsP, List.mem_append] at hj
    exact hj.elim (fun w => w.elim (q1 j) (q2 j)) (q3 j)
def scN (ns : Ns) : Scope := { kind := .function, names := ns.l, isGenerator := false, isCoroutine := false }
def blkB (N : List Str) (ns : Ns) (scope : Scope) (own : List (Str × Nat)) : Bool := blkC N (scN ns) scope own
theorem blkB_ok (g : Gd π c ξ F n N fl ns X) {scope : Scope} {own : List (Str × Nat)} (h : blkB N ns scope own = true) : BlkOk X.N X.env.scope scope own := by
  refine blkOk_by ?_
  unfold blkB blkC scN at h
  unfold blkC
  rw [g.hN, g.kd]
  exact h
/-- a comprehension's names -/
def ownB (ns : Ns) (own : List (Str × Nat)) : Bool := own.all fun p => !decide (p.1 = ns.no)
theorem ownB_ok (g : Gd π c ξ F n N fl ns X) {scope : Scope} {own : List (Str × Nat)} (h : blkB N ns scope own = true) (h2 : ownB ns own = true) : ∀ x, c.self = some x → 0 ∉ own.map (·.2) := fun x e z => by
  obtain ⟨p, hp, h0⟩ := List.mem_map.mp z
  have h1 := List.all_eq_true.mp h2 p hp
  have h3 := (blkB_ok g h).ix p hp
  rw [h0, g.hN, g.self0 x e] at h3
  simp [Option.some.inj h3] at h1
def nsC (ns : Ns) (scope : Scope) : Ns := ⟨(relS scope (scN ns)).names, fun x => scope.names.lookup x == some .cell, ns.no⟩
theorem Gd.blk (g : Gd π c ξ F n N fl ns X) (scope : Scope) (hk : scope.kind = .function) (s : Shared) (H : Hp) (C : Addr) (cl : List (Str × Addr)) (fp : List Addr) : Gd π c E0 F n N fl (nsC ns scope) (X.blk s H scope (compEnvC scope cl C X.env) fp) :=
  ⟨g.hN, g.len, g.nd, by
    show (relS scope X.env.scope).names = (relS scope (scN ns)).names
    unfold relS scN
    dsimp only
    rw [g.kd, g.knd], hk, g.K, g.calm, g.room, g.ob, fun x h => h, passL, g.free, g.glos, g.gbl, g.atts, g.fld, g.slf, g.selfc, g.self0, g.kcalls, g.calls⟩
/-- a step of the run -/
def stepC (F : Fs) (p : Pat) (cnd elt : Vf.E) (vs : List Nat) (x : D) (env1 : Env) : Vf.R (Option D × Env) :=
  Vf.R.of (bindP p x (wipeE env1 vs)) >>= fun env2 => cndB cnd (evalE F cnd env2) env2 >>= fun c => if c.1 = true then evalE F elt c.2 >>= fun r => .ok (some r.1.2, backE env1 r.2 vs) else .ok (none, backE env1 c.2 vs)
/-- a turn from one state of the names to the next, told of the names as they stand outside -/
theorem Gr.out {env1 env2 env3 : Env} {σ σ2 : St} {G2 H2 G3 H3 : Hp} {vs : List Nat} (g : Gr c σ2 env2 env3 G2 H2 G3 H3) (ho : ∀ i m d, getV env2 i = some (m, d) → m ≠ .sh → i ∉ vs ∧ getV env1 i = some (m, d))
    (hl : ∀ i, i ∉ vs → loc c σ2 H2 i = loc c σ H2 i) : Gr c σ env1 (backE env1 env3 vs) G2 H2 G3 H3 := by
  refine ⟨g.g, g.s, fun a o h k => g.fr a o h fun i m d e hm q => ?_, fun i m d e hm => ?_, fun a ha => ?_, g.al⟩
  · obtain ⟨h1, h2⟩ := ho i m d e hm
    rw [hl i h1] at q
    exact k i m d h2 hm q
  · rcases getV_back e with ⟨_, h2, _⟩ | ⟨h1, h2⟩
    · exact absurd h2 hm
    · obtain ⟨m0, d0, e0, h0⟩ := g.ow i m d h2 hm
      exact ⟨m0, d0, (ho i m0 d0 e0 h0).2, h0⟩
  · rcases g.gf a ha with h | h | ⟨i, m, d, e, hm, q⟩
    · exact .inl h
    · exact .inr (.inl h)
    · obtain ⟨h1, h2⟩ := ho i m d e hm
      rw [hl i h1] at q
      exact .inr (.inr ⟨i, m, d, h2, hm, q⟩)
theorem Gr.transX {env env1 env2 : Env} {σ : St} {G H G1 H1 G2 H2 : Hp} {L : Addr} (a : Gr c σ env env1 G H G1 H1) (hL : H L = none) (b : Gr c σ env1 env2 G1 H1 G2 H2) {o : HO} (h : H2 L ≠ none) (hs : ∀ x, c.self = some x → x ≠ L) : Gr c σ env env2 G H G2 (upd H2 L o) := by
  have t := a.trans b
  refine ⟨t.g, fun x e => by rw [upd_ne (hs x e)]; exact t.s x e, fun x u q k => ?_, t.ow, t.gf, fun x q => ?_⟩
  · rw [upd_ne (fun z => by subst z; rw [hL] at q; cases q)]; exact t.fr x u q k
  · by_cases z : x = L
    · subst z; rw [upd_same] at q; cases q
    · rw [upd_ne z] at q; exact t.al x q
end
end Vf
end
section
namespace Vf
open PySem L2
theorem wipe_get {σ : St} {i : Nat} : ∀ {vs : List Nat}, (L2.wipe σ vs)[i]? = if i ∈ vs ∧ i < σ.length then some none else σ[i]?
  | [] => by simp [L2.wipe]
  | v :: vs => by
    unfold L2.wipe
    by_cases h : v = i
    · subst h
      by_cases h2 : v < σ.length
      · rw [List.getElem?_set_self (by rw [wipe_length]; exact h2), if_pos ⟨List.mem_cons_self, h2⟩]
      · rw [if_neg (fun z => h2 z.2), List.getElem?_eq_none (by rw [List.length_set, wipe_length]; omega), List.getElem?_eq_none (by omega)]
    · rw [List.getElem?_set_ne h, wipe_get (vs := vs)]
      by_cases h2 : i ∈ vs ∧ i < σ.length
      · rw [if_pos h2, if_pos ⟨List.mem_cons_of_mem _ h2.1, h2.2⟩]
      · rw [if_neg h2, if_neg (fun z => h2 ⟨(List.mem_cons.mp z.1).resolve_left (fun w => h w.symm), z.2⟩)]
theorem lcG_noexc {step : D → Env → R (Option D × Env)} {s : Src} : ∀ (m i : Nat) (env : Env) (k : Nat) (x : D), lcG step s m i env ≠ .exc k x
  | 0, i, env, k, x => by
    unfold lcG
    split <;> exact fun z => nomatch z
  | m + 1, i, env, k, x => by
    unfold lcG
    split
    · exact fun z => nomatch z
    · exact fun z => nomatch z
    · rename_i y _
      cases q : step y env with
      | stk => exact fun z => nomatch z
      | exc _ _ => exact fun z => nomatch z
      | ok p =>
        simp only [noexc_ok, R.bind_ok]
        cases q2 : lcG step s m (i + 1) p.2 with
        | stk => exact fun z => nomatch z
        | exc k' x' => exact absurd q2 (lcG_noexc m (i + 1) p.2 k' x')
        | ok r => exact fun z => nomatch z
def tcnd (c : Cc) (F : Fs) (cnd : E) : TT := match cnd with
  | .nop => tYes
  | _ => tb1 c E0 F cnd
section
variable {c : Cc} {F : Fs} {σ : St} {env : Env} {G H : Hp}
theorem tcnd_imp {cnd : E} {cc : Bool × Env} {Q : Bool → Hp → Prop} (R : Rel c env σ G H) (e : cndB cnd (evalE F cnd env) env = .ok cc) (k : ∀ G' H', Rel c cc.2 σ G' H' → Gr c σ env cc.2 G H G' H' → Q cc.1 H') : tcnd c F cnd σ H Q := by
  by_cases hn : cnd = .nop
  · subst hn
    cases e
    exact k G H R (.refl _ _)
  · have e1 : tcnd c F cnd = tb1 c E0 F cnd := by cases cnd <;> first | rfl | exact absurd rfl hn
    have e2 : cndB cnd (evalE F cnd env) env = (evalE F cnd env >>= fun c => Vf.R.of (dtruth c.1.2) >>= fun t => .ok (t, c.2)) := by cases cnd <;> first | rfl | exact absurd rfl hn
    rw [e1]
    rw [e2] at e
    refine ⟨env, G, R, ?_⟩
    cases q : evalE F cnd env with
    | stk => rw [q] at e; cases e
    | exc _ _ => rw [q] at e; cases e
    | ok p =>
      rw [q, Vf.R.bind_ok] at e
      cases q2 : dtruth p.1.2 with
      | none => rw [q2] at e; cases e
      | some t =>
        rw [q2] at e
        cases e
        exact ⟨t, q2, fun G' H' R' g => k G' H' R' g⟩
theorem Tmp.wrO {L : Addr} {o o0 : HO} (R : Rel c env σ G H) (t : Tmp c env σ G H L) (h : H L = some o0) (hn : ∀ C dx fs, o0 ≠ .ins C dx fs) : Tmp c env σ G (upd H L o) L := by
  refine ⟨t.g, t.h0, fun i m d e hm q => ?_⟩
  have slf : ∀ x, c.self = some x → upd H L o x = H x := fun x q => upd_ne (fun z => by
    obtain ⟨_, _, fs, w⟩ := R.sf x q
    subst z; rw [h] at w; exact hn _ _ _ (Option.some.inj w))
  rw [loc_self slf] at q
  exact t.ns i m d e hm q
theorem Tmp.wr {L : Addr} {o : HO} (R : Rel c env σ G H) (t : Tmp c env σ G H L) {vs : List V} (h : H L = some (.lst vs)) : Tmp c env σ G (upd H L o) L := t.wrO R h fun _ _ _ z => nomatch z
theorem self_ne {L : Addr} (R : Rel c env σ G H) {vs : List V} (h : H L = some (.lst vs)) : ∀ x, c.self = some x → x ≠ L := fun x q z => by
  obtain ⟨_, _, fs, w⟩ := R.sf x q
  subst z; rw [h] at w; cases w
end
section
variable {c : Cc} {ξ : XK} {F : Fs}
theorem lc_read {k : IK} {a b : E} {p : Pat} {cnd e : E} {own : List (Str × Nat)} {σ : St} {H : Hp} {Q : VK} (hn : ∀ i ∈ slotsP p, Sl c i) (hw : ∀ x, c.self = some x → 0 ∉ own.map (·.2)) (hsub : ∀ i ∈ slotsP p, i ∈ own.map (·.2)) (w : tv c ξ F (.lc k a b p cnd e own) σ H Q) :
    tLc (ti c ξ F k a b) (gPat c.K p) (tcnd c F cnd) (tv c E0 F e) (own.map (·.2)) σ H Q := by
  obtain ⟨env, G, R, w⟩ := w
  simp only [evalE, PR.bind] at w
  refine ⟨env, G, R, ?_⟩
  simp only [srcR, PR.bind]
  refine w.mono fun u w => w.mono fun v w => w.mono fun s w => ?_
  intro G1 H1 J R1 g1 so L hL
  have w' : PR c ξ (lcR (stepC F p cnd e (own.map (·.2))) v.2 s) _ := w
  unfold lcR at w'
  obtain ⟨hfu, w'⟩ := PR.chk w'
  generalize own.map (·.2) = vs at w' hsub hw ⊢
  generalize hst : stepC F p cnd e vs = step at w'
  cases hr : lcG step s (fuelOf s) 0 v.2 with
  | stk => rw [hr] at w'; exact w'.elim
  | exc j x => exact absurd hr (lcG_noexc _ _ _ _ _)
  | ok r =>
    rw [hr] at w'
    have k : ∀ G' H' v', Rel c r.2 σ G' H' → Gr c σ env r.2 G H G' H' → ValOk c r.2 σ H G' H' true v' (.lst r.1) → Q v' H' := w'
    have N0 : New c.toKc G1 H1 G1 (upd H1 L (.lst [])) true (.ref L) (.lst []) := New.lst R1.ex hL .nil
    obtain ⟨R0, ok0⟩ := R1.new N0
    have T0 : Tmp c v.2 σ G1 (upd H1 L (.lst [])) L := by
      unfold ValOk at ok0
      rw [if_pos rfl] at ok0
      obtain ⟨l, z, z1, z2, z3, z4, z5⟩ := ok0
      cases z
      exact ⟨z2, z3, z5⟩
    refine ⟨fun i m H' => i + m ≤ fuelOf s ∧ ∃ env' G' av ad rest, Rel c env' σ G' H' ∧ Gr c σ v.2 env' G1 H1 G' H' ∧ Tmp c env' σ G' H' L ∧ H' L = some (.lst av) ∧ Reps c.toKc G' av ad ∧ lcG step s m i env' = .ok (rest, r.2) ∧ ad ++ rest = r.1 ∧ ad.length ≤ i,
      ⟨fuelOf s, by omega, v.2, G1, [], [], r.1, R0, R1.gr N0, T0, upd_same, .nil, by rw [hr], rfl, Nat.le_refl _⟩, fun i m H' ⟨him, env', G', av, ad, rest, R', g', T', hL', ra, run, tot, hlen⟩ => ?_⟩
    have src := so env' σ G' H' R' g'.g (fun j _ => loc_self g'.s j) i
    have fin : nxtOf s i env' = some none → rest = [] ∧ env' = r.2 → J.stop i H' ∧ Q (.ref L) H' := fun z ⟨z1, z2⟩ => by
      subst z1 z2
      rw [List.append_nil] at tot
      subst tot
      refine ⟨src.1 z, k G' H' (.ref L) R' (g1.trans g') ?_⟩
      unfold ValOk
      rw [if_pos rfl]
      exact ⟨L, rfl, g1.al L hL, T'.g, T'.h0, ⟨av, hL', ra⟩, T'.ns⟩
    cases m with
    | zero =>
      unfold lcG at run
      split at run
      · rename_i z
        have run' := run
        cases run'
        exact .inl (fin z ⟨rfl, rfl⟩)
      · cases run
    | succ m =>
      unfold lcG at run
      split at run
      · cases run
      · rename_i z
        have run' := run
        cases run'
        exact .inl (fin z ⟨rfl, rfl⟩)
      · rename_i x z
        obtain ⟨hgo, hy⟩ := src.2 x z
        have hst2 : step x env' = stepC F p cnd e vs x env' := by rw [hst]
        cases hs : step x env' with
        | stk => rw [hs] at run; cases run
        | exc _ _ => rw [hs] at run; cases run
        | ok q =>
          rw [hs, noexc_ok, Vf.R.bind_ok] at run
          cases hr2 : lcG step s m (i + 1) q.2 with
          | stk => rw [hr2] at run; cases run
          | exc _ _ => rw [hr2] at run; cases run
          | ok t =>
            rw [hr2, Vf.R.bind_ok] at run
            have run' : (consO q.1 t.1, t.2) = (rest, r.2) := Vf.R.ok.inj run
            obtain ⟨rfl, e2⟩ := Prod.mk.inj run'
            replace hr2 : lcG step s m (i + 1) q.2 = .ok (t.1, r.2) := by rw [hr2, ← e2]
            refine .inr ⟨hgo, fun H'' => i + 1 + m ≤ fuelOf s ∧ ∃ env' G' av ad rest, Rel c env' σ G' H'' ∧ Gr c σ v.2 env' G1 H1 G' H'' ∧ Tmp c env' σ G' H'' L ∧ H'' L = some (.lst av) ∧ Reps c.toKc G' av ad ∧ lcG step s m (i + 1) env' = .ok (rest, r.2) ∧ ad ++ rest = r.1 ∧ ad.length ≤ i + 1,
              fun H'' z => ⟨m, Nat.lt_succ_self m, z⟩, fun x' H2 y => ?_⟩
            obtain ⟨G2, N2⟩ := hy x' H2 y
            obtain ⟨R2, ok2⟩ := R'.new N2
            have r2 : Rep c.toKc G2 x' x := by
              unfold ValOk at ok2
              rw [if_neg Bool.false_ne_true] at ok2
              exact ok2
            have gN := R'.gr N2
            have hL2 : H2 L = some (.lst av) := N2.hh _ _ hL'
            have T2 := T'.keep gN (by rw [hL']; exact fun z => nomatch z)
            rw [hst2] at hs
            unfold stepC at hs
            cases hb : bindP p x (wipeE env' vs) with
            | none => rw [hb] at hs; cases hs
            | some env2 =>
              rw [hb, Vf.R.of_some, Vf.R.bind_ok] at hs
              cases hc : cndB cnd (evalE F cnd env2) env2 with
              | stk => rw [hc] at hs; cases hs
              | exc _ _ => rw [hc] at hs; cases hs
              | ok cc =>
                rw [hc, Vf.R.bind_ok] at hs
                refine bind_ok p hn hb (R2.wipe vs hw) r2 fun σ2 R3 s2 gv2 m2 => ?_
                have hlenσ : σ2.length = σ.length := R3.len.trans R'.len.symm
                have hs2 : ∀ i, i ∉ vs → σ2[i]? = σ[i]? := fun i hi => by
                  rw [s2 i (fun z => hi (hsub i z)), wipe_get, if_neg (fun z => hi z.1)]
                have hl2 : ∀ (HH : Hp) i, i ∉ vs → loc c σ2 HH i = loc c σ HH i := fun HH i hi => by
                  unfold loc
                  split
                  · rw [hs2 i hi]
                  · rfl
                have ho : ∀ i m d, getV env2 i = some (m, d) → m ≠ .sh → i ∉ vs ∧ getV env' i = some (m, d) := fun i m d e1 hm => by
                  by_cases hi : i ∈ slotsP p
                  · exact absurd (m2 i m d hi e1) hm
                  · rw [gv2 i hi, getV_wipe] at e1
                    split at e1
                    · cases e1
                    · exact ⟨by assumption, e1⟩
                have T3 : Tmp c env2 σ2 G2 H2 L := ⟨T2.g, T2.h0, fun i m d e1 hm w => by
                  obtain ⟨h1, h2⟩ := ho i m d e1 hm
                  rw [hl2 H2 i h1] at w
                  exact T2.ns i m d h2 hm w⟩
                refine ⟨List.ext_getElem? fun i => ?_, tcnd_imp R3 hc fun G3 H3 R4 g3 => ?_⟩
                · rw [wipe_get, wipe_get, hlenσ]
                  split
                  · rfl
                  · rename_i hi
                    by_cases hv : i ∈ vs
                    · have : ¬ i < σ.length := fun z => hi ⟨hv, z⟩
                      rw [List.getElem?_eq_none (by omega), List.getElem?_eq_none (by omega)]
                    · exact hs2 i hv
                have hL3 : H3 L = some (.lst av) := g3.fr L _ hL2 fun i m d e1 hm => T3.ns i m d e1 hm
                have T4 := T3.keep g3 (by rw [hL2]; exact fun z => nomatch z)
                obtain ⟨cb, ce⟩ := cc
                cases cb with
                | false =>
                  cases hs
                  have Rb := R2.back (vs := vs) R4 g3.g g3.s hs2
                  have go := g3.out (vs := vs) ho fun i hi => hl2 H2 i hi
                  exact ⟨by omega, _, G3, av, ad, t.1, Rb, (g'.trans gN).trans go, T2.keep go (by rw [hL2]; exact fun z => nomatch z), hL3, ra.mono (N2.gg.trans g3.g), hr2, tot, by omega⟩
                | true =>
                  have hs' : (evalE F e ce >>= fun r => Vf.R.ok (some r.1.2, backE env' r.2 vs)) = .ok q := hs
                  cases he : evalE F e ce with
                  | stk => rw [he] at hs'; cases hs'
                  | exc _ _ => rw [he] at hs'; cases hs'
                  | ok pp =>
                    rw [he, Vf.R.bind_ok] at hs'
                    cases hs'
                    refine T_sh R4 ?_
                    rw [he]
                    intro G4 H4 yv R5 g4 r5
                    have g34 := g3.trans g4
                    have Rb := R2.back (vs := vs) R5 g34.g g34.s hs2
                    have go := g34.out (vs := vs) ho fun i hi => hl2 H2 i hi
                    have hL4 : H4 L = some (.lst av) := g4.fr L _ hL3 fun i m d e1 hm => T4.ns i m d e1 hm
                    have T5 := T2.keep go (by rw [hL2]; exact fun z => nomatch z)
                    refine ⟨av, hL4, by rw [ra.length]; omega, by omega, _, G4, av ++ [yv], ad ++ [pp.1.2], t.1, Rb.tmp T5 hL4, (g'.trans gN).transX hL go (by rw [hL4]; exact fun z => nomatch z) (self_ne R2 hL2), T5.wr Rb hL4, upd_same, (ra.mono (N2.gg.trans g34.g)).append (.cons r5 .nil), hr2, ?_, ?_⟩
                    · rw [List.append_assoc]; exact tot
                    · rw [List.length_append]; show ad.length + 1 ≤ i + 1; omega
end
end Vf
end
section
namespace Vf
open PySem L2
/-- {name: top * (bottom // under) for name, (top, under) in fractions.items()} -/
def propS : Expr → Option ((Str × Str × Str) × (Str × Str) × (Str × Str × Str) × Expr × Expr × Scope)
  | .DictComp (.Name n1 _) (.BinOp (.Name t1 _) .Mult (.BinOp (.Name b1 _) .FloorDiv (.Name u1 _) _) _) [⟨tg, .Call (.Attribute fr m ap) [] [] cp, [], 0⟩] scope _ =>
    match fr, tg with
    | .Name f1 fp, .Tuple [.Name n2 q2, .Tuple [.Name t2 q3, .Name u2 q4] k1 q5] k2 q6 => if (m = "items" ∧ (ap.endLine == cp.line) = true) ∧ n1 = n2 ∧ t1 = t2 ∧ u1 = u2 then some ((n1, t1, u1), (b1, f1), (n2, t2, u2), .Tuple [.Name n2 q2, .Tuple [.Name t2 q3, .Name u2 q4] k1 q5] k2 q6, .Call (.Attribute (.Name f1 fp) m ap) [] [] cp, scope) else none
    | _, _ => none
  | _ => none
def chkPr (N : List Str) (ns : Ns) (i j : Nat) (own : List (Str × Nat)) (ast : Expr) : Bool :=
  match propS ast, own with
  | some ((n, t, u), (b, f), _, _, _, scope), [(n', a1), (t', a2), (u', a3)] => decide (n = n' ∧ t = t' ∧ u = u') && decide (N[i]? = some f) && visB ns f && nmB f && decide (N[j]? = some b) && visB (nsC ns scope) b && nmB b && decide (N[a1]? = some n) && locB (nsC ns scope) n && visB (nsC ns scope) n && nmB n && decide (N[a2]? = some t) && locB (nsC ns scope) t && visB (nsC ns scope) t && nmB t && decide (N[a3]? = some u) && locB (nsC ns scope) u && visB (nsC ns scope) u && nmB u &&
      blkB N ns scope own && ownB ns own && decide (a1 ≠ a2 ∧ a1 ≠ a3 ∧ a2 ≠ a3 ∧ j ≠ a1 ∧ j ≠ a2 ∧ j ≠ a3)
  | _, _ => false
theorem chkPr_bool {N : List Str} {ns : Ns} {i j : Nat} {own : List (Str × Nat)} {op : PySem.BoolOp} {es : List Expr} {pos : Pos} : chkPr N ns i j own (.BoolOp op es pos) = false := rfl
theorem propS_ok {ast : Expr} {n t u b f : Str} {q : Str × Str × Str} {e1 e2 : Expr} {scope : Scope} (h : propS ast = some ((n, t, u), (b, f), q, e1, e2, scope)) :
    ∃ p1 p2 p3 p4 p5 p6 ap cp fp q2 q3 q4 k1 q5 k2 q6 pos, (ap.endLine == cp.line) = true ∧ ast = .DictComp (.Name n p1) (.BinOp (.Name t p2) .Mult (.BinOp (.Name b p3) .FloorDiv (.Name u p4) p5) p6) [⟨.Tuple [.Name n q2, .Tuple [.Name t q3, .Name u q4] k1 q5] k2 q6, .Call (.Attribute (.Name f fp) "items" ap) [] [] cp, [], 0⟩] scope pos := by
  unfold propS at h
  split at h
  · split at h
    · split at h
      · rename_i hh
        obtain ⟨⟨rfl, hl⟩, rfl, rfl, rfl⟩ := hh
        cases h
        exact ⟨_, _, _, _, _, _, _, _, _, _, _, _, _, _, _, _, _, hl, rfl⟩
      · cases h
    · cases h
  · cases h
def tPr (K : PySem.W.Frag) (i j a1 a2 a3 : Nat) : TE := tLockE (tDc (iItems (tVar i)) (gPat K (.tp2 (.nm a1) (.tp2 (.nm a2) (.nm a3)))) tYes (tVar a1) (tOp (rI CMul fun i j => .int (i * j)) (tVar a2) (tOp (rI CDivN fun i j => .int (i.fdiv j)) (tVar j) (tVar a3))) [a1, a2, a3])
section
variable {π : Pi} {c : Cc} {ξ : XK} {F : Fs} {n : Nat} {N fl : List Str} {ns : Ns} {X : Cx}
theorem pe_prop (g : Gd π c ξ F n N fl ns X) {i j : Nat} {own : List (Str × Nat)} {ast : Expr} (h : chkPr N ns i j own ast = true) : ∃ a1 a2 a3, own.map (·.2) = [a1, a2, a3] ∧ (a1 ≠ a2 ∧ a1 ≠ a3 ∧ a2 ≠ a3 ∧ j ≠ a1 ∧ j ≠ a2 ∧ j ≠ a3) ∧ (∀ k ∈ [i, j, a1, a2, a3], k < c.n) ∧ PE X ast (tPr c.K i j a1 a2 a3) := by
  unfold chkPr at h
  split at h
  · rename_i n1 t1 u1 b1 f1 _ _ _ scope n2 a1 t2 a2 u2 a3 hs
    simp only [Bool.and_eq_true, decide_eq_true_eq] at h
    obtain ⟨⟨⟨⟨⟨⟨⟨⟨⟨⟨⟨⟨⟨⟨⟨⟨⟨⟨⟨⟨⟨⟨rfl, rfl, rfl⟩, h1⟩, h2⟩, h3⟩, h4⟩, h5⟩, h6⟩, h7⟩, h8⟩, h9⟩, h10⟩, h11⟩, h12⟩, h13⟩, h14⟩, h15⟩, h16⟩, h17⟩, h18⟩, h19⟩, h20⟩, h21⟩ := h
    obtain ⟨p1, p2, p3, p4, p5, p6, ap, cp, fp, q2, q3, q4, k1, q5, k2, q6, pos, hl, rfl⟩ := propS_ok hs
    have ok := blkB_ok g h19
    have gb := fun s H C cl fp => g.blk scope ok.kind s H C cl fp
    have lt : ∀ {k : Nat} {x : Str}, N[k]? = some x → k < c.n := fun {k x} q => by rw [← g.len]; exact (List.getElem?_eq_some_iff.mp q).1
    refine ⟨a1, a2, a3, rfl, h21, fun k hk => ?_, ?_⟩
    · simp only [List.mem_cons, List.not_mem_nil, or_false] at hk
      rcases hk with rfl | rfl | rfl | rfl | rfl
      · exact lt h1
      · exact lt h4
      · exact lt h7
      · exact lt h11
      · exact lt h15
    have vr : ∀ {k : Nat} {x : Str} {pp : Pos}, N[k]? = some x → visB (nsC ns scope) x = true → nmB x = true → ∀ (s : Shared) (H : Hp) (C : Addr) (cl : List (Str × Addr)) (fp : List Addr), PE (X.blk s H scope (compEnvC scope cl C X.env) fp) (.Name x pp) (tVar k) := fun {k x pp} q1 q2 q3 s H C cl fp => pe_var (by rw [(gb s H C cl fp).hN]; exact q1) ((gb s H C cl fp).vis q2) (nmB_ok q3).1 (nmB_ok q3).2.1
    have hp : chkP N (nsC ns scope) (.tp2 (.nm a1) (.tp2 (.nm a2) (.nm a3))) (.Tuple [.Name n1 q2, .Tuple [.Name t1 q3, .Name u1 q4] k1 q5] k2 q6) = true := by
      simp only [chkP, h7, h8, h11, h12, h15, h16, decide_true, Bool.and_self]
    refine pe_lock (pe_dc (own := [(n1, a1), (t1, a2), (u1, a3)]) g.calm (by rw [g.hN]; exact g.nd) (pi_items (pe_var (by rw [g.hN]; exact h1) (g.vis h2) (nmB_ok h3).1 (nmB_ok h3).2.1) rfl hl) ok (fun s H C cl fp => (chkP_ok (gb s H C cl fp) _ hp).1) (fun _ _ _ _ _ => pts_nil)
      (fun s H C cl fp => vr h7 h9 h10 s H C cl fp) (fun s H C cl fp => pe_op op_mul (vr h11 h13 h14 s H C cl fp) (pe_op op_fdivN (vr h4 h5 h6 s H C cl fp) (vr h15 h17 h18 s H C cl fp))) (fun x => rfl))
  · cases h
theorem propL_get (b : Int) : ∀ {kds l : List (Key × D)}, propL b kds = some l → l.length = kds.length ∧ ∀ (i : Nat) (kd : Key × D), kds[i]? = some kd → ∃ x top under, kd = (.inr x, .tup [.int top, .int under]) ∧ (under ≠ 0 ∧ under.natAbs < 1073741824 ∧ (top.natAbs < 2 ^ 64 ∨ (b.fdiv under).natAbs < 2 ^ 64)) ∧ l[i]? = some (.inr x, .int (top * b.fdiv under))
  | [], l, h => by cases h; exact ⟨rfl, fun i kd e => by simp at e⟩
  | kd0 :: r, l, h => by
    unfold propL at h
    split at h
    · rename_i h0; cases h0
    · rename_i x top under r' h0
      cases h0
      split at h
      · rename_i hb
        simp only [Option.map_eq_some_iff] at h
        obtain ⟨l', h1, rfl⟩ := h
        obtain ⟨q1, q2⟩ := propL_get b h1
        refine ⟨by simp [q1], fun i kd e => ?_⟩
        cases i with
        | zero => simp at e; subst e; exact ⟨x, top, under, rfl, hb, rfl⟩
        | succ i =>
          obtain ⟨x', t', u', e1, e2, e3⟩ := q2 i kd (by simpa using e)
          exact ⟨x', t', u', e1, e2, by simpa using e3⟩
      · cases h
    · cases h
def dV : D → V
  | .int i => .int i
  | _ => .non
theorem propL_rep (b : Int) {k : Kc} {G : Hp} : ∀ {kds l : List (Key × D)}, propL b kds = some l → RepK k G (l.map fun kv => (kv.1, dV kv.2)) l
  | [], l, h => by cases h; exact .nil
  | kd0 :: r, l, h => by
    unfold propL at h
    split at h
    · rename_i h0; cases h0
    · rename_i x top under r' h0
      cases h0
      split at h
      · simp only [Option.map_eq_some_iff] at h
        obtain ⟨l', h1, rfl⟩ := h
        exact .cons (.int _) (propL_rep b h1)
      · cases h
    · cases h
theorem RepK.get {k : Kc} {G : Hp} : ∀ {vs : List (Key × V)} {ds : List (Key × D)} {i : Nat} {q : Key} {v : V}, RepK k G vs ds → vs[i]? = some (q, v) → ∃ d, ds[i]? = some (q, d) ∧ Rep k G v d
  | _, _, _, _, _, .nil, e => by simp at e
  | _, _, 0, _, _, .cons h _, e => by simp at e; obtain ⟨rfl, rfl⟩ := e; exact ⟨_, rfl, h⟩
  | _, _, i + 1, _, _, .cons _ r, e => by
    obtain ⟨d, e1, h⟩ := RepK.get (i := i) r (by simpa using e)
    exact ⟨d, by simpa using e1, h⟩
theorem mergeK_len : ∀ (l acc : List (Key × V)), (mergeK acc l).length ≤ acc.length + l.length
  | [], acc => by simp [mergeK]
  | kv :: l, acc => by
    have := mergeK_len l (putK acc kv.1 kv.2)
    have h2 := length_putK acc kv.1 kv.2
    have e : mergeK acc (kv :: l) = mergeK (putK acc kv.1 kv.2) l := rfl
    rw [e, List.length_cons]; omega
theorem mergeK_succ {l : List (Key × V)} {i : Nat} {k : Key} {v : V} (h : l[i]? = some (k, v)) : mergeK [] (l.take (i + 1)) = putK (mergeK [] (l.take i)) k v := by
  rw [List.take_add_one, h]
  simp [mergeK, List.foldl_append]
theorem prop_read {i j a1 a2 a3 : Nat} {own : List (Str × Nat)} (hl : ∀ k ∈ [i, j, a1, a2, a3], k < c.n) (hd : a1 ≠ a2 ∧ a1 ≠ a3 ∧ a2 ≠ a3 ∧ j ≠ a1 ∧ j ≠ a2 ∧ j ≠ a3) {σ : St} {H : Hp} {Q : VK} (w : tv c ξ F (.prop i j own) σ H Q) : tPr c.K i j a1 a2 a3 σ H Q := by
  obtain ⟨env, G, R, w⟩ := w
  simp only [evalE, PR.bind] at w
  obtain ⟨p, e1, w⟩ := PR.of w
  obtain ⟨q, e2, w⟩ := PR.of w
  obtain ⟨d, e3, w⟩ := PR.of w
  obtain ⟨kds, b, l, rfl, rfl, hlen, hpl, rfl⟩ : ∃ kds b l, p = (.sh, .dic kds) ∧ q = (.sh, .int b) ∧ kds.length < sizeLine ∧ propL b kds = some l ∧ d = .dic (mergeD [] l) := by
    unfold propD at e3
    split at e3
    · split at e3
      · simp only [Option.map_eq_some_iff] at e3
        obtain ⟨l, h1, rfl⟩ := e3
        exact ⟨_, _, l, rfl, rfl, by assumption, h1, rfl⟩
      · cases e3
    · cases e3
  have lv : ∀ {k : Nat} {v : V}, k < c.n → loc c σ H k = some v → σ[k]? = some (some v) := fun {k v} hk q => by
    unfold loc at q
    rw [if_pos hk] at q
    cases z : σ[k]? with
    | none => rw [z] at q; cases q
    | some o => rw [z] at q; rw [show o = some v from q]
  obtain ⟨v1, l1, r1⟩ := R.slot i _ _ e1
  obtain ⟨v2, l2, r2⟩ := R.slot j _ _ e2
  have hi := lv (hl i (by simp)) l1
  have hj := lv (hl j (by simp)) l2
  obtain rfl : v2 = .int b := Rep.i_int r2
  cases (show Rep c.toKc G v1 (.dic kds) from r1) with
  | @dic dd kvs _ hG rk =>
  have hH : H dd = some (.dK kvs) := R.ex _ _ hG
  obtain ⟨n1, n2⟩ := propL_get b hpl
  have nk := rk.length
  refine ⟨dd, .dK kvs, hH, trivial, fun od => ?_⟩
  refine ⟨.ref dd, hi, dd, od, kvs, rfl, upd_same, fun Dn hD => ?_⟩
  have hDd : Dn ≠ dd := fun z => by subst z; rw [upd_same] at hD; cases hD
  have hDH : H Dn = none := by rw [upd_ne hDd] at hD; exact hD
  have lr : RepK c.toKc G (l.map fun kv => (kv.1, dV kv.2)) l := propL_rep b hpl
  generalize hlV : (l.map fun kv => (kv.1, dV kv.2)) = lV at lr
  have lVlen : lV.length = kvs.length := by rw [← hlV, List.length_map, n1, nk]
  refine ⟨fun m k Hc => m + k = kvs.length ∧ Hc dd = some (.frz od (.dK kvs)) ∧ Hc Dn = some (.dK (mergeK [] (lV.take m))) ∧ ∀ a o, H a = some o → a ≠ dd → Hc a = some o,
    ⟨kvs.length, by omega, by rw [upd_ne (Ne.symm hDd), upd_same], upd_same, fun a o z hz => by rw [upd_ne (fun y => by subst y; rw [hDH] at z; cases z), upd_ne hz]; exact z⟩, fun m k Hc ⟨hm, c1, c2, c3⟩ => ?_⟩
  by_cases hlt : m < kvs.length
  · refine .inr ⟨⟨c1, hlt⟩, fun Hc => m + 1 + (k - 1) = kvs.length ∧ Hc dd = some (.frz od (.dK kvs)) ∧ Hc Dn = some (.dK (mergeK [] (lV.take (m + 1)))) ∧ ∀ a o, H a = some o → a ≠ dd → Hc a = some o, fun H' z => ⟨k - 1, by omega, z⟩, fun x H' ⟨T, kk, v, hk, hx, hT, hH'⟩ => ?_⟩
    subst hx hH'
    obtain ⟨d', g1, g2⟩ := rk.get hk
    obtain ⟨xn, top, under, g3, ⟨b1, b2, b3⟩, g4⟩ := n2 m _ g1
    obtain ⟨rfl, rfl⟩ := Prod.mk.inj g3
    have Td : T ≠ dd := fun z => by subst z; rw [c1] at hT; cases hT
    have TD : T ≠ Dn := fun z => by subst z; rw [c2] at hT; cases hT
    cases g2 with
    | @tup t vs' _ hs rr =>
    obtain ⟨u1, us1, rfl, q1, rr⟩ := rr.inv
    obtain ⟨u2, us2, rfl, q2, rr⟩ := rr.inv
    obtain rfl := rr.inv0
    obtain rfl := q1.i_int
    obtain rfl := q2.i_int
    have st : SqT c.K (upd Hc T (.tup [kV (.inr xn), .ref t])) t [.int top, .int under] := by
      have cv : ∀ o, G t = some o → (∀ kv, o ≠ .dK kv) → upd Hc T (.tup [kV (.inr xn), .ref t]) t = some o := fun o z nz => by
        have z2 := c3 t o (R.ex _ _ z) (fun y => by subst y; rw [hG] at z; cases z; exact nz _ rfl)
        rw [upd_ne (fun y => by subst y; rw [hT] at z2; cases z2)]; exact z2
      rcases hs with (hs | ⟨o, hs⟩) | hs
      · exact .inl (.inl (cv _ hs fun _ z => nomatch z))
      · exact .inl (.inr ⟨o, cv _ hs fun _ z => nomatch z⟩)
      · exact .inr hs
    have len : σ.length = c.n := R.len
    have wl : (L2.wipe σ [a1, a2, a3]).length = σ.length := wipe_length _ _
    have la1 : a1 < σ.length := by rw [len]; exact hl a1 (by simp)
    have la2 : a2 < σ.length := by rw [len]; exact hl a2 (by simp)
    have la3 : a3 < σ.length := by rw [len]; exact hl a3 (by simp)
    obtain ⟨d12, d13, d23, dj1, dj2, dj3⟩ := hd
    refine ⟨T, [kV (.inr xn), .ref t], rfl, .inl (.inl upd_same), rfl, _, _, rfl, _, _, rfl, ⟨t, [.int top, .int under], rfl, st, rfl, _, _, rfl, _, _, rfl, rfl, rfl, ?_⟩⟩
    refine ⟨List.ext_getElem? fun z => ?_, ?_⟩
    · rw [wipe_get, wipe_get]
      simp only [List.length_set, wl]
      split
      · rfl
      · rename_i hz
        by_cases hv : z ∈ [a1, a2, a3]
        · have : ¬ z < σ.length := fun y => hz ⟨hv, y⟩
          rw [List.getElem?_eq_none (by simp only [List.length_set, wl]; omega), List.getElem?_eq_none (by omega)]
        · simp only [List.mem_cons, List.not_mem_nil, or_false, not_or] at hv
          rw [List.getElem?_set_ne (Ne.symm hv.2.2), List.getElem?_set_ne (Ne.symm hv.2.1), List.getElem?_set_ne (Ne.symm hv.1), wipe_get, if_neg (fun y => by simp at y; omega)]
    unfold tYes
    dsimp only
    rw [if_pos rfl]
    refine ⟨kV (.inr xn), by rw [List.getElem?_set_ne (Ne.symm d13), List.getElem?_set_ne (Ne.symm d12), List.getElem?_set_self (by rw [wl]; exact la1)], ?_⟩
    refine ⟨.int top, by rw [List.getElem?_set_ne (Ne.symm d23), List.getElem?_set_self (by simp only [List.length_set, wl]; exact la2)], ?_⟩
    refine ⟨.int b, by rw [List.getElem?_set_ne (Ne.symm dj3), List.getElem?_set_ne (Ne.symm dj2), List.getElem?_set_ne (Ne.symm dj1), wipe_get, if_neg (fun y => by simp at y; omega)]; exact hj, ?_⟩
    refine ⟨.int under, by rw [List.getElem?_set_self (by simp only [List.length_set, wl]; exact la3)], ?_⟩
    refine ⟨b, under, rfl, rfl, ⟨b1, b2⟩, top, b.fdiv under, rfl, rfl, ?_, ?_⟩
    · rcases b3 with b3 | b3
      · exact .inl (by omega)
      · exact .inr (by omega)
    have ml := mergeK_len (lV.take m) []
    rw [List.length_take, List.length_nil] at ml
    refine ⟨mergeK [] (lV.take m), .inr xn, rfl, by rw [upd_ne (Ne.symm TD)]; exact c2, by omega, by omega, ?_, ?_, fun a o z hz => ?_⟩
    · rw [upd_ne (Ne.symm hDd), upd_ne (Ne.symm Td)]; exact c1
    · rw [upd_same, mergeK_succ (k := .inr xn) (v := .int (top * b.fdiv under))]
      rw [← hlV, List.getElem?_map, g4]; rfl
    · have z2 := c3 a o z hz
      rw [upd_ne (fun y => by subst y; rw [hDH] at z; cases z), upd_ne (fun y => by subst y; rw [hT] at z2; cases z2)]; exact z2
  · have em : m = kvs.length := by omega
    subst em
    refine .inl ⟨⟨c1, Nat.le_refl _⟩, c1, ?_⟩
    have e4 : mergeK [] (lV.take kvs.length) = mergeK [] lV := by rw [List.take_of_length_le (by omega)]
    rw [e4] at c2
    have Hc' : ∀ a o, H a = some o → upd Hc dd (.dK kvs) a = some o := fun a o z => by
      by_cases y : a = dd
      · subst y; rw [upd_same]; rw [hH] at z; exact z
      · rw [upd_ne y]; exact c3 a o z y
    have N1 : New c.toKc G H G (upd Hc dd (.dK kvs)) true (.ref Dn) (.dic (mergeD [] l)) := ⟨Hc', .refl _, fun a o z => Hc' a o (R.ex a o z), fun a z => .inl z, by
      rw [if_pos rfl]
      refine ⟨Dn, rfl, hDH, R.ex.none hDH, mergeK [] lV, by rw [upd_ne hDd]; exact c2, lr.merge .nil⟩⟩
    obtain ⟨R2, ok⟩ := R.new N1
    exact (show ∀ G' H' v, _ from w) G _ _ R2 (R.gr N1) ok
theorem snd_prop (g : Gd π c ξ F n N fl ns X) {i j : Nat} {own : List (Str × Nat)} {ast : Expr} (h : chkPr N ns i j own ast = true) (ht : tests ast = true) : Snd X c ξ F ast (.prop i j own) := by
  obtain ⟨a1, a2, a3, _, h2, h3, h4⟩ := pe_prop g h
  exact Snd.mk1 g ht (PE.imp h4 fun σ H Q w => prop_read h3 h2 w)
end
end Vf
end
section
namespace Vf
open PySem L2
section
variable {π : Pi} {c : Cc} {ξ : XK} {F : Fs} {n : Nat} {N fl : List Str} {ns : Ns} {X : Cx}
variable {a b e : Vf.E} {x y z : Expr} {pos p : Pos} {es : Vf.Es} {xs : List Expr}
/-! ### f-texts -/
def tsF (c : Cc) (ξ : XK) (F : Fs) : List Bool → Vf.Es → List TE
  | true :: fs, .cons e r => tFmt (tv c ξ F e) :: tsF c ξ F fs r
  | false :: fs, .cons e r => tv c ξ F e :: tsF c ξ F fs r
  | _, _ => []
def lenEs : Vf.Es → Nat
  | .nil => 0
  | .cons _ r => lenEs r + 1
def isCS : Vf.E → Bool
  | .con (.str _) => true
  | _ => false
def okF : List Bool → Vf.Es → Bool
  | true :: fs, .cons e r => okF fs r
  | false :: fs, .cons e r => isCS e && okF fs r
  | [], .nil => true
  | _, _ => false
theorem fst_read : ∀ (fs : List Bool) (es : Vf.Es) {acc : Str} {env : Env} {σ : St} {G H : Hp} {Q : Str → Hp → Prop} {P : Str × Env → Prop}, okF fs es = true → Rel c env σ G H → PR c ξ (evalFs F es acc env) P →
    (∀ p G' H', P p → Rel c p.2 σ G' H' → Gr c σ env p.2 G H G' H' → Q p.1 H') → tJs (tsF c ξ F fs es) acc σ H Q
  | [], .nil, acc, env, σ, G, H, Q, P, ok, R, w, k => by
    simp only [evalFs] at w
    exact k _ G H w R (.refl _ _)
  | true :: fs, .cons e r, acc, env, σ, G, H, Q, P, ok, R, w, k => by
    simp only [evalFs, PR.bind] at w
    refine T_sh R (w.mono fun p w G1 H1 v R1 g1 r1 => ?_)
    obtain ⟨x, e1, w⟩ := PR.of w
    obtain ⟨hx, w⟩ := PR.chk w
    have w' : PR c ξ (evalFs F r (acc ++ x) p.2) P := w
    have rest := fst_read fs r (Q := Q) ok R1 w' fun q G2 H2 hq R2 g2 => k q G2 H2 hq R2 (g1.trans g2)
    cases hd : p.1.2 <;> (rw [hd] at e1 r1; simp only [fmtD, reduceCtorEq, Option.some.injEq] at e1)
    · split at e1
      · rename_i hb; cases e1
        exact .inr ⟨_, r1.i_int, hb, _, rfl, hx.1, rest⟩
      · cases e1
    · subst e1
      exact .inl ⟨_, r1.i_str, hx.2, _, rfl, hx.1, rest⟩
  | false :: fs, .cons e r, acc, env, σ, G, H, Q, P, ok, R, w, k => by
    simp only [okF, Bool.and_eq_true] at ok
    obtain ⟨s, rfl⟩ : ∃ s, e = .con (.str s) := by
      cases e <;> first | (cases ok.1; done) | skip
      rename_i k
      cases k <;> first | (cases ok.1; done) | exact ⟨_, rfl⟩
    have w' : PR c ξ (evalE F (.con (.str s)) env >>= fun p => Vf.R.of (fmtD p.1.2) >>= fun x => chk ((acc ++ x).length ≤ sizeLine ∧ x.length ≤ sizeLine) (.ok ()) >>= fun _ => evalFs F r (acc ++ x) p.2) P := by
      simpa only [evalFs] using w
    simp only [evalE, PR.bind] at w'
    have w2 : PR c ξ (chk ((acc ++ s).length ≤ sizeLine ∧ s.length ≤ sizeLine) (Vf.R.ok ())) (fun _ => PR c ξ (evalFs F r (acc ++ s) env) P) := w'
    obtain ⟨hx, w2⟩ := PR.chk w2
    have w3 : PR c ξ (evalFs F r (acc ++ s) env) P := w2
    refine T_sh R ?_
    simp only [evalE]
    intro G1 H1 v R1 g1 r1
    exact ⟨s, Rep.i_str r1, hx.1, fst_read fs r (Q := Q) ok.2 R1 w3 fun q G2 H2 hq R2 g2 => k q G2 H2 hq R2 (g1.trans g2)⟩
theorem snd_fst (g : Gd π c ξ F n N fl ns X) {fs : List Bool} (h1 : okF fs es = true) (h : PE X (.JoinedStr xs pos) (fun σ H Q => tJs (tsF c ξ F fs es) Str.empty σ H fun out H1 => Q (.str out) H1)) : Snd X c ξ F (.JoinedStr xs pos) (.fst es) :=
  Snd.mk1 g rfl (PE.imp h fun σ H Q w => by
    obtain ⟨env, G, R, w⟩ := w
    simp only [evalE, PR.bind] at w
    exact fst_read fs es h1 R w fun p G1 H1 k R1 g1 => k G1 H1 _ R1 g1 (.sh (.str _)))
/-! ### displays of dicts -/
def trsD (c : Cc) (ξ : XK) (F : Fs) : List Str → Vf.Es → List (TE × TE)
  | k :: ks, .cons e r => (tC (.str k), tv c ξ F e) :: trsD c ξ F ks r
  | _, _ => []
theorem pairs_read : ∀ (ks : List Str) (es : Vf.Es) {env : Env} {σ : St} {G H : Hp} {Q : List (V × V) → Hp → Prop} {P : List D × Env → Prop}, ks.length = lenEs es → Rel c env σ G H → PR c ξ (evalEs F es env) P →
    (∀ p G' H' vs, P p → Rel c p.2 σ G' H' → Gr c σ env p.2 G H G' H' → Reps c.toKc G' vs p.1 → vs.length = ks.length → Q ((ks.zip vs).map fun u => (V.str u.1, u.2)) H') → tPairs (trsD c ξ F ks es) σ H Q
  | [], .nil, env, σ, G, H, Q, P, hl, R, w, k => by
    simp only [evalEs] at w
    exact k _ G H [] w R (.refl _ _) .nil rfl
  | [], .cons e r, env, σ, G, H, Q, P, hl, R, w, k => by simp [lenEs] at hl
  | x :: ks, .nil, env, σ, G, H, Q, P, hl, R, w, k => by simp [lenEs] at hl
  | x :: ks, .cons e r, env, σ, G, H, Q, P, hl, R, w, k => by
    simp only [evalEs, PR.bind] at w
    show tC (.str x) σ H fun x0 H1 => tv c ξ F e σ H1 fun y H2 => tPairs (trsD c ξ F ks r) σ H2 fun ps => Q ((x0, y) :: ps)
    show tv c ξ F e σ H fun y H2 => tPairs (trsD c ξ F ks r) σ H2 fun ps => Q ((.str x, y) :: ps)
    refine T_sh R (w.mono fun p w G1 H1 v R1 g1 r1 => ?_)
    refine pairs_read ks r (by simpa [lenEs] using hl) R1 w fun q G2 H2 vs hq R2 g2 r2 hv => ?_
    exact k _ G2 H2 (v :: vs) hq R2 (g1.trans g2) (.cons (r1.mono g2.g) r2) (by rw [List.length_cons, List.length_cons, hv])
theorem zipK_reps {k : Kc} {G : Hp} : ∀ {ks : List Str} {vs : List V} {ds : List D}, Reps k G vs ds → RepK k G ((ks.zip vs).map fun u => (Sum.inr u.1, u.2)) (zipK ks ds)
  | [], _, _, _ => .nil
  | _ :: _, _, _, .nil => .nil
  | x :: ks, _, _, .cons h r => .cons h (zipK_reps r)
theorem snd_dic (g : Gd π c ξ F n N fl ns X) {ks : List Str} {keys : List (Option Expr)} (hl : ks.length = lenEs es) (h15 : ks.length ≤ 15) (h : PE X (.Dict keys xs pos) (tDisp (trsD c ξ F ks es))) : Snd X c ξ F (.Dict keys xs pos) (.dic ks es) :=
  Snd.mk1 g rfl (PE.imp h fun σ H Q w => by
    obtain ⟨env, G, R, w⟩ := w
    simp only [evalE, PR.bind] at w
    intro L hL
    have N0 : New c.toKc G H G (upd H L (.dK [])) true (.ref L) (.dic []) := New.dic R.ex hL .nil
    obtain ⟨R0, ok0⟩ := R.new N0
    have T0 : Tmp c env σ G (upd H L (.dK [])) L := by
      unfold ValOk at ok0
      rw [if_pos rfl] at ok0
      obtain ⟨l, z, z1, z2, z3, z4, z5⟩ := ok0
      cases z
      exact ⟨z2, z3, z5⟩
    refine pairs_read ks es hl R0 w fun p G1 H1 vs k R1 g1 r1 hv => ?_
    have hL1 : H1 L = some (.dK []) := g1.fr L _ upd_same fun i m d e hm => T0.ns i m d e hm
    have T1 := T0.keep g1 (by rw [upd_same]; exact fun z => nomatch z)
    obtain ⟨hk, k⟩ := PR.chk k
    have k' : ∀ G' H' v, Rel c p.2 σ G' H' → Gr c σ env p.2 G H G' H' → ValOk c p.2 σ H G' H' true v (.dic (mergeD [] (zipK ks p.1))) → Q v H' := k
    refine ⟨hL1, (ks.zip vs).map (fun u => (Sum.inr u.1, u.2)), by rw [List.map_map]; rfl, by rw [List.length_map, List.length_zip]; omega, ?_⟩
    have nI : ∀ C dx fs, HO.dK [] ≠ .ins C dx fs := fun _ _ _ z => nomatch z
    refine k' G1 _ _ (R1.tmpO T1 hL1 nI) ?_ ?_
    · have t := (R.gr N0).trans g1
      have hs : ∀ x, c.self = some x → x ≠ L := fun x q z => by
        obtain ⟨_, _, fs, w⟩ := R1.sf x q
        subst z; rw [hL1] at w; cases w
      refine ⟨t.g, fun x e => by rw [upd_ne (hs x e)]; exact t.s x e, fun x u q k => ?_, t.ow, t.gf, fun x q => ?_⟩
      · rw [upd_ne (fun z => by subst z; rw [hL] at q; cases q)]; exact t.fr x u q k
      · by_cases z : x = L
        · subst z; rw [upd_same] at q; cases q
        · rw [upd_ne z] at q; exact t.al x q
    · have T2 := T1.wrO (o := .dK (mergeK [] ((ks.zip vs).map fun u => (Sum.inr u.1, u.2)))) R1 hL1 nI
      unfold ValOk
      rw [if_pos rfl]
      exact ⟨L, rfl, hL, T2.g, T2.h0, ⟨_, upd_same, (zipK_reps r1).merge .nil⟩, T2.ns⟩)
end
end Vf
end
section
namespace Vf
open PySem L2
theorem reps_perm {k : Kc} {G : Hp} {vs : List V} {ds : List D} (r : Reps k G vs ds) : ∀ pm : List Nat, Reps k G (permL pm vs) (permL pm ds)
  | [] => .nil
  | i :: pm => by
    have ih := reps_perm r pm
    unfold permL at ih ⊢
    rw [List.filterMap_cons, List.filterMap_cons]
    cases e : ds[i]? with
    | none => rw [r.none e]; exact ih
    | some d =>
      obtain ⟨v, h1, h2⟩ := r.get e
      rw [h1]
      exact .cons h2 ih
theorem reps_args {k : Kc} {G H : Hp} : ∀ {fl : List Bool} {vs : List V} {ds : List D}, Reps k G vs ds → vs.length = fl.length → (fl.all fun b => !b) = true → ArgsOk k G H fl vs ds ∧ inAd fl vs = []
  | [], vs, ds, r, h, _ => by
    cases r with
    | nil => exact ⟨trivial, rfl⟩
    | cons _ _ => cases h
  | true :: fl, vs, ds, r, h, ha => by simp at ha
  | false :: fl, vs, ds, r, h, ha => by
    cases r with
    | nil => cases h
    | cons a b =>
      obtain ⟨h1, h2⟩ := reps_args (k := k) (G := G) (H := H) b (by simpa using h) (by simpa using ha)
      exact ⟨⟨a, h1⟩, h2⟩
theorem outs_none {k : Kc} {G H : Hp} : ∀ {fl : List Bool} {vs : List V} {os : List D}, (fl.all fun b => !b) = true → OutsOk k G H fl vs os → os = []
  | [], [], [], _, _ => rfl
  | false :: fl, v :: vs, os, h, o => outs_none (fl := fl) (vs := vs) (by simpa using h) o
  | true :: fl, _, _, h, _ => by simp at h
section
variable {X : Cx} {CX : CXT} {k n : Nat} {f : Addr} {fd : FuncData} {ps ks : List Str} {sp : Sp} {E : XK} {x : Str} {p pos : Pos} {kws : List Keyword} {tk : TA} {g : List Value → List Value → List Value} {gV : List V → List V → List V}
theorem pe_callN0 (F : FnOk X.prog X.w X.K X.mg X.base CX k f fd ps sp) (hr : Room k X.A) (hg : Gl X x) (hm : X.mg x = some (.ref f)) (hk : PySem.W.keepIn X.K (.ref f) = true) (hb : KBn X.K fd ps 0 ks g gV) (hx : Passes CX X E) (hkw : PK X kws tk)
    (hall : (backToKw pos (keywordEach kws X.env)).all (·.1.isSome) = true := by rfl) (hks : (backToKw pos (keywordEach kws X.env)).filterMap (·.1) = ks := by rfl) (hdb : (x == ("__debug__" : Str)) = false := by decide)
    (hpl : ((backTo pos (starEach [] X.env)).any (·.1) || (backToKw pos (keywordEach kws X.env)).any (·.1.isNone)) = false := by rfl) :
    PE X (.Call (.Name x p) [] kws pos) (tCallN 0 ks.length sp gV E tNil tk) := by
  refine ⟨fun pins s σ H Q I h => ?_⟩
  refine wpAny_Call_Name_kw (ld_glob I hg hm ?_ hdb)
  refine PySem.W.callWith_KW0 (h₀ := X.base) I.ok.mod.kin hk hall ?_ hpl
  refine thn (hkw.run pos pins s σ H _ I h) fun ws s2 ⟨zs, H2, I2, rz, l1, l2, q2⟩ => ⟨I2.kIn, ?_⟩
  rw [hks]
  exact run_fnN F hr hb hx I2 .nil rz l1 l2 q2
end
/-- the keywords of a call: their names, their values -/
def kwS : List Keyword → Option (List Str × List Expr)
  | [] => some ([], [])
  | ⟨some x, e, _⟩ :: r => (kwS r).map fun p => (x :: p.1, e :: p.2)
  | ⟨none, _, _⟩ :: _ => none
theorem kwS_facts (env : PySem.Env) (pos : Pos) : ∀ {kws : List Keyword} {ks : List Str} {es : List Expr}, kwS kws = some (ks, es) →
    (backToKw pos (keywordEach kws env)).all (·.1.isSome) = true ∧ (backToKw pos (keywordEach kws env)).filterMap (·.1) = ks ∧ (backToKw pos (keywordEach kws env)).any (·.1.isNone) = false
  | [], ks, es, h => by cases h; exact ⟨rfl, rfl, rfl⟩
  | ⟨some x, e, q⟩ :: r, ks, es, h => by
    simp only [kwS, Option.map_eq_some_iff] at h
    obtain ⟨⟨a, b⟩, h1, h2⟩ := h
    cases h2
    obtain ⟨q1, q2, q3⟩ := kwS_facts env pos h1
    refine ⟨?_, ?_, ?_⟩
    · show (true && _) = true
      rw [Bool.true_and]; exact q1
    · show x :: _ = x :: a
      exact congrArg _ q2
    · show (false || _) = false
      rw [Bool.false_or]; exact q3
  | ⟨none, _, _⟩ :: _, _, _, h => by cases h
section
variable {π : Pi} {c : Cc} {ξ : XK} {F : Fs} {n : Nat} {N fl : List Str} {ns : Ns} {X : Cx}
variable {a b e : Vf.E} {x y z : Expr} {pos p : Pos} {es es2 : Vf.Es} {xs : List Expr} {kws : List Keyword}
theorem spk_nil : PK X [] (ta1 c ξ F .nil) := ⟨fun pos pins s σ H Q I w => pk_nil.run pos pins s σ H Q I (by
  obtain ⟨env, G, R, w⟩ := w
  simp only [evalEs] at w
  exact w G H [] R (.refl _ _) .nil)⟩
theorem spk_cons {nm : Option Str} {kp : Pos} (h : PE X x (tv c ξ F a)) (hr : PK X kws (ta1 c ξ F es)) : PK X (⟨nm, x, kp⟩ :: kws) (ta1 c ξ F (.cons a es)) := ⟨fun pos pins s σ H Q I w => (pk_cons h hr).run pos pins s σ H Q I (by
  obtain ⟨env, G, R, w⟩ := w
  simp only [evalEs, PR.bind] at w
  refine T_sh R (w.mono fun p k G1 H1 v R1 g1 r1 => ⟨p.2, G1, R1, k.mono fun q k G2 H2 vs R2 g2 r2 => ?_⟩)
  exact k G2 H2 (v :: vs) R2 (g1.trans g2) (.cons (r1.mono g2.g) r2))⟩
theorem callK_read {f : Nat} {ks : List Str} {pm : List Nat} {σ : St} {H : Hp} {Q : VK} (w : tv c ξ F (.callK f es es2 ks pm) σ H Q) :
    tCallN (pm.length - ks.length) ks.length (spF c.toKc F f) (fun vs zs => permL pm (vs ++ zs)) ξ (ta1 c ξ F es) (ta1 c ξ F es2) σ H Q := by
  obtain ⟨env, G, R, w⟩ := w
  simp only [evalE, PR.bind] at w
  refine ⟨env, G, R, w.mono fun p k G1 H1 vs R1 g1 r1 => ⟨p.2, G1, R1, k.mono fun q k G2 H2 zs R2 g2 r2 => ?_⟩⟩
  obtain ⟨⟨h1, h2, h3, h4⟩, k⟩ := PR.chk k
  have r12 := (r1.mono g2.g).append r2
  have rp := reps_perm r12 pm
  obtain ⟨a1, a2⟩ := reps_args (H := H2) rp (by rw [rp.length]; exact h3) h4
  refine ⟨by rw [r1.length]; omega, by rw [r2.length]; exact h2, G2, permL pm (p.1 ++ q.1), R2.ex, a1, by rw [a2]; exact List.nodup_nil, ?_⟩
  have k2 : PR c ξ (F.run f (permL pm (p.1 ++ q.1))) _ := k
  cases hr : F.run f (permL pm (p.1 ++ q.1)) with
  | stk => rw [hr] at k2; exact k2.elim
  | exc j x =>
    rw [hr] at k2
    intro G' H' v dx y1 y2 y3 y4 y5 y6 y7
    rw [a2] at y7
    refine k2 G' H' v dx y1 (R2.g0.trans y2) y3 (fun a ha => ?_) y5 (R2.h0 y6) fun a o q hs => y7 a o (R2.fr a o q hs) List.not_mem_nil
    rcases y4 a ha with z | z
    · exact R2.gfr a z
    · exact .inr (R2.h0 z)
  | ok r =>
    rw [hr] at k2
    intro G' H' v y1 y2 y3 y4 y5 y6
    rw [a2] at y4
    have N : New c.toKc G2 H2 G' H' r.1.1 v r.1.2 := ⟨fun a o q => y4 a o q List.not_mem_nil, y1, y2, y3, y6⟩
    obtain ⟨R3, ok⟩ := R2.new N
    exact (show ∀ G' H' v, _ from k2) G' H' v R3 ((g1.trans g2).trans (R2.gr N)) (ok.back (g1.trans g2).al)
theorem snd_callK (g : Gd π c ξ F n N fl ns X) {f : Nat} {nm : Str} {ks : List Str} {vs : List Expr} {pm : List Nat} (hf : π.fns[f]? = some nm) (hk : (f, ks, pm) ∈ π.kws) (hg : glbB ns nm = true) (hm : nmB nm = true) (hkw : kwS kws = some (ks, vs)) (hes : xs = [] → es = .nil) (hl : xs.length = pm.length - ks.length) (hp : ∀ x ∈ xs, plain x = true) (ha : PA X xs (ta1 c ξ F es)) (hb : PK X kws (ta1 c ξ F es2)) :
    Snd X c ξ F (.Call (.Name nm p) xs kws pos) (.callK f es es2 ks pm) ∧ True := by
  obtain ⟨ad, fd, ps, h1, h2, h3, h4⟩ := g.kcalls f ks pm hk nm hf
  obtain ⟨q1, q2, q3⟩ := kwS_facts X.env pos hkw
  refine ⟨?_, trivial⟩
  cases xs with
  | nil =>
    have hz : pm.length - ks.length = 0 := hl.symm
    have h4' := h4
    rw [hz] at h4'
    refine Snd.mk1 g rfl (PE.imp (pe_callN0 h3 g.room (g.gl hg) h1 h2 h4' g.pass hb q1 q2 (nmB_ok hm).1 (by rw [q3]; rfl)) fun σ H Q w => ?_)
    have := callK_read w
    rw [hz, hes rfl] at this
    obtain ⟨env, G, R, w⟩ := this
    simp only [evalEs] at w
    exact w G H [] R (.refl _ _) .nil
  | cons x r =>
    have hpr : ∀ (l : List Expr), (∀ x ∈ l, plain x = true) → ((backTo pos (starEach l X.env)).any (·.1)) = false := fun l => by
      induction l with
      | nil => intro _; rfl
      | cons y t ih =>
        intro h
        rw [star_plain (h y List.mem_cons_self)]
        show (false || _) = false
        rw [Bool.false_or]
        exact ih fun z hz => h z (List.mem_cons_of_mem _ hz)
    exact Snd.mk1 g rfl (PE.imp (pe_callN h3 g.room (g.gl hg) h1 h2 h4 g.pass ha hb q1 q2 (nmB_ok hm).1 (star_plain (hp x List.mem_cons_self) _ _) (by rw [hpr _ hp, q3]; rfl)) fun σ H Q w => callK_read w)
end
end Vf
end
section
namespace Vf
open PySem L2
section
variable {π : Pi} {c : Cc} {ξ : XK} {F : Fs} {n : Nat} {N fl : List Str} {ns : Ns} {X : Cx}
variable {a b e : Vf.E} {x y z : Expr} {pos p : Pos} {es es2 : Vf.Es} {xs : List Expr} {kws : List Keyword}
theorem pe_false {ast : Expr} {t : TE} (h : ∀ σ H Q, t σ H Q → False) : PE X ast t := ⟨fun _ _ σ H Q _ w => (h σ H Q w).elim⟩
/-- an object is made -/
theorem make_read {k : Nat} {C : Addr} (hC : C = c.cl k) {p : List D × Env} {σ : St} {G H : Hp} {env : Env} {Q : VK} {G1 H1 : Hp} {vs : List V} (R1 : Rel c p.2 σ G1 H1) (g1 : Gr c σ env p.2 G H G1 H1) (r1 : Reps c.toKc G1 vs p.1)
    (w : PR c ξ (F.make k p.1) fun d => ∀ G' H' v, Rel c p.2 σ G' H' → Gr c σ env p.2 G H G' H' → ValOk c p.2 σ H G' H' false v d → Q v H') :
    ∀ x dx, H1 x = none → H1 dx = none → dx ≠ x → spI c.toKc F k (.ref x :: vs) (upd (upd H1 dx (.own x)) x (.ins C dx [])) (fun v H2 => v = .non ∧ Q (.ref x) H2) ξ := by
  subst hC
  intro x dx hx hdx hne
  have gx : G1 x = none := R1.ex.none hx
  have gd : G1 dx = none := R1.ex.none hdx
  have up : ∀ a o, H1 a = some o → (upd (upd H1 dx (.own x)) x (.ins (c.cl k) dx [])) a = some o := fun a o q => by
    rw [upd_ne (fun z => by subst z; rw [hx] at q; cases q), upd_ne (fun z => by subst z; rw [hdx] at q; cases q)]; exact q
  have dn : ∀ a, (upd (upd H1 dx (.own x)) x (.ins (c.cl k) dx [])) a = none → H1 a = none := fun a q => by
    cases z : H1 a with
    | none => rfl
    | some o => rw [up a o z] at q; cases q
  refine ⟨G1, x, dx, vs, p.1, rfl, fun a o q => up a o (R1.ex a o q), gx, upd_same, r1, ?_⟩
  cases hm : F.make k p.1 with
  | stk => rw [hm] at w; exact w.elim
  | exc j d =>
    rw [hm] at w
    intro G' H' v dx' y1 y2 y3 y4 y5 y6 y7
    refine w G' H' v dx' y1 (R1.g0.trans y2) y3 (fun a ha => ?_) y5 (R1.h0 (dn _ y6)) fun a o q hs => y7 a o (up a o (R1.fr a o q hs)) (fun z => by subst z; rw [R1.fr a o q hs] at hx; cases hx)
    rcases y4 a ha with z | z
    · exact R1.gfr a z
    · exact .inr (R1.h0 (dn _ z))
  | ok d =>
    rw [hm] at w
    intro G' H' y2 y3 y4 y5 y6 y7
    have N1 : New c.toKc G1 H1 G' H' false (.ref x) d := ⟨fun a o q => y5 a o (up a o q) (fun z => by subst z; rw [hx] at q; cases q), y2, y3, fun a ha => by
      rcases y4 a ha with z | z | z
      · exact .inl z
      · exact .inr (dn _ z)
      · subst z; exact .inr hx, by rw [if_neg Bool.false_ne_true]; exact y7⟩
    obtain ⟨R2, ok⟩ := R1.new N1
    exact ⟨rfl, (show ∀ G' H' v, _ from w) G' H' _ R2 (g1.trans (R1.gr N1)) (ok.back g1.al)⟩
theorem on_false (g : Gd π c ξ F 0 N fl ns X) {α β : Type} {r : Unit → Vf.R β} {P : β → Prop} (w : PR c ξ (chk (F.on = true) (Vf.R.ok ()) >>= r) P) : False := by
  rw [g.ob.on rfl] at w
  exact w
theorem snd_mk (g : Gd π c ξ F n N fl ns X) {k : Nat} {nm : Str} {kw : List Str} (hf : π.cls[k]? = some nm) (hg : glbB ns nm = true) (hm : nmB nm = true) (hp : plain x = true) (hq : ((backTo pos (starEach xs X.env)).any (·.1)) = false) (ha : PA X (x :: xs) (ta1 c ξ F es)) :
    Snd X c ξ F (.Call (.Name nm p) (x :: xs) [] pos) (.mk k es kw) := by
  refine Snd.mk1 g rfl ?_
  cases n with
  | zero =>
    refine pe_false fun σ H Q w => ?_
    obtain ⟨env, G, R, w⟩ := w
    simp only [evalE] at w
    exact on_false (α := Unit) g w
  | succ m =>
    obtain ⟨f, fd, ps, h1, h2, h3, h4, _⟩ := g.ob.mks k nm hf m rfl
    rw [← g.K] at h2 h4
    have h3' := h3
    rw [show c.toKc.K = X.K from g.K.symm] at h3'
    refine PE.imp (pe_make h2 h3' g.room (g.gl hg) h1 h4 .nil g.pass ha (nmB_ok hm).1 (star_plain hp _ _) hq) fun σ H Q w => ?_
    obtain ⟨env, G, R, w⟩ := w
    simp only [evalE, PR.bind] at w
    obtain ⟨_, w⟩ := PR.chk w
    have w' : PR c ξ (evalEs F es env) _ := w
    refine ⟨env, G, R, w'.mono fun q w G1 H1 vs R1 g1 r1 => ?_⟩
    obtain ⟨_, w⟩ := PR.chk w
    intro x dx hx hdx hne
    rw [List.append_nil]
    exact make_read rfl R1 g1 r1 w x dx hx hdx hne
theorem snd_mkK (g : Gd π c ξ F n N fl ns X) {k : Nat} {nm : Str} {kw : List Str} {vs : List Expr} (hf : π.cls[k]? = some nm) (hk : (k, kw) ∈ π.mkws) (hk0 : kw.length ≠ 0) (hg : glbB ns nm = true) (hm : nmB nm = true) (hkw : kwS kws = some (kw, vs)) (hb : PK X kws (ta1 c ξ F es)) :
    Snd X c ξ F (.Call (.Name nm p) [] kws pos) (.mk k es kw) := by
  refine Snd.mk1 g rfl ?_
  cases n with
  | zero =>
    refine pe_false fun σ H Q w => ?_
    obtain ⟨env, G, R, w⟩ := w
    simp only [evalE] at w
    exact on_false (α := Unit) g w
  | succ m =>
    obtain ⟨f, fd, ps, h1, h2, h3, _, h5⟩ := g.ob.mks k nm hf m rfl
    have h4 := h5 kw hk
    obtain ⟨q1, q2, q3⟩ := kwS_facts X.env pos hkw
    rw [← g.K] at h2 h4
    have h3' := h3
    rw [show c.toKc.K = X.K from g.K.symm] at h3'
    refine PE.imp (pe_makeK0 h2 h3' g.room (g.gl hg) h1 h4 g.pass hb q1 q2 (nmB_ok hm).1 (by rw [q3]; rfl)) fun σ H Q w => ?_
    obtain ⟨env, G, R, w⟩ := w
    simp only [evalE, PR.bind] at w
    obtain ⟨_, w⟩ := PR.chk w
    have w' : PR c ξ (evalEs F es env) _ := w
    refine ⟨env, G, R, w'.mono fun q w G1 H1 vs R1 g1 r1 => ?_⟩
    obtain ⟨hl, w⟩ := PR.chk w
    exact ⟨rfl, by rw [r1.length]; exact hl.resolve_left hk0, fun x dx hx hdx hne => make_read rfl R1 g1 r1 w x dx hx hdx hne⟩
/-! ### comparisons by an own == -/
theorem ino_args {fl : List Bool} {vs : List V} {ds : List D} {G H : Hp} (h : Reps c.toKc G vs ds) (he : fl = vs.map fun _ => false) : ArgsOk c.toKc G H fl vs ds ∧ inAd fl vs = [] := by
  subst he
  exact reps_args h (by simp) (by simp)
theorem low_read {f : Nat} {fl : List Bool} {p : Env} {σ : St} {G H : Hp} {env : Env} {Q : VK} {G1 H1 : Hp} {vs : List V} {ds : List D} (hi : F.ino f = fl) (hfl : fl = vs.map fun _ => false) (R1 : Rel c p σ G1 H1) (g1 : Gr c σ env p G H G1 H1) (r1 : Reps c.toKc G1 vs ds) {P : W × List D → Prop}
    (w : PR c ξ (F.run1 f ds) P) (k : ∀ r, P r → ∀ G' H' v, Rel c p σ G' H' → Gr c σ env p G H G' H' → ValOk c p σ H G' H' r.1.1 v r.1.2 → Q v H') : spF c.toKc { F with run := F.run1 } f vs H1 Q ξ := by
  obtain ⟨a1, a2⟩ := ino_args (H := H1) r1 hfl
  refine ⟨G1, ds, R1.ex, by show ArgsOk _ _ _ (F.ino f) _ _; rw [hi]; exact a1, by show (inAd (F.ino f) vs).Nodup; rw [hi, a2]; exact List.nodup_nil, ?_⟩
  show spR c.toKc (F.ino f) vs G1 H1 Q ξ (F.run1 f ds)
  rw [hi]
  cases hm : F.run1 f ds with
  | stk => rw [hm] at w; exact w.elim
  | exc j d =>
    rw [hm] at w
    intro G' H' v dx y1 y2 y3 y4 y5 y6 y7
    rw [a2] at y7
    refine w G' H' v dx y1 (R1.g0.trans y2) y3 (fun a ha => ?_) y5 (R1.h0 y6) fun a o q hs => y7 a o (R1.fr a o q hs) List.not_mem_nil
    rcases y4 a ha with z | z
    · exact R1.gfr a z
    · exact .inr (R1.h0 z)
  | ok r =>
    rw [hm] at w
    intro G' H' v y1 y2 y3 y4 y5 y6
    rw [a2] at y4
    have N : New c.toKc G1 H1 G' H' r.1.1 v r.1.2 := ⟨fun a o q => y4 a o q List.not_mem_nil, y1, y2, y3, y6⟩
    obtain ⟨R3, ok⟩ := R1.new N
    exact k r w G' H' v R3 (g1.trans (R1.gr N)) (ok.back g1.al)
theorem blOf_some {d : D} {b : Bool} (h : blOf d = some b) : d = .bl b := by
  cases d <;> simp [blOf] at h
  rw [h]
theorem val_bl {p : Env} {σ : St} {H G' H' : Hp} {m : Bool} {v : V} {b : Bool} (ok : ValOk c p σ H G' H' m v (.bl b)) : v = .bl b := by
  unfold ValOk at ok
  split at ok
  · obtain ⟨l, _, _, _, _, o, _⟩ := ok; exact o.elim
  · exact ok.i_bl
theorem val_int {p : Env} {σ : St} {H G' H' : Hp} {m : Bool} {v : V} {b : Int} (ok : ValOk c p σ H G' H' m v (.int b)) : v = .int b := by
  unfold ValOk at ok
  split at ok
  · obtain ⟨l, _, _, _, _, o, _⟩ := ok; exact o.elim
  · exact ok.i_int
theorem cmo_read (g : Gd π c ξ F (n + 1) N fl ns X) {ne : Bool} {k : Nat} (hk : k < π.cls.length) {σ : St} {H : Hp} {Q : VK} (w : tv c ξ F (.cmo ne k π.cls.length a b) σ H Q) {f0 : Nat} (hf : F.eqf k = some f0) :
    tOp (rOwnX c.K (c.cl k) ne (spF c.toKc { F with run := F.run1 } f0) ξ) (tv c ξ F a) (tv c ξ F b) σ H Q := by
  obtain ⟨env, G, R, w⟩ := w
  simp only [evalE, PR.bind] at w
  obtain ⟨_, w⟩ := PR.chk w
  have w' : PR c ξ (evalE F a env) _ := w
  refine T_sh R (w'.mono fun p w G1 H1 u R1 g1 r1 => ?_)
  refine T_sh R1 (w.mono fun q w G2 H2 v R2 g2 r2 => ?_)
  obtain ⟨⟨ho, hy⟩, w1⟩ := PR.chk w
  obtain ⟨f, e1, w2⟩ := PR.of w1
  rw [hf] at e1; cases e1
  obtain ⟨hi, w3⟩ := PR.chk w2
  clear w w1 w2 w'
  have r1' := r1.mono g2.g
  have rs : Reps c.toKc G2 [u, v] [p.1.2, q.1.2] := .cons r1' (.cons r2 .nil)
  obtain ⟨fs, hj⟩ : ∃ fs, p.1.2 = .obj k fs := by
    cases hd : p.1.2 <;> rw [hd] at ho <;> first | (simp only [isObj, decide_eq_true_eq] at ho; subst ho; exact ⟨_, rfl⟩) | cases ho
  obtain ⟨ad, dx, fs1, fs2, rfl, hins, _⟩ := Rep1.obj R2.ex (.of (by rw [hj] at r1'; exact r1'))
  have cx := g.ob.clx k hk
  refine ⟨ad, dx, fs1, tyW c.cl q.1.2, rfl, hins, tyx_all g.ob.clx R2.ex (.of r2) hy, ?_, ?_⟩
  · rcases tyW_cases c.cl q.1.2 hy with ⟨t, h1, h2⟩ | ⟨i, h1, h2⟩
    · rw [h2]; exact cx.nf t h1
    · rw [h2]; exact cx.nfc i h1
  · refine low_read hi rfl R2 (g1.trans g2) rs w3 fun r z G' H' v' R3 g3 ok => ?_
    obtain ⟨t, e2, z⟩ := PR.of z
    have e3 : r.1.2 = .bl t := blOf_some e2
    rw [e3] at ok
    exact ⟨t, val_bl ok, (show ∀ G' H' v, _ from z) G' H' _ R3 g3 (.sh (.bl _))⟩
theorem cmo_bl {ne : Bool} {k m : Nat} : ∀ env p, evalE F (.cmo ne k m a b) env = .ok p → ∃ t, p.1 = (false, .bl t) := by
  intro env p h'
  simp only [evalE] at h'
  revert h'
  generalize (chk (F.on = true) (Vf.R.ok ()) : Vf.R Unit) = r0
  intro h'
  cases r0 <;> try (cases h'; done)
  rw [R.bind_ok] at h'
  cases z1 : evalE F a env <;> rw [z1] at h' <;> try (cases h'; done)
  rename_i u
  rw [R.bind_ok] at h'
  cases z2 : evalE F b u.2 <;> rw [z2] at h' <;> try (cases h'; done)
  rename_i v
  rw [R.bind_ok] at h'
  revert h'
  generalize (chk (isObj k u.1.2 = true ∧ okY m v.1.2 = true) (Vf.R.of (F.eqf k)) : Vf.R Nat) = r1
  intro h'
  cases r1 <;> try (cases h'; done)
  rename_i f
  rw [R.bind_ok] at h'
  revert h'
  generalize (chk (F.ino f = [false, false]) (F.run1 f [u.1.2, v.1.2]) : Vf.R (W × List D)) = r2
  intro h'
  cases r2 <;> try (cases h'; done)
  rename_i r
  rw [R.bind_ok] at h'
  cases z3 : blOf r.1.2 <;> rw [z3] at h'
  · cases h'
  · cases h'; exact ⟨_, rfl⟩
theorem snd_cmo (g : Gd π c ξ F n N fl ns X) {ne : Bool} {k : Nat} (hk : k < π.cls.length) (hp : plain y = true) (ha : PE X x (tv c ξ F a)) (hb : PE X y (tv c ξ F b)) (he : ∃ f0, F.eqf k = some f0) :
    Snd X c ξ F (.Compare x [if ne = true then .NotEq else .Eq] [y] pos) (.cmo ne k π.cls.length a b) := by
  obtain ⟨f0, he⟩ := he
  cases n with
  | zero =>
    have ff : ∀ {σ H} {Q : VK}, tv c ξ F (.cmo ne k π.cls.length a b) σ H Q → False := fun {σ H Q} w => by
      obtain ⟨env, G, R, w⟩ := w
      simp only [evalE] at w
      exact on_false (α := Unit) g w
    exact ⟨pe_false fun σ H Q w => ff w, ⟨fun _ _ σ H Q _ w => by
      obtain ⟨env, G, R, w⟩ := w
      simp only [evalE] at w
      exact (on_false (α := Unit) g w).elim⟩⟩
  | succ m =>
    obtain ⟨ad, fd, ps, h1, h2, h3⟩ := g.ob.eqs k f0 he m rfl
    have cx := g.ob.clx k hk
    have hK : c.toKc.K = X.K := g.K.symm
    have h1' := h1
    have h2' := h2
    have h3' := h3
    rw [hK] at h1' h3'
    rw [hK] at h2'
    have op : OpR X (compareOp (if ne = true then .NotEq else .Eq)) (rOwnX c.K (c.cl k) ne (spF c.toKc { F with run := F.run1 } f0) ξ) := by
      rw [← g.K]
      cases ne with
      | false => exact op_eqX h1' h2' h3' (g.room.mono (Nat.le_succ m)) g.pass
      | true => exact op_neX h1' (by rw [← hK]; exact cx.ne) (by rw [← hK]; exact cx.cs) h2' h3' g.room g.pass
    exact ⟨PE.imp (pe_cmpR op ha hb (behind_plain hp _)) fun σ H Q w => cmo_read g hk w he, PT.imp (pt_cmpR op ha hb (behind_plain hp _)) fun σ H Q w => cmo_read g hk (Tb_bl cmo_bl w) he⟩
theorem lenOf_some {d : D} {i : Int} (h : lenOf d = some i) : d = .int i ∧ 0 ≤ i ∧ i < 2 ^ 62 := by
  cases d <;> simp only [lenOf, reduceCtorEq] at h
  split at h
  · cases h; exact ⟨rfl, by assumption⟩
  · cases h
end
end Vf
end
section
namespace Vf
open PySem L2
def tyN : Ty → Option String
  | .int => some "int"
  | .str => some "str"
  | .bool => some "bool"
  | .tuple => some "tuple"
  | .list => some "list"
  | .dict => some "dict"
  | .cls _ _ => none
def tyD : D → Option String
  | .non => some "NoneType"
  | .bl _ => some "bool"
  | .int _ => some "int"
  | .str _ => some "str"
  | .tup _ => some "tuple"
  | .lst _ => some "list"
  | .dic _ => some "dict"
  | .obj _ _ => none
theorem kit_all {t : Ty} {d : D} {b : Bool} {tn dn : String} (h : isT t d = some b) (h1 : tyN t = some tn) (h2 : tyD d = some dn) : kitB dn tn = some b := by
  cases t <;> (try (simp [tyN] at h1; done)) <;> simp only [tyN, Option.some.injEq] at h1 <;> subst h1 <;> cases d <;> (try (simp [tyD] at h2; done)) <;> simp only [tyD, Option.some.injEq] at h2 <;> subst h2 <;> simp only [isT, Option.some.injEq] at h <;> subst h <;> decide +kernel
theorem tyx {k : Kc} {G H : Hp} {v : V} {d : D} {dn : String} (ex : Ex G H) (r : Rep1 k G H v d) (h : tyD d = some dn) : TyX k.K H v (.type dn) := by
  cases d <;> simp only [tyD, Option.some.injEq, reduceCtorEq] at h <;> subst h
  · rw [r.non]; exact .base .non
  · rw [r.bl]; exact .base (.bl _)
  · rw [r.int]; exact .base (.int _)
  · rw [r.str]; exact .base (.str _)
  · obtain ⟨a, vs, rfl, h, _⟩ := r.tup ex
    rcases h with (h | ⟨o, h⟩) | ⟨o, its, n, h1, h2, _⟩
    · exact .base (.tup h)
    · exact .fTuple h
    · exact .kTuple h1 h2
  · obtain ⟨a, vs, rfl, h, _⟩ := r.lst ex
    rcases h with (h | ⟨o, h⟩) | ⟨o, its, n, h1, h2, _⟩
    · exact .base (.lst h)
    · exact .base (.frz h)
    · exact .kList h1 h2
  · obtain ⟨a, vs, rfl, h, _⟩ := r.dic ex
    exact .base (.dK h)
section
variable {π : Pi} {c : Cc} {ξ : XK} {F : Fs} {n : Nat} {N fl : List Str} {ns : Ns} {X : Cx}
variable {a b e : Vf.E} {x y z tg : Expr} {pos p p2 : Pos}
def inF (π : Pi) (ns : Ns) (x : Str) : Bool := glbB ns x && nmB x && decide (x ∈ π.free)
theorem inF_ok {x : Str} (h : inF π ns x = true) : glbB ns x = true ∧ nmB x = true ∧ x ∈ π.free := by
  unfold inF at h
  simp only [Bool.and_eq_true, decide_eq_true_eq] at h
  exact ⟨h.1.1, h.1.2, h.2⟩
theorem snd_ist (g : Gd π c ξ F n N fl ns X) {t : Ty} {tn : String} (ht : tyN t = some tn) (hv : bootBuiltins (Str.ofString tn) = some (.type tn)) (h1 : inF π ns "isinstance" = true) (h2 : inF π ns (Str.ofString tn) = true) (hp : plain x = true) (ha : PE X x (to1 c ξ F a)) :
    Snd X c ξ F (.Call (.Name "isinstance" p) [x, .Name (Str.ofString tn) p2] [] pos) (.ist a t) := by
  obtain ⟨g1, m1, f1⟩ := inF_ok h1
  obtain ⟨g2, m2, f2⟩ := inF_ok h2
  have hc : CallR X (.builtin "isinstance") _ := call_isi
  rw [g.K] at hc
  refine Snd.mk1 g rfl (PE.imp (pe_callB hc (g.gl g1) (g.free _ f1) PyProof.Rows.boot_isinstance (pa_cons ha (pa_cons (pe_bltn (v := .ty tn) (g.gl g2) (g.free _ f2) hv rfl (nmB_ok m2).2.2 (nmB_ok m2).1) pa_nil) (star_plain hp _ _)) (nmB_ok m1).2.2 (nmB_ok m1).1 (star_plain hp _ _) rfl) fun σ H Q w => ?_)
  obtain ⟨env, G, R, w⟩ := w
  simp only [evalE, PR.bind] at w
  refine ⟨env, G, R, w.mono fun u k G1 H1 v R1 g1 o1 => ?_⟩
  obtain ⟨d, e1, k⟩ := PR.of k
  obtain ⟨b, e2, k⟩ := PR.of k
  have r1 := o1.rep1 R1 e1
  obtain ⟨dn, hd⟩ : ∃ dn, tyD d = some dn := by
    cases d <;> first | exact ⟨_, rfl⟩ | (cases t <;> first | (cases ht; done) | (simp [isT] at e2; done))
  exact ⟨v, .ty tn, .type dn, .type tn, b, rfl, .ty tn, tyx R1.ex r1 hd, kit_ty (kit_all e2 ht hd), k G1 H1 _ R1 g1 (.sh (.bl b))⟩
theorem snd_gcd (g : Gd π c ξ F n N fl ns X) {f : Str} (hg : glbB ns f = true) (hm : nmB f = true) (hf : (f, "math.gcd") ∈ π.gbl) (hp : plain x = true) (hp2 : plain y = true) (ha : PE X x (to1 c ξ F a)) (hb : PE X y (to1 c ξ F b)) :
    Snd X c ξ F (.Call (.Name f p) [x, y] [] pos) (.bi .gcd a b) :=
  Snd.mk1 g rfl (PE.imp (pe_callMB cr_gcd (g.gl hg) (g.gbl _ _ hf) (pa_cons ha (pa_cons hb pa_nil (star_plain hp2 _ _)) (star_plain hp _ _)) (nmB_ok hm).1 (star_plain hp _ _) (by rw [star_plain hp2]; rfl)) fun _ _ _ w => bi_imp (r := fun x y H Q => rGcd [x, y] H Q) b_gcd w)
theorem snd_lcm (g : Gd π c ξ F n N fl ns X) {f : Str} (hg : glbB ns f = true) (hm : nmB f = true) (hf : (f, "math.lcm") ∈ π.gbl) (hp : plain x = true) (hp2 : plain y = true) (ha : PE X x (to1 c ξ F a)) (hb : PE X y (to1 c ξ F b)) :
    Snd X c ξ F (.Call (.Name f p) [x, y] [] pos) (.bi .lcm a b) :=
  Snd.mk1 g rfl (PE.imp (pe_callMB cr_lcm (g.gl hg) (g.gbl _ _ hf) (pa_cons ha (pa_cons hb pa_nil (star_plain hp2 _ _)) (star_plain hp _ _)) (nmB_ok hm).1 (star_plain hp _ _) (by rw [star_plain hp2]; rfl)) fun _ _ _ w => bi_imp (r := fun x y H Q => rLcm [x, y] H Q) b_lcm w)
end
end Vf
end
section
namespace Vf
open PySem L2
section
variable {π : Pi} {c : Cc} {ξ : XK} {F : Fs} {n : Nat} {N fl : List Str} {ns : Ns} {X : Cx}
variable {a b e : Vf.E} {x y z : Expr} {pos p p2 : Pos} {es es2 : Vf.Es} {xs : List Expr} {kws : List Keyword}
theorem snd_leno (g : Gd π c ξ F n N fl ns X) {k : Nat} (hk : k < π.cls.length) (h1 : inF π ns "len" = true) (hp : plain x = true) (ha : PE X x (tv c ξ F a)) (he : ∃ f0, F.lnf k = some f0) :
    Snd X c ξ F (.Call (.Name "len" p) [x] [] pos) (.leno k a) := by
  obtain ⟨f0, he⟩ := he
  refine Snd.mk1 g rfl ?_
  cases n with
  | zero =>
    refine pe_false fun σ H Q w => ?_
    obtain ⟨env, G, R, w⟩ := w
    simp only [evalE] at w
    exact on_false (α := Unit) g w
  | succ m =>
    obtain ⟨g1, m1, f1⟩ := inF_ok h1
    obtain ⟨ad, fd, ps, q1, q2, q3⟩ := g.ob.lns k f0 he m rfl
    have hK : c.toKc.K = X.K := g.K.symm
    have q1' := q1
    have q2' := q2
    have q3' := q3
    rw [hK] at q1' q3'
    rw [hK] at q2'
    refine PE.imp (pe_callB (call_lenX (C := c.cl k) q1' q2' q3' g.room g.pass) (g.gl g1) (g.free _ f1) PySem.boot_len (pa_cons ha pa_nil (star_plain hp _ _)) (nmB_ok m1).2.2 (nmB_ok m1).1 (star_plain hp _ _) rfl) fun σ H Q w => ?_
    obtain ⟨env, G, R, w⟩ := w
    simp only [evalE, PR.bind] at w
    obtain ⟨_, w⟩ := PR.chk w
    have w' : PR c ξ (evalE F a env) _ := w
    refine T_sh R (w'.mono fun p w G1 H1 u R1 g1 r1 => ?_)
    obtain ⟨ho, w1⟩ := PR.chk w
    obtain ⟨f, e1, w2⟩ := PR.of w1
    rw [he] at e1; cases e1
    obtain ⟨hi, w3⟩ := PR.chk w2
    clear w w1 w2 w'
    obtain ⟨fs, hj⟩ : ∃ fs, p.1.2 = .obj k fs := by
      cases hd : p.1.2 <;> rw [hd] at ho <;> first | (simp only [isObj, decide_eq_true_eq] at ho; subst ho; exact ⟨_, rfl⟩) | cases ho
    have rs : Reps c.toKc G1 [u] [p.1.2] := .cons r1 .nil
    obtain ⟨ad, dx, fs1, fs2, rfl, hins, _⟩ := Rep1.obj R1.ex (.of (by rw [hj] at r1; exact r1))
    refine ⟨ad, dx, fs1, rfl, hins, low_read hi rfl R1 g1 rs w3 fun r z G' H' v' R3 g3 ok => ?_⟩
    obtain ⟨t, e2, z⟩ := PR.of z
    obtain ⟨e3, i0, i1⟩ := lenOf_some e2
    rw [e3] at ok
    exact ⟨t, val_int ok, i0, by omega, (show ∀ G' H' v, _ from z) G' H' _ R3 g3 (.sh (.int _))⟩
/-- isinstance(x, C), an own class -/
theorem snd_isto (g : Gd π c ξ F n N fl ns X) {k : Nat} {nm : Str} (hf : π.cls[k]? = some nm) (hmg : X.mg nm = some (.ref (c.cl k))) (h1 : inF π ns "isinstance" = true) (h2 : glbB ns nm = true) (h3 : nmB nm = true) (hp : plain x = true) (ha : PE X x (to1 c ξ F a)) :
    Snd X c ξ F (.Call (.Name "isinstance" p) [x, .Name nm p2] [] pos) (.ist a (.cls k π.cls.length)) := by
  obtain ⟨g1, m1, f1⟩ := inF_ok h1
  have hk : k < π.cls.length := (List.getElem?_eq_some_iff.mp hf).1
  have cx := g.ob.clx k hk
  have hc : CallR X (.builtin "isinstance") _ := call_isi
  rw [g.K] at hc
  refine Snd.mk1 g rfl (PE.imp (pe_callB hc (g.gl g1) (g.free _ f1) PyProof.Rows.boot_isinstance (pa_cons ha (pa_cons (pe_glob (v := .ref (c.cl k)) (g.gl h2) hmg rfl (nmB_ok h3).1) pa_nil) (star_plain hp _ _)) (nmB_ok m1).2.2 (nmB_ok m1).1 (star_plain hp _ _) rfl) fun σ H Q w => ?_)
  obtain ⟨env, G, R, w⟩ := w
  simp only [evalE, PR.bind] at w
  refine ⟨env, G, R, w.mono fun u w G1 H1 v R1 g1 o1 => ?_⟩
  obtain ⟨d, e1, w⟩ := PR.of w
  obtain ⟨b, e2, w⟩ := PR.of w
  have r1 := o1.rep1 R1 e1
  have hy : okY π.cls.length d = true := by
    cases d <;> first | rfl | skip
    simp only [isT] at e2
    split at e2
    · rename_i q; simpa [okY] using q
    · cases e2
  refine ⟨v, .ref (c.cl k), tyW c.cl d, .ref (c.cl k), b, rfl, .own _, tyx_all g.ob.clx R1.ex r1 hy, ?_, w G1 H1 _ R1 g1 (.sh (.bl b))⟩
  cases d
  case obj j fs =>
    simp only [isT] at e2
    split at e2
    · rename_i q; cases e2; exact cx.kin j q
    · cases e2
  all_goals (simp only [isT, Option.some.injEq] at e2; subst e2; exact cx.kb _ (by decide))
end
end Vf
end
section
namespace Vf
open PySem L2 PyProof.Rows
/-! ### which piece of syntax stands for which operation -/
def unB : U1 → Option Str
  | .len => some "len"
  | .int => some "int"
  | .str => some "str"
  | .abs => some "abs"
  | .sum => some "sum"
  | .all => some "all"
  | .any => some "any"
  | .sorted => some "sorted"
  | .list => some "list"
  | .tuple => some "tuple"
  | .dkeys => some "tuple"
  | _ => none
def unA (π : Pi) (ns : Ns) (o : U1) (ast : Expr) : Option Expr :=
  match ast with
  | .UnaryOp .USub a _ => match o with | .neg => some a | _ => none
  | .Compare a [.Is] [.Constant .none _ _] _ => match o with | .isN => some a | _ => none
  | .Compare a [.IsNot] [.Constant .none _ _] _ => match o with | .notN => some a | _ => none
  | .Call (.Name f _) [a] [] _ => match o with
    | .lvals => match a with
      | .Call (.Attribute b m ap) [] [] cp => if f = "list" ∧ m = "values" ∧ inF π ns "list" = true ∧ (ap.endLine == cp.line) = true ∧ plain b = true then some b else none
      | _ => none
    | .lrng => match a with
      | .Call (.Name h _) [b] [] _ => if f = "list" ∧ h = "range" ∧ inF π ns "list" = true ∧ inF π ns "range" = true ∧ plain a = true then some b else none
      | _ => none
    | _ => if unB o = some f ∧ inF π ns f = true then some a else none
  | _ => none
def biO : B2 → Option Operator
  | .add => some .Add
  | .sub => some .Sub
  | .mul => some .Mult
  | .fdiv => some .FloorDiv
  | .mod => some .Mod
  | .pow => some .Pow
  | _ => none
def biC : B2 → Option CmpOp
  | .eq => some .Eq
  | .ne => some .NotEq
  | .lt => some .Lt
  | .le => some .LtE
  | .gt => some .Gt
  | .ge => some .GtE
  | .inn => some .In
  | .nin => some .NotIn
  | _ => none
def biB : B2 → Option Str
  | .max2 => some "max"
  | .min2 => some "min"
  | _ => none
def biA (π : Pi) (ns : Ns) (o : B2) (ast : Expr) : Option (Expr × Expr) :=
  match ast with
  | .BinOp a op b _ => if biO o = some op then some (a, b) else none
  | .Compare a [op] [b] _ => if biC o = some op then some (a, b) else none
  | .Subscript a b _ => match o with | .idx => some (a, b) | _ => none
  | .Call (.Name f _) [a, b] [] _ => if biB o = some f ∧ inF π ns f = true then some (a, b) else match o with
    | .gcd => if glbB ns f = true ∧ nmB f = true ∧ (f, "math.gcd") ∈ π.gbl then some (a, b) else none
    | .lcm => if glbB ns f = true ∧ nmB f = true ∧ (f, "math.lcm") ∈ π.gbl then some (a, b) else none
    | _ => none
  | .Call (.Name f _) [.Call (.Name h _) [a, b] [] _] [] _ => match o with
    | .lrng2 => if f = "list" ∧ h = "range" ∧ inF π ns "list" = true ∧ inF π ns "range" = true then some (a, b) else none
    | _ => none
  | _ => none
def m0A (o : U1) (ast : Expr) : Option Expr :=
  match ast with
  | .Call (.Attribute a m ap) [] [] pos => match o with
    | .isdec => if m = "isdecimal" ∧ (ap.endLine == pos.line) = true then some a else none
    | _ => none
  | _ => none
def m1N : B2 → Option Str
  | .join => some "join"
  | .split => some "split"
  | .part => some "partition"
  | .rmpre => some "removeprefix"
  | _ => none
def m1A (o : B2) (ast : Expr) : Option (Expr × Expr) :=
  match ast with
  | .Call (.Attribute a m ap) [b] [] pos => if m1N o = some m ∧ (ap.endLine == pos.line) = true then some (a, b) else none
  | _ => none
structure SndO (X : Cx) (c : Cc) (ξ : XK) (F : Fs) (ast : Expr) (e : E) : Prop where
  s : Snd X c ξ F ast e
  o : PE X ast (to1 c ξ F e)
  p : plain ast = true
section
variable {π : Pi} {c : Cc} {ξ : XK} {F : Fs} {n : Nat} {N fl : List Str} {ns : Ns} {X : Cx}
variable {a b e : Vf.E} {x y z tg ast : Expr} {pos p p2 : Pos}
theorem un_bl {o : U1} (h : ∀ d w, un1 o d = some w → ∃ b, w = (false, .bl b)) : ∀ env p, evalE F (.un o a) env = .ok p → ∃ b, p.1 = (false, .bl b) := by
  intro env p h'
  simp only [evalE] at h'
  cases q1 : opd a (evalE F a env) env with
  | exc k x => rw [q1] at h'; cases h'
  | stk => rw [q1] at h'; cases h'
  | ok u =>
    rw [q1, R.bind_ok] at h'
    cases q3 : u.1.get u.2 with
    | none => rw [q3] at h'; cases h'
    | some d =>
      rw [q3, R.of_some, R.bind_ok] at h'
      cases q5 : un1 o d with
      | none => rw [q5] at h'; cases h'
      | some w =>
        rw [q5, R.of_some, R.bind_ok] at h'
        cases h'
        exact h d w q5
theorem unA_ok (g : Gd π c ξ F n N fl ns X) {o : U1} (h : unA π ns o ast = some x) (ha : SndO X c ξ F x a) : SndO X c ξ F ast (.un o a) := by
  have mk : ∀ {ast : Expr}, Snd X c ξ F ast (.un o a) → plain ast = true → SndO X c ξ F ast (.un o a) := fun s hp => ⟨s, s.pe |> fun h => Snd.op h (fun _ => rfl), hp⟩
  unfold unA at h
  split at h
  · cases o <;> simp only [reduceCtorEq, Option.some.injEq] at h
    subst h
    exact mk (snd_un g un_neg (by decide) u_neg ha.o) rfl
  · cases o <;> simp only [reduceCtorEq, Option.some.injEq] at h
    subst h
    exact mk ⟨PE.imp (pe_cmp (pc_isN ha.o)) fun _ _ _ w => un_imp u_isN w, PT.imp (pt_cmp (pc_isN ha.o)) fun _ _ _ w => un_imp u_isN (Tb_bl (un_bl fun d w hw => by simp only [un1, vw, Option.some.injEq] at hw; exact ⟨_, hw.symm⟩) w)⟩ rfl
  · cases o <;> simp only [reduceCtorEq, Option.some.injEq] at h
    subst h
    exact mk ⟨PE.imp (pe_cmp (pc_notN ha.o)) fun _ _ _ w => un_imp u_notN w, PT.imp (pt_cmp (pc_notN ha.o)) fun _ _ _ w => un_imp u_notN (Tb_bl (un_bl fun d w hw => by simp only [un1, vw, Option.some.injEq] at hw; exact ⟨_, hw.symm⟩) w)⟩ rfl
  · rename_i f p1 a' pos'
    by_cases hv : o = .lvals
    · subst hv
      dsimp only at h
      split at h
      · rename_i b' m ap cp
        split at h
        · rename_i hh
          obtain ⟨rfl, rfl, h3, h4, h5⟩ := hh
          cases h
          obtain ⟨g1, m1, f1⟩ := inF_ok h3
          exact mk (Snd.mk1 g rfl (PE.imp (pe_listVals g.calm ha.o (g.gl g1) (g.free _ f1) (attr_plain h5 _ _) h4 (star_plain rfl _ _)) fun σ H Q w => un_imp (r := fun x H Q => rListV x H Q) u_lvals w)) rfl
        · cases h
      · cases h
    by_cases hl : o = .lrng
    · subst hl
      dsimp only at h
      split at h
      · rename_i h1 p3 b' pos3
        split at h
        · rename_i hh
          obtain ⟨rfl, rfl, h3, h4, h5⟩ := hh
          cases h
          obtain ⟨g1, m1, f1⟩ := inF_ok h3
          obtain ⟨g2, m2, f2⟩ := inF_ok h4
          refine mk (Snd.mk1 g rfl (PE.imp (pe_listRg g.calm (g.gl g1) (g.free _ f1) (prg_1 (g.gl g2) (g.free _ f2) ha.o (star_plain ha.p _ _)) (star_plain h5 _ _)) fun σ H Q w => un_imp (r := fun x H Q => ∃ n, x = V.int n ∧ RgOk 0 n ∧ ∀ q, H q = none → Q (.ref q) (upd H q (.lst (rgV 0 n)))) ?_ w)) rfl
          intro G H v d w Q ex r f k
          cases d <;> simp only [un1, vw, reduceCtorEq, Option.some.injEq] at f
          obtain ⟨hb, f⟩ := ck_some f
          cases f
          obtain rfl := r.int
          have hsz : (sizeLine : Int) = 2 ^ 24 := by decide
          have hsz2 : (2 : Int) ^ 24 < 2 ^ 62 := by decide
          refine ⟨_, rfl, ⟨by decide, by decide, by omega, by omega, by omega⟩, fun q hq => ?_⟩
          refine k G _ (.ref q) (.lst ex hq ?_)
          unfold rgV rngD
          rw [Int.sub_zero]
          exact rng_reps _
        · cases h
      · cases h
    · have h' : (if unB o = some f ∧ inF π ns f = true then some a' else none) = some x := by
        cases o <;> first | exact h | exact absurd rfl hl | exact absurd rfl hv
      split at h'
      · rename_i hh
        obtain ⟨hn, hf⟩ := hh
        cases h'
        obtain ⟨g1, m1, f1⟩ := inF_ok hf
        cases o <;> simp only [unB, reduceCtorEq, Option.some.injEq] at hn <;> subst hn
        · have hc : CallR X (.builtin "len") _ := (call_len (X := X)).or call_lenD
          rw [g.K] at hc
          exact mk (snd_callB g hc PySem.boot_len u_len g1 f1 m1 ha.p ha.o) rfl
        · exact mk (snd_callT g (call_int1.or call_int_str) boot_int u_int g1 f1 m1 ha.p ha.o) rfl
        · exact mk (snd_callT g call_str_int boot_str u_str g1 f1 m1 ha.p ha.o) rfl
        · exact mk (snd_callB g call_abs boot_abs u_abs g1 f1 m1 ha.p ha.o) rfl
        · have hc := cr_sum (X := X) g.calm; rw [g.K] at hc
          exact mk (snd_callB g hc boot_sum u_sum g1 f1 m1 ha.p ha.o) rfl
        · have hc := cr_all (X := X) g.calm; rw [g.K] at hc
          exact mk (snd_callB g hc boot_all u_all g1 f1 m1 ha.p ha.o) rfl
        · have hc := cr_any (X := X) g.calm; rw [g.K] at hc
          exact mk (snd_callB g hc boot_any u_any g1 f1 m1 ha.p ha.o) rfl
        · have hc := (cr_sortedS (X := X)).or cr_sortedI; rw [g.K] at hc
          exact mk (snd_callB g hc boot_sorted u_sorted g1 f1 m1 ha.p ha.o) rfl
        · have hc := pe_tupleOf (X := X) (p := p1) (pos := pos') (g.gl g1) (g.free _ f1) ha.o (star_plain ha.p _ _)
          rw [g.K] at hc
          exact mk (Snd.mk1 g rfl (PE.imp hc fun σ H Q w => un_imp (r := fun x H Q => kTup c.K x H Q) u_tuple w)) rfl
        · have hc := call_list_of (X := X); rw [g.K] at hc
          exact mk (snd_callT g hc boot_list u_list g1 f1 m1 ha.p ha.o) rfl
        · exact mk (Snd.mk1 g rfl (PE.imp (pe_tupleDk g.calm (g.gl g1) (g.free _ f1) ha.o (star_plain ha.p _ _)) fun σ H Q w => un_imp (r := fun x H Q => rTupDk x H Q) u_dkeys w)) rfl
      · cases h'
  · cases h
end
end Vf
end
section
namespace Vf
open PySem L2 PyProof.Rows
section
variable {π : Pi} {c : Cc} {ξ : XK} {F : Fs} {n : Nat} {N fl : List Str} {ns : Ns} {X : Cx}
variable {a b e : Vf.E} {x y z tg ast : Expr} {pos p p2 : Pos}
theorem eq_bl (d e : D) (w : W) (h : bi1 .eq d e = some w) : ∃ b, w = (false, .bl b) := by
  simp only [bi1, vw] at h
  split at h <;> first | (cases h; exact ⟨_, rfl⟩) | cases h
theorem ne_bl (d e : D) (w : W) (h : bi1 .ne d e = some w) : ∃ b, w = (false, .bl b) := by
  simp only [bi1, vw] at h
  split at h <;> first | (cases h; exact ⟨_, rfl⟩) | cases h
theorem lt_bl (d e : D) (w : W) (h : bi1 .lt d e = some w) : ∃ b, w = (false, .bl b) := by
  cases d <;> cases e <;> simp only [bi1, vw, reduceCtorEq, Option.some.injEq] at h <;> exact ⟨_, h.symm⟩
theorem le_bl (d e : D) (w : W) (h : bi1 .le d e = some w) : ∃ b, w = (false, .bl b) := by
  cases d <;> cases e <;> simp only [bi1, vw, reduceCtorEq, Option.some.injEq] at h <;> exact ⟨_, h.symm⟩
theorem gt_bl (d e : D) (w : W) (h : bi1 .gt d e = some w) : ∃ b, w = (false, .bl b) := by
  cases d <;> cases e <;> simp only [bi1, vw, reduceCtorEq, Option.some.injEq] at h <;> exact ⟨_, h.symm⟩
theorem ge_bl (d e : D) (w : W) (h : bi1 .ge d e = some w) : ∃ b, w = (false, .bl b) := by
  cases d <;> cases e <;> simp only [bi1, vw, reduceCtorEq, Option.some.injEq] at h <;> exact ⟨_, h.symm⟩
theorem biA_ok (g : Gd π c ξ F n N fl ns X) {o : B2} (h : biA π ns o ast = some (x, y)) (ha : SndO X c ξ F x a) (hb : SndO X c ξ F y b) : SndO X c ξ F ast (.bi o a b) := by
  have mk : ∀ {ast : Expr}, Snd X c ξ F ast (.bi o a b) → plain ast = true → SndO X c ξ F ast (.bi o a b) := fun s hp => ⟨s, s.pe |> fun h => Snd.op h (fun _ => rfl), hp⟩
  have hu := g.room.units
  unfold biA at h
  split at h
  · split at h
    · rename_i hh
      cases h
      refine mk ?_ rfl
      cases o <;> simp only [biO, reduceCtorEq, Option.some.injEq] at hh <;> subst hh
      · have hc := (op_add (X := X)).or (op_add_str.or (op_catS.or op_catA)); rw [g.K] at hc
        exact snd_bin g hc b_add ha.o hb.o
      · exact snd_bin g op_sub b_sub ha.o hb.o
      · have hc := (op_mul (X := X)).or op_repS; rw [g.K] at hc; exact snd_bin g hc b_mul ha.o hb.o
      · exact snd_bin g op_fdivN b_fdiv ha.o hb.o
      · exact snd_bin g op_modN b_mod ha.o hb.o
      · exact snd_bin g op_powW b_pow ha.o hb.o
    · cases h
  · split at h
    · rename_i hh
      cases h
      refine mk ?_ rfl
      cases o <;> simp only [biC, reduceCtorEq, Option.some.injEq] at hh <;> subst hh
      · have hc := op_eqD (X := X) hu; rw [g.K] at hc
        exact snd_cmp g hc b_eq eq_bl hb.p ha.o hb.o
      · have hc := op_neD (X := X) hu; rw [g.K] at hc
        exact snd_cmp g hc b_ne ne_bl hb.p ha.o hb.o
      · exact snd_cmp g (op_lt.or op_lt_str) b_lt lt_bl hb.p ha.o hb.o
      · exact snd_cmp g op_le b_le le_bl hb.p ha.o hb.o
      · exact snd_cmp g op_gt b_gt gt_bl hb.p ha.o hb.o
      · exact snd_cmp g op_ge b_ge ge_bl hb.p ha.o hb.o
      · exact snd_in g hb.p ha.o hb.o
      · exact snd_nin g hb.p ha.o hb.o
    · cases h
  · cases o <;> simp only [reduceCtorEq, Option.some.injEq] at h
    cases h
    exact mk (snd_idx g hb.p ha.o hb.o) rfl
  · split at h
    · rename_i hh
      obtain ⟨hn, hf⟩ := hh
      cases h
      obtain ⟨g1, m1, f1⟩ := inF_ok hf
      cases o <;> simp only [biB, reduceCtorEq, Option.some.injEq] at hn <;> subst hn
      · exact mk (snd_callB2 g (call_max2 g.calm) boot_max b_max2 g1 f1 m1 ha.p hb.p ha.o hb.o) rfl
      · exact mk (snd_callB2 g (call_min2 g.calm) boot_min b_min2 g1 f1 m1 ha.p hb.p ha.o hb.o) rfl
    · cases o <;> simp only [reduceCtorEq] at h
      · split at h
        · rename_i hh
          cases h
          exact mk (snd_gcd g hh.1 hh.2.1 hh.2.2 ha.p hb.p ha.o hb.o) rfl
        · cases h
      · split at h
        · rename_i hh
          cases h
          exact mk (snd_lcm g hh.1 hh.2.1 hh.2.2 ha.p hb.p ha.o hb.o) rfl
        · cases h
  · cases o <;> simp only [reduceCtorEq] at h
    split at h
    · rename_i hh
      obtain ⟨rfl, rfl, h3, h4⟩ := hh
      cases h
      obtain ⟨g1, m1, f1⟩ := inF_ok h3
      obtain ⟨g2, m2, f2⟩ := inF_ok h4
      refine mk (Snd.mk1 g rfl (PE.imp (pe_listRg g.calm (g.gl g1) (g.free _ f1) (prg_2 (g.gl g2) (g.free _ f2) ha.o hb.o (na := star_plain ha.p _ _) (nb := star_plain hb.p _ _) (hp := by rw [star_plain hb.p]; rfl)) (star_plain rfl _ _)) fun σ H Q w =>
        bi_imp (r := fun x y H Q => ∃ i j, x = V.int i ∧ y = V.int j ∧ RgOk i j ∧ ∀ q, H q = none → Q (.ref q) (upd H q (.lst (rgV i j)))) ?_ w)) rfl
      intro G H v u d d2 w Q ex r r2 f k
      cases d <;> cases d2 <;> simp only [bi1, vw, reduceCtorEq, Option.some.injEq] at f
      obtain ⟨hb, f⟩ := ck_some f
      cases f
      obtain rfl := r.int
      obtain rfl := r2.int
      exact ⟨_, _, rfl, rfl, ⟨hb.1, hb.2.1, hb.2.2.1, hb.2.2.2.1, hb.2.2.2.2⟩, fun q hq => k G _ (.ref q) (.lst ex hq (rng_reps _))⟩
    · cases h
  · cases h
theorem m0A_ok (g : Gd π c ξ F n N fl ns X) {o : U1} (h : m0A o ast = some x) (ha : SndO X c ξ F x a) : SndO X c ξ F ast (.mt0 o a) := by
  unfold m0A at h
  split at h
  · cases o <;> simp only [reduceCtorEq] at h
    split at h
    · rename_i hh
      cases h
      obtain ⟨rfl, hl⟩ := hh
      have s := snd_mt0 g PySem.F.slot_str_isdecimal PySem.F.type_str_isdecimal mt_isdecimal (u_isdec (c := c)) ha.p hl ha.s.pe
      exact ⟨s, Snd.op s.pe (fun _ => rfl), rfl⟩
    · cases h
  · cases h
theorem m1A_ok (g : Gd π c ξ F n N fl ns X) {o : B2} (h : m1A o ast = some (x, y)) (ha : SndO X c ξ F x a) (hb : SndO X c ξ F y b) : SndO X c ξ F ast (.mt1 o a b) := by
  unfold m1A at h
  split at h
  · split at h
    · rename_i hh
      cases h
      obtain ⟨hn, hl⟩ := hh
      have mk : ∀ {ast : Expr}, Snd X c ξ F ast (.mt1 o a b) → plain ast = true → SndO X c ξ F ast (.mt1 o a b) := fun s hp => ⟨s, s.pe |> fun h => Snd.op h (fun _ => rfl), hp⟩
      refine mk ?_ rfl
      cases o <;> simp only [m1N, reduceCtorEq, Option.some.injEq] at hn <;> subst hn
      · have hc := mt_join (X := X); rw [g.K] at hc
        exact snd_mt1 g PySem.F.slot_str_join PySem.F.type_str_join hc b_join ha.p hb.p hl ha.s.pe hb.o
      · exact snd_mt1 g PySem.F.slot_str_split PySem.F.type_str_split mt_split b_split ha.p hb.p hl ha.s.pe hb.o
      · exact snd_mt1 g PySem.F.slot_str_partition PySem.F.type_str_partition mt_partition b_part ha.p hb.p hl ha.s.pe hb.o
      · exact snd_mt1 g PySem.F.slot_str_removeprefix PySem.F.type_str_removeprefix mt_removeprefix b_rmpre ha.p hb.p hl ha.s.pe hb.o
    · cases h
  · cases h
/-- a chain of two comparisons -/
def chB : B2 → Bool
  | .lt | .le | .gt | .ge | .eq | .ne => true
  | _ => false
theorem chain_op (g : Gd π c ξ F n N fl ns X) {o : B2} {op : CmpOp} (h : biC o = some op) (hb : chB o = true) : ∃ r, OpR X (compareOp op) r ∧ BiOk c r (bi1 o) ∧ ∀ d e w, bi1 o d e = some w → ∃ b, w = (false, .bl b) := by
  have hu := g.room.units
  cases o <;> simp only [biC, reduceCtorEq, Option.some.injEq] at h <;> (try (cases hb; done)) <;> subst h
  · have hc := op_eqD (X := X) hu; rw [g.K] at hc
    exact ⟨_, hc, b_eq, eq_bl⟩
  · have hc := op_neD (X := X) hu; rw [g.K] at hc
    exact ⟨_, hc, b_ne, ne_bl⟩
  · exact ⟨_, op_lt.or op_lt_str, b_lt, lt_bl⟩
  · exact ⟨_, op_le, b_le, le_bl⟩
  · exact ⟨_, op_gt, b_gt, gt_bl⟩
  · exact ⟨_, op_ge, b_ge, ge_bl⟩
theorem last_plain (hp : plain y = true) (hp2 : plain z = true) (op op' : CmpOp) : lastMarks [op, op'] [y, z] = false := behind_plain hp2 op'
theorem New.bl_same {k : Kc} {G H G' H' : Hp} {v : V} {b : Bool} (N : New k G H G' H' false v (.bl b)) : v = .bl b := by
  have := N.val
  rw [if_neg Bool.false_ne_true] at this
  exact this.i_bl
theorem snd_ch (g : Gd π c ξ F n N fl ns X) {o o' : B2} {op op' : CmpOp} (h1 : biC o = some op) (h2 : biC o' = some op') (c1 : chB o = true) (c2 : chB o' = true) (ha : SndO X c ξ F x a) (hb : SndO X c ξ F y b) (hc : SndO X c ξ F z e) : SndO X c ξ F (.Compare x [op, op'] [y, z] pos) (.ch o o' a b e) := by
  obtain ⟨r, q1, q2, q3⟩ := chain_op g h1 c1
  obtain ⟨r', q1', q2', q3'⟩ := chain_op g h2 c2
  have key : ∀ {σ H} {Q : VK}, tv c ξ F (.ch o o' a b e) σ H Q → tChain r r' (to1 c ξ F a) (to1 c ξ F b) (to1 c ξ F e) σ H Q := fun {σ H Q} w => by
    obtain ⟨env, G, R, w⟩ := w
    simp only [evalE, PR.bind] at w
    refine ⟨env, G, R, w.mono fun p k G1 H1 x R1 g1 o1 => ⟨p.2, G1, R1, k.mono fun q k G2 H2 y R2 g2 o2 => ?_⟩⟩
    obtain ⟨d, e1, k⟩ := PR.of k
    obtain ⟨d', e2, k⟩ := PR.of k
    obtain ⟨w, e3, k⟩ := PR.of k
    obtain ⟨b0, rfl⟩ := q3 _ _ _ e3
    refine q2 G2 H2 x y d d' _ _ R2.ex ((o1.keep g2).rep1 R2 e1) (o2.rep1 R2 e2) e3 fun G3 H3 v3 N => ?_
    obtain ⟨R3, _⟩ := R2.new N
    have g3 := (g1.trans g2).trans (R2.gr N)
    refine ⟨b0, N.bl_same, ?_⟩
    cases b0 with
    | false => exact (show ∀ G' H' v, _ from k) G3 H3 _ R3 g3 (.sh (.bl _))
    | true =>
      change PR c ξ (opd e (evalE F e q.2) q.2 >>= _) _ at k
      rw [PR.bind] at k
      refine ⟨q.2, G3, R3, k.mono fun u k G4 H4 zv R4 g4 o4 => ?_⟩
      simp only [PR.bind] at k
      obtain ⟨d1, e4, k⟩ := PR.of k
      obtain ⟨d2, e5, k⟩ := PR.of k
      obtain ⟨w', e6, k⟩ := PR.of k
      obtain ⟨b1, rfl⟩ := q3' _ _ _ e6
      refine q2' G4 H4 y zv d1 d2 _ _ R4.ex (((o2.keep (R2.gr N)).keep g4).rep1 R4 e4) (o4.rep1 R4 e5) e6 fun G5 H5 v5 N5 => ?_
      obtain ⟨R5, _⟩ := R4.new N5
      rw [N5.bl_same]
      exact (show ∀ G' H' v, _ from k) G5 H5 _ R5 ((g3.trans g4).trans (R4.gr N5)) (.sh (.bl _))
  have bl : ∀ env p, evalE F (.ch o o' a b e) env = .ok p → ∃ b, p.1 = (false, .bl b) := by
    intro env p h'
    simp only [evalE] at h'
    cases z1 : opd a (evalE F a env) env with
    | exc k x => rw [z1] at h'; cases h'
    | stk => rw [z1] at h'; cases h'
    | ok u =>
      rw [z1, R.bind_ok] at h'
      cases z2 : opd b (evalE F b u.2) u.2 with
      | exc k x => rw [z2] at h'; cases h'
      | stk => rw [z2] at h'; cases h'
      | ok v =>
        rw [z2, R.bind_ok] at h'
        cases z3 : u.1.get v.2 with
        | none => rw [z3] at h'; cases h'
        | some d =>
          rw [z3, R.of_some, R.bind_ok] at h'
          cases z4 : v.1.get v.2 with
          | none => rw [z4] at h'; cases h'
          | some d' =>
            rw [z4, R.of_some, R.bind_ok] at h'
            cases z5 : bi1 o d d' with
            | none => rw [z5] at h'; cases h'
            | some w =>
              rw [z5, R.of_some, R.bind_ok] at h'
              obtain ⟨b0, rfl⟩ := q3 _ _ _ z5
              cases b0 with
              | false => cases h'; exact ⟨false, rfl⟩
              | true =>
                dsimp only at h'
                cases z6 : opd e (evalE F e v.2) v.2 with
                | exc k x => rw [z6] at h'; cases h'
                | stk => rw [z6] at h'; cases h'
                | ok t =>
                  rw [z6, R.bind_ok] at h'
                  cases z7 : v.1.get t.2 with
                  | none => rw [z7] at h'; cases h'
                  | some d1 =>
                    rw [z7, R.of_some, R.bind_ok] at h'
                    cases z8 : t.1.get t.2 with
                    | none => rw [z8] at h'; cases h'
                    | some d2 =>
                      rw [z8, R.of_some, R.bind_ok] at h'
                      cases z9 : bi1 o' d1 d2 with
                      | none => rw [z9] at h'; cases h'
                      | some w =>
                        rw [z9, R.of_some, R.bind_ok] at h'
                        obtain ⟨b1, rfl⟩ := q3' _ _ _ z9
                        cases h'
                        exact ⟨b1, rfl⟩
  have s : Snd X c ξ F (.Compare x [op, op'] [y, z] pos) (.ch o o' a b e) :=
    ⟨PE.imp (pe_chain q1 q1' ha.o hb.o hc.o (last_plain hb.p hc.p _ _)) fun σ H Q w => key w, PT.imp (pt_chain q1 q1' ha.o hb.o hc.o (last_plain hb.p hc.p _ _)) fun σ H Q w => key (Tb_bl bl w)⟩
  exact ⟨s, Snd.op s.pe (fun _ => rfl), rfl⟩
end
end Vf
end
section
namespace Vf
open PySem L2 PyProof.Rows
def conB : Cn → Const → Bool
  | .non, .none => true
  | .bl b, .bool b' => b == b'
  | .int i, .int j => i == j
  | .str x, .str y => decide (x = y)
  | _, _ => false
def istA (π : Pi) (ns : Ns) (t : Ty) (ast : Expr) : Option Expr :=
  match ast with
  | .Call (.Name f _) [a, .Name T _] [] _ => match tyN t with
    | some tn => if f = "isinstance" ∧ T = Str.ofString tn ∧ inF π ns f = true ∧ inF π ns T = true then some a else none
    | none => match t with
      | .cls k m => if f = "isinstance" ∧ m = π.cls.length ∧ π.cls[k]? = some T ∧ inF π ns f = true ∧ glbB ns T = true ∧ nmB T = true then some a else none
      | _ => none
  | _ => none
def cmoS (ne : Bool) : Expr → Option (Expr × Expr)
  | .Compare x [op] [y] _ => if op = (if ne = true then .NotEq else .Eq) then some (x, y) else none
  | _ => none
def len1S : Expr → Option Expr
  | .Call (.Name f _) [x] [] _ => if f = "len" then some x else none
  | _ => none
def plB (N fl : List Str) (ns : Ns) (i : Nat) (ast : Expr) : Bool :=
  match ast with
  | .Name x _ => decide (N[i]? = some x) && visB ns x && nmB x
  | _ => false
def flB (N fl : List Str) (ns : Ns) (i : Nat) (ast : Expr) : Bool :=
  match ast with
  | .Attribute (.Name x _) f _ => decide (N[0]? = some x) && visB ns x && nmB x && decide (N.length ≤ i) && decide (fl[i - N.length]? = some f)
  | _ => false
/-- a place: a name's slot, or a field of the object that is made -/
def pfB (N fl : List Str) (ns : Ns) (i : Nat) (ast : Expr) : Bool := plB N fl ns i ast || flB N fl ns i ast
/-- the shapes of what is walked -/
def itA (π : Pi) (ns : Ns) (k : IK) (tg ast : Expr) : Option (Expr × Option Expr) :=
  match k with
  | .val => some (ast, none)
  | .rng1 => match ast with
    | .Call (.Name f _) [a] [] _ => if f = "range" ∧ inF π ns f = true then some (a, none) else none
    | _ => none
  | .rng2 => match ast with
    | .Call (.Name f _) [a, b] [] _ => if f = "range" ∧ inF π ns f = true then some (a, some b) else none
    | _ => none
  | .zip => match ast with
    | .Call (.Name f _) [a, b] [] _ => match tg with
      | .Tuple .. => if f = "zip" ∧ inF π ns f = true then some (a, some b) else none
      | _ => none
    | _ => none
  | .enumK => match ast with
    | .Call (.Name f _) [a] [⟨some kn, b, _⟩] _ => match tg with
      | .Tuple .. => if f = "enumerate" ∧ kn = "start" ∧ inF π ns f = true then some (a, some b) else none
      | _ => none
    | _ => none
  | .enum => match ast with
    | .Call (.Name f _) [a] [] _ => match tg with
      | .Tuple .. => if f = "enumerate" ∧ inF π ns f = true then some (a, none) else none
      | _ => none
    | _ => none
  | _ => none
def isNop : E → Bool
  | .nop => true
  | _ => false

def conS : Expr → Option Const
  | .Constant k _ _ => some k
  | _ => none
def gloS : Expr → Option Str
  | .Name x _ => some x
  | _ => none
def notS : Expr → Option Expr
  | .UnaryOp .Not x _ => some x
  | _ => none
def chS : Expr → Option (Expr × CmpOp × CmpOp × Expr × Expr)
  | .Compare x [o, o'] [y, z] _ => some (x, o, o', y, z)
  | _ => none
def andS : Expr → Option (Expr × Expr × List Expr × Pos)
  | .BoolOp .And (x :: y :: r) pos => some (x, y, r, pos)
  | _ => none
def orS : Expr → Option (Expr × Expr × List Expr × Pos)
  | .BoolOp .Or (x :: y :: r) pos => some (x, y, r, pos)
  | _ => none
def iteS : Expr → Option (Expr × Expr × Expr)
  | .IfExp z x y _ => some (z, x, y)
  | _ => none
def slcS : Expr → Option (Expr × Option Expr × Option Expr)
  | .Subscript x (.Slice l h none _) _ => some (x, l, h)
  | _ => none
def tupS : Expr → Option (List Expr)
  | .Tuple xs _ _ => some xs
  | _ => none
def lstS : Expr → Option (List Expr)
  | .List xs _ => some xs
  | _ => none
def dicS : Expr → Option (List (Option Expr) × List Expr)
  | .Dict ks xs _ => some (ks, xs)
  | _ => none
def attS : Expr → Option (Expr × Str)
  | .Attribute x f _ => some (x, f)
  | _ => none
def callS : Expr → Option (Str × Expr × List Expr)
  | .Call (.Name nm _) (x :: xs) [] _ => some (nm, x, xs)
  | _ => none
def callKS : Expr → Option (Str × List Expr × List Keyword)
  | .Call (.Name nm _) xs (k :: kws) _ => some (nm, xs, k :: kws)
  | _ => none
def popS : Expr → Option (Expr × Expr)
  | .Call (.Attribute y m ap) [x] [] pos => if m = "pop" ∧ (ap.endLine == pos.line) = true then some (y, x) else none
  | _ => none
def lcS1 : Expr → Option (Expr × Expr × Expr × List Expr × Scope)
  | .ListComp elt [⟨tg, iter, ifs, aw⟩] scope _ => if aw = 0 then some (elt, tg, iter, ifs, scope) else none
  | _ => none
def fstS : Expr → Option (List Expr)
  | .JoinedStr (v1 :: v2 :: r) _ => some (v1 :: v2 :: r)
  | _ => none
def fst1S : Expr → Option Expr
  | .JoinedStr [.FormattedValue x cv none _] _ => if cv = -1 then some x else none
  | _ => none
def csS : Expr → Option Str
  | .Constant (.str s) _ _ => some s
  | _ => none
def fvS : Expr → Option Expr
  | .FormattedValue x cv none _ => if cv = -1 then some x else none
  | _ => none
mutual
def chkE (π : Pi) (io : Nat → List Bool) (N fl : List Str) (ns : Ns) : E → Expr → Bool
  | .nop, _ => false
  | .var i, ast => plB N fl ns i ast
  | .fld i f, ast => flB N fl ns i ast
  | .con k, ast => match conS ast with
    | some cst => conB k cst
    | none => false
  | .glo x k, ast => match gloS ast with
    | some y => decide (x = y) && glbB ns x && nmB x && decide ((x, k) ∈ π.glos)
    | none => false
  | .un o a, ast => match unA π ns o ast with
    | some x => chkE π io N fl ns a x
    | none => false
  | .not a, ast => match notS ast with
    | some x => chkE π io N fl ns a x
    | none => false
  | .mt0 o a, ast => match m0A o ast with
    | some x => chkE π io N fl ns a x
    | none => false
  | .mt1 o a b, ast => match m1A o ast with
    | some (x, y) => chkE π io N fl ns a x && chkE π io N fl ns b y
    | none => false
  | .bi o a b, ast => match biA π ns o ast with
    | some (x, y) => chkE π io N fl ns a x && chkE π io N fl ns b y
    | none => false
  | .ch o o' a b e, ast => match chS ast with
    | some (x, op, op', y, z) => decide (biC o = some op) && decide (biC o' = some op') && chB o && chB o' && chkE π io N fl ns a x && chkE π io N fl ns b y && chkE π io N fl ns e z
    | none => false
  | .and a b, ast => match andS ast with
    | some (x, y, r, pos) => chkE π io N fl ns a x && (match r with
      | [] => chkE π io N fl ns b y
      | z :: r => chkE π io N fl ns b (.BoolOp .And (y :: z :: r) pos))
    | none => false
  | .or a b, ast => match orS ast with
    | some (x, y, r, pos) => chkE π io N fl ns a x && (match r with
      | [] => chkE π io N fl ns b y
      | z :: r => chkE π io N fl ns b (.BoolOp .Or (y :: z :: r) pos))
    | none => false
  | .ite t a b, ast => match iteS ast with
    | some (z, x, y) => chkE π io N fl ns t z && chkE π io N fl ns a x && chkE π io N fl ns b y
    | none => false
  | .slc a lo hi, ast => match slcS ast with
    | some (x, l, h) => chkE π io N fl ns a x && (match l with
      | none => isNop lo
      | some y => chkE π io N fl ns lo y) && (match h with
      | none => isNop hi
      | some y => chkE π io N fl ns hi y)
    | none => false
  | .tup es, ast => match tupS ast with
    | some xs => chkEs π io N fl ns es xs
    | none => false
  | .lst es, ast => match lstS ast with
    | some xs => chkEs π io N fl ns es xs
    | none => false
  | .dic ks es, ast => match dicS ast with
    | some (keys, xs) => chkD π io N fl ns es ks keys xs && decide (ks.length ≤ 15)
    | none => false
  | .att a k f, ast => match attS ast with
    | some (x, f') => decide (f = f') && decide ((k, f) ∈ π.atts) && chkE π io N fl ns a x
    | none => false
  | .ist a t, ast => match istA π ns t ast with
    | some x => chkE π io N fl ns a x
    | none => false
  | .call f es kw, ast => match callS ast with
    | some (nm, x, xs) => kw.isEmpty && decide (π.fns[f]? = some nm) && glbB ns nm && nmB nm && chkAs π io N fl ns es (io f) (x :: xs)
    | none => false
  | .callK f es es2 ks pm, ast => match callKS ast with
    | some (nm, xs, kws) => decide (π.fns[f]? = some nm) && decide ((f, ks, pm) ∈ π.kws) && glbB ns nm && nmB nm && decide (xs.length = pm.length - ks.length) && (xs.all plain) && chkEs π io N fl ns es xs && (match kwS kws with
      | some (ks', vs) => decide (ks = ks') && chkEs π io N fl ns es2 vs
      | none => false)
    | none => false
  | .cal1 f e, ast => match callS ast with
    | some (nm, x, []) => decide (π.fns[f]? = some nm) && glbB ns nm && nmB nm && chkE π io N fl ns e x
    | _ => false
  | .mk k es kw, ast => match callS ast with
    | some (nm, x, xs) => decide (π.cls[k]? = some nm) && glbB ns nm && nmB nm && plain x && (xs.all plain) && chkEs π io N fl ns es (x :: xs)
    | none => match callKS ast with
      | some (nm, [], kws) => decide (π.cls[k]? = some nm) && decide ((k, kw) ∈ π.mkws) && decide (kw.length ≠ 0) && glbB ns nm && nmB nm && (match kwS kws with
        | some (ks', vs) => decide (kw = ks') && chkEs π io N fl ns es vs
        | none => false)
      | _ => false
  | .cmo ne k m a b, ast => match cmoS ne ast with
    | some (x, y) => decide (m = π.cls.length) && decide (k < π.cls.length) && decide (k ∈ π.eqc) && plain y && chkE π io N fl ns a x && chkE π io N fl ns b y
    | none => false
  | .leno k a, ast => match len1S ast with
    | some x => decide (k < π.cls.length) && decide (k ∈ π.lnc) && inF π ns "len" && plain x && chkE π io N fl ns a x
    | none => false
  | .hold a, ast => chkE π io N fl ns a ast
  | .prop i j own, ast => chkPr N ns i j own ast && tests ast && plain ast
  | .dcm _ _ _ _ _ _ _ _, _ => false
  | .pop i a, ast => match popS ast with
    | some (y, x) => pfB N fl ns i y && chkE π io N fl ns a x
    | none => false
  | .lc k a b p cnd e own, ast => match lcS1 ast with
    | some (elt, tg, iter, ifs, scope) => plain iter && (match itA π ns k tg iter with
      | some (x, oy) => chkE π io N fl ns a x && (match oy with
        | none => isNop b
        | some y => chkE π io N fl ns b y)
      | none => false) && (blkB N ns scope own && ownB ns own) && chkP N (nsC ns scope) p tg && decide (∀ i ∈ slotsP p, i ∈ own.map (·.2)) && (match ifs with
        | [] => isNop cnd
        | [t] => chkE π io N fl (nsC ns scope) cnd t
        | _ => false) && chkE π io N fl (nsC ns scope) e elt
    | none => false
  | .fst es, ast => match fstS ast with
    | some xs => chkF π io N fl ns es xs
    | none => match fst1S ast with
      | some x => chkF1 π io N fl ns es x
      | none => false
def chkEs (π : Pi) (io : Nat → List Bool) (N fl : List Str) (ns : Ns) : Es → List Expr → Bool
  | .nil, xs => xs.isEmpty
  | .cons e r, xs => match xs with
    | x :: xs => chkE π io N fl ns e x && chkEs π io N fl ns r xs
    | [] => false
def chkD (π : Pi) (io : Nat → List Bool) (N fl : List Str) (ns : Ns) : Es → List Str → List (Option Expr) → List Expr → Bool
  | .nil, ks, keys, xs => ks.isEmpty && keys.isEmpty && xs.isEmpty
  | .cons e r, ks, keys, xs => match ks, keys, xs with
    | k :: ks, some ky :: keys, x :: xs => (match csS ky with
      | some s => decide (k = s)
      | none => false) && chkE π io N fl ns e x && chkD π io N fl ns r ks keys xs
    | _, _, _ => false
def chkAs (π : Pi) (io : Nat → List Bool) (N fl : List Str) (ns : Ns) : Es → List Bool → List Expr → Bool
  | .nil, fs, xs => fs.isEmpty && xs.isEmpty
  | .cons e r, fs, xs => match fs, xs with
    | true :: fs, x :: xs => (match e with
      | .var i => plB N fl ns i x
      | _ => false) && chkAs π io N fl ns r fs xs
    | false :: fs, x :: xs => chkE π io N fl ns e x && chkAs π io N fl ns r fs xs
    | _, _ => false
def chkF (π : Pi) (io : Nat → List Bool) (N fl : List Str) (ns : Ns) : Es → List Expr → Bool
  | .nil, xs => xs.isEmpty
  | .cons e r, xs => match xs with
    | x :: xs => (match fvS x with
      | some y => chkE π io N fl ns e y
      | none => match csS x with
        | some s => (match e with
          | .con (.str s') => decide (s = s')
          | _ => false)
        | none => false) && chkF π io N fl ns r xs
    | [] => false
def chkF1 (π : Pi) (io : Nat → List Bool) (N fl : List Str) (ns : Ns) : Es → Expr → Bool
  | .nil, _ => false
  | .cons e r, x => chkE π io N fl ns e x && (match r with | .nil => true | _ => false)
end
section
variable {ast x y z : Expr} {l : List Expr}
theorem cmoS_ok {ne : Bool} (h : cmoS ne ast = some (x, y)) : ∃ p, ast = .Compare x [if ne = true then .NotEq else .Eq] [y] p := by
  unfold cmoS at h
  split at h
  · rename_i x' op y' p'
    by_cases hh : op = (if ne = true then .NotEq else .Eq)
    · rw [if_pos hh] at h
      cases h
      rw [hh]
      exact ⟨_, rfl⟩
    · rw [if_neg hh] at h
      cases h
  · cases h
theorem len1S_ok (h : len1S ast = some x) : ∃ p p2, ast = .Call (.Name "len" p2) [x] [] p := by
  unfold len1S at h
  split at h
  · split at h
    · rename_i hh; cases h; subst hh; exact ⟨_, _, rfl⟩
    · cases h
  · cases h
theorem conS_ok {k : Const} (h : conS ast = some k) : ∃ j p, ast = .Constant k j p := by
  unfold conS at h; split at h <;> first | (cases h; exact ⟨_, _, rfl⟩) | cases h
theorem gloS_ok {k : Str} (h : gloS ast = some k) : ∃ p, ast = .Name k p := by
  unfold gloS at h; split at h <;> first | (cases h; exact ⟨_, rfl⟩) | cases h
theorem notS_ok (h : notS ast = some x) : ∃ p, ast = .UnaryOp .Not x p := by
  unfold notS at h; split at h <;> first | (cases h; exact ⟨_, rfl⟩) | cases h
theorem chS_ok {o o' : CmpOp} (h : chS ast = some (x, o, o', y, z)) : ∃ p, ast = .Compare x [o, o'] [y, z] p := by
  unfold chS at h; split at h <;> first | (cases h; exact ⟨_, rfl⟩) | cases h
theorem andS_ok {p : Pos} (h : andS ast = some (x, y, l, p)) : ast = .BoolOp .And (x :: y :: l) p := by
  unfold andS at h; split at h <;> first | (cases h; rfl) | cases h
theorem orS_ok {p : Pos} (h : orS ast = some (x, y, l, p)) : ast = .BoolOp .Or (x :: y :: l) p := by
  unfold orS at h; split at h <;> first | (cases h; rfl) | cases h
theorem iteS_ok (h : iteS ast = some (z, x, y)) : ∃ p, ast = .IfExp z x y p := by
  unfold iteS at h; split at h <;> first | (cases h; exact ⟨_, rfl⟩) | cases h
theorem slcS_ok {a b : Option Expr} (h : slcS ast = some (x, a, b)) : ∃ p p2, ast = .Subscript x (.Slice a b none p2) p := by
  unfold slcS at h; split at h <;> first | (cases h; exact ⟨_, _, rfl⟩) | cases h
theorem tupS_ok (h : tupS ast = some l) : ∃ j p, ast = .Tuple l j p := by
  unfold tupS at h; split at h <;> first | (cases h; exact ⟨_, _, rfl⟩) | cases h
theorem lstS_ok (h : lstS ast = some l) : ∃ p, ast = .List l p := by
  unfold lstS at h; split at h <;> first | (cases h; exact ⟨_, rfl⟩) | cases h
theorem dicS_ok {ks : List (Option Expr)} (h : dicS ast = some (ks, l)) : ∃ p, ast = .Dict ks l p := by
  unfold dicS at h; split at h <;> first | (cases h; exact ⟨_, rfl⟩) | cases h
theorem attS_ok {f : Str} (h : attS ast = some (x, f)) : ∃ p, ast = .Attribute x f p := by
  unfold attS at h; split at h <;> first | (cases h; exact ⟨_, rfl⟩) | cases h
theorem callS_ok {f : Str} (h : callS ast = some (f, x, l)) : ∃ p p2, ast = .Call (.Name f p2) (x :: l) [] p := by
  unfold callS at h; split at h <;> first | (cases h; exact ⟨_, _, rfl⟩) | cases h
theorem callKS_ok {f : Str} {k : List Keyword} (h : callKS ast = some (f, l, k)) : ∃ p p2, ast = .Call (.Name f p2) l k p := by
  unfold callKS at h; split at h <;> first | (cases h; exact ⟨_, _, rfl⟩) | cases h
theorem popS_ok (h : popS ast = some (y, x)) : ∃ ap p, ast = .Call (.Attribute y "pop" ap) [x] [] p ∧ (ap.endLine == p.line) = true := by
  unfold popS at h
  split at h
  · split at h
    · rename_i hh; cases h; obtain ⟨rfl, h2⟩ := hh; exact ⟨_, _, rfl, h2⟩
    · cases h
  · cases h
theorem lcS1_ok {tg iter elt : Expr} {sc : Scope} (h : lcS1 ast = some (elt, tg, iter, l, sc)) : ∃ p, ast = .ListComp elt [⟨tg, iter, l, 0⟩] sc p := by
  unfold lcS1 at h
  split at h
  · split at h
    · rename_i hh; cases h; subst hh; exact ⟨_, rfl⟩
    · cases h
  · cases h
theorem fstS_ok (h : fstS ast = some l) : ∃ v1 v2 r p, l = v1 :: v2 :: r ∧ ast = .JoinedStr l p := by
  unfold fstS at h; split at h <;> first | (cases h; exact ⟨_, _, _, _, rfl, rfl⟩) | cases h
theorem fst1S_ok (h : fst1S ast = some x) : ∃ p p2, ast = .JoinedStr [.FormattedValue x (-1) none p2] p := by
  unfold fst1S at h
  split at h
  · split at h
    · rename_i hh; cases h; subst hh; exact ⟨_, _, rfl⟩
    · cases h
  · cases h
theorem csS_ok {s : Str} (h : csS ast = some s) : ∃ j p, ast = .Constant (.str s) j p := by
  unfold csS at h; split at h <;> first | (cases h; exact ⟨_, _, rfl⟩) | cases h
theorem fvS_ok (h : fvS ast = some x) : ∃ p, ast = .FormattedValue x (-1) none p := by
  unfold fvS at h
  split at h
  · split at h
    · rename_i hh; cases h; subst hh; exact ⟨_, rfl⟩
    · cases h
  · cases h
end
end Vf
end
section
namespace Vf
open PySem L2 PyProof.Rows
structure SndP (X : Cx) (c : Cc) (ξ : XK) (F : Fs) (ast : Expr) (e : E) : Prop where
  o : SndO X c ξ F ast e
  w : ∀ op es pos, ast = .BoolOp op es pos → PW X ast (tb1 c ξ F e)
section
variable {π : Pi} {c : Cc} {ξ : XK} {F : Fs} {n : Nat} {N fl : List Str} {ns : Ns} {X : Cx}
variable {a b e : Vf.E} {x y z tg ast : Expr} {pos p p2 : Pos}
theorem SndP.mk0 (o : SndO X c ξ F ast e) (h : ∀ op es pos, ast ≠ .BoolOp op es pos) : SndP X c ξ F ast e := ⟨o, fun op es pos q => absurd q (h op es pos)⟩
theorem SndO.of (s : Snd X c ξ F ast e) (h : ∀ env r, opd e r env = (r >>= fun p => .ok (.va p.1.2, p.2))) (hp : plain ast = true) : SndO X c ξ F ast e := ⟨s, Snd.op s.pe fun env => h env _, hp⟩
theorem plB_ok (g : Gd π c ξ F n N fl ns X) {i : Nat} (h : plB N fl ns i ast = true) : SndP X c ξ F ast (.var i) ∧ Plc X c i ast ∧ i < c.n := by
  unfold plB at h
  split at h
  · simp only [Bool.and_eq_true, decide_eq_true_eq] at h
    obtain ⟨s, o⟩ := snd_var g (pos := ‹Pos›) h.1.1 h.1.2 h.2
    exact ⟨.mk0 ⟨s, o, rfl⟩ (fun _ _ _ z => nomatch z), plc_name g h.1.1 h.1.2 h.2, by rw [← g.len]; exact (List.getElem?_eq_some_iff.mp h.1.1).1⟩
  · cases h
abbrev tPl0 (c : Cc) (i : Nat) : TE := fun σ H Q => ∃ v, loc c σ H i = some v ∧ (c.n ≤ i → ∃ x fs, c.self = some x ∧ H x = some (.ins c.selfC c.selfD fs) ∧ σ[0]? = some (some (.ref x))) ∧ Q v H
theorem flB_ok (g : Gd π c ξ F n N fl ns X) {i : Nat} {f : Str} (h : flB N fl ns i ast = true) : SndP X c ξ F ast (.fld i f) ∧ Plc X c i ast := by
  unfold flB at h
  split at h
  · rename_i x p f' p2
    simp only [Bool.and_eq_true, decide_eq_true_eq] at h
    obtain ⟨⟨⟨⟨h1, h2⟩, h3⟩, h4⟩, h5⟩ := h
    rw [g.len] at h4 h5
    have pl : Plc X c i (.Attribute (.Name x p) f' p2) := plc_fld g h1 h2 h3 h4 h5
    have ht : ∀ (env : Env) σ (G H : Hp) (Q : VK) v, Rel c env σ G H → loc c σ H i = some v → Q v H → (∃ p, getV env i = some p) → tPl0 c i σ H Q := fun env σ G H Q v R hl q _ => ⟨v, hl, R.place hl, q⟩
    have s : Snd X c ξ F (.Attribute (.Name x p) f' p2) (.fld i f) := Snd.mk1 g rfl (PE.imp pl.pe fun σ H Q w => T_place ht (fun _ => by simp only [evalE]) w)
    exact ⟨.mk0 ⟨s, PE.imp pl.pe fun σ H Q w => TO_place ht (fun _ => rfl) w, rfl⟩ (fun _ _ _ z => nomatch z), pl⟩
  · cases h
theorem pfB_ok (g : Gd π c ξ F n N fl ns X) {i : Nat} (h : pfB N fl ns i ast = true) : Plc X c i ast := by
  unfold pfB at h
  rw [Bool.or_eq_true] at h
  rcases h with h | h
  · exact (plB_ok g h).2.1
  · exact (flB_ok (f := "") g h).2
theorem isNop_ok {e : E} (h : isNop e = true) : e = .nop := by cases e <;> first | rfl | cases h
theorem istA_ok (g : Gd π c ξ F n N fl ns X) {t : Ty} (h : istA π ns t ast = some x) (ha : SndO X c ξ F x a) : SndO X c ξ F ast (.ist a t) := by
  unfold istA at h
  split at h
  · split at h
    · rename_i tn ht
      split at h
      · rename_i hh
        obtain ⟨rfl, rfl, h1, h2⟩ := hh
        cases h
        have hv : bootBuiltins (Str.ofString tn) = some (.type tn) := by
          cases t <;> simp only [tyN, Option.some.injEq, reduceCtorEq] at ht <;> subst ht <;> decide +kernel
        exact .of (snd_ist g ht hv h1 h2 ha.p ha.o) (fun _ _ => rfl) rfl
      · cases h
    · split at h
      · split at h
        · rename_i hh
          obtain ⟨rfl, rfl, h1, h2, h3, h4⟩ := hh
          cases h
          exact .of (snd_isto g h1 (g.ob.gcl _ _ h1) h2 h3 h4 ha.p ha.o) (fun _ _ => rfl) rfl
        · cases h
      · cases h
  · cases h
theorem all_plain {xs : List Expr} (h : xs.all plain = true) (p : Pos) (env : PySem.Env) : ((backTo p (starEach xs env)).any (·.1)) = false := by
  induction xs with
  | nil => rfl
  | cons x r ih =>
    simp only [List.all_cons, Bool.and_eq_true] at h
    rw [star_plain h.1]
    show (false || _) = false
    rw [Bool.false_or]
    exact ih h.2
theorem chkE_nop {π : Pi} {io : Nat → List Bool} {ns : Ns} (h : chkE π io N fl ns e ast = true) : e ≠ .nop := fun z => by
  subst z
  simp [chkE] at h
theorem tv_mono {σ : L2.St} {H : Hp} {Q Q' : VK} (w : tv c ξ F e σ H Q) (k : ∀ v H', Q v H' → Q' v H') : tv c ξ F e σ H Q' := by
  obtain ⟨env, G, R, w⟩ := w
  exact ⟨env, G, R, w.mono fun p w G' H' v R' g ok => k _ _ (w G' H' v R' g ok)⟩
theorem itA_ok (g : Gd π c ξ F n N fl ns X) {k : IK} {iter : Expr} {oy : Option Expr} (h : itA π ns k tg iter = some (x, oy)) (ha : SndO X c ξ F x a) (hb : ∀ y, oy = some y → SndO X c ξ F y b ∧ b ≠ .nop) (hn : oy = none → b = .nop) : PI X tg iter (ti c ξ F k a b) := by
  cases k <;> simp only [itA, reduceCtorEq, Option.some.injEq, Prod.mk.injEq] at h
  · obtain ⟨rfl, rfl⟩ := h
    rw [hn rfl]
    exact spi_val g ha.o
  · split at h <;> first | (cases h; done) | skip
    split at h <;> first | (cases h; done) | skip
    rename_i hh
    cases h
    obtain ⟨rfl, hf⟩ := hh
    obtain ⟨g1, m1, f1⟩ := inF_ok hf
    rw [hn rfl]
    exact spi_rng1 g g1 f1 ha.p ha.o
  · split at h <;> first | (cases h; done) | skip
    split at h <;> first | (cases h; done) | skip
    rename_i hh
    cases h
    obtain ⟨rfl, hf⟩ := hh
    obtain ⟨g1, m1, f1⟩ := inF_ok hf
    obtain ⟨q1, q2⟩ := hb _ rfl
    exact spi_rng2 g g1 f1 ha.p q1.p q2 ha.o q1.o
  · split at h <;> first | (cases h; done) | skip
    split at h <;> first | (cases h; done) | skip
    split at h <;> first | (cases h; done) | skip
    rename_i hh
    cases h
    obtain ⟨rfl, hf⟩ := hh
    obtain ⟨g1, m1, f1⟩ := inF_ok hf
    obtain ⟨q1, q2⟩ := hb _ rfl
    exact spi_zip g g1 f1 ha.p q1.p q2 ha.o q1.o
  · split at h <;> first | (cases h; done) | skip
    split at h <;> first | (cases h; done) | skip
    split at h <;> first | (cases h; done) | skip
    rename_i hh
    cases h
    obtain ⟨rfl, hf⟩ := hh
    obtain ⟨g1, m1, f1⟩ := inF_ok hf
    rw [hn rfl]
    exact spi_enum g g1 f1 ha.p ha.o
  · split at h <;> first | (cases h; done) | skip
    split at h <;> first | (cases h; done) | skip
    split at h <;> first | (cases h; done) | skip
    rename_i hh
    cases h
    obtain ⟨rfl, rfl, hf⟩ := hh
    obtain ⟨g1, m1, f1⟩ := inF_ok hf
    obtain ⟨q1, q2⟩ := hb _ rfl
    exact spi_enumK g g1 f1 ha.p q2 ha.o q1.o
mutual
theorem sndE {io : Nat → List Bool} : ∀ (e : Vf.E) {ast : Expr} {X : Cx} {ns : Ns} {ξ : XK}, Gd π c ξ F n N fl ns X → F.ino = io → chkE π io N fl ns e ast = true → SndP X c ξ F ast e
  | .nop, ast, X, ns, ξ, g, hi, h => by simp [chkE] at h
  | .var i, ast, X, ns, ξ, g, hi, h => (plB_ok g (by simpa only [chkE] using h)).1
  | .fld i f, ast, X, ns, ξ, g, hi, h => (flB_ok g (by simpa only [chkE] using h)).1
  | .con k, ast, X, ns, ξ, g, hi, h => by
    simp only [chkE] at h
    split at h <;> first | (cases h; done) | skip
    rename_i cst hc
    obtain ⟨j, p, rfl⟩ := conS_ok hc
    refine .mk0 (.of (snd_con g ?_) (fun _ _ => rfl) rfl) (fun _ _ _ z => nomatch z)
    cases k <;> cases cst <;> simp only [conB, Bool.false_eq_true, beq_iff_eq, decide_eq_true_eq] at h
    · exact pe_non
    · subst h; exact pe_bl
    · subst h; exact pe_int
    · subst h; exact pe_str
  | .glo x k, ast, X, ns, ξ, g, hi, h => by
    simp only [chkE] at h
    split at h <;> first | (cases h; done) | skip
    rename_i y hy
    obtain ⟨p, rfl⟩ := gloS_ok hy
    simp only [Bool.and_eq_true, decide_eq_true_eq] at h
    obtain ⟨⟨⟨rfl, h1⟩, h2⟩, h3⟩ := h
    exact .mk0 (.of (snd_glo g h1 h2 h3) (fun _ _ => rfl) rfl) (fun _ _ _ z => nomatch z)
  | .un o a, ast, X, ns, ξ, g, hi, h => by
    simp only [chkE] at h
    split at h
    · rename_i x hx
      exact .mk0 (unA_ok g hx (sndE a g hi h).o) fun op es pos z => by subst z; simp [unA] at hx
    · cases h
  | .not a, ast, X, ns, ξ, g, hi, h => by
    simp only [chkE] at h
    split at h <;> first | (cases h; done) | skip
    rename_i y hy
    obtain ⟨p, rfl⟩ := notS_ok hy
    exact .mk0 (.of (snd_not g (sndE a g hi h).o.s) (fun _ _ => rfl) rfl) (fun _ _ _ z => nomatch z)
  | .mt0 o a, ast, X, ns, ξ, g, hi, h => by
    simp only [chkE] at h
    split at h
    · rename_i x hx
      exact .mk0 (m0A_ok g hx (sndE a g hi h).o) fun op es pos z => by subst z; simp [m0A] at hx
    · cases h
  | .mt1 o a b, ast, X, ns, ξ, g, hi, h => by
    simp only [chkE] at h
    split at h
    · rename_i x y hx
      rw [Bool.and_eq_true] at h
      exact .mk0 (m1A_ok g hx (sndE a g hi h.1).o (sndE b g hi h.2).o) fun op es pos z => by subst z; simp [m1A] at hx
    · cases h
  | .bi o a b, ast, X, ns, ξ, g, hi, h => by
    simp only [chkE] at h
    split at h
    · rename_i x y hx
      rw [Bool.and_eq_true] at h
      exact .mk0 (biA_ok g hx (sndE a g hi h.1).o (sndE b g hi h.2).o) fun op es pos z => by subst z; simp [biA] at hx
    · cases h
  | .ch o o' a b e, ast, X, ns, ξ, g, hi, h => by
    simp only [chkE] at h
    split at h <;> first | (cases h; done) | skip
    rename_i x op op' y z hy
    obtain ⟨p, rfl⟩ := chS_ok hy
    simp only [Bool.and_eq_true, decide_eq_true_eq] at h
    obtain ⟨⟨⟨⟨⟨⟨h1, h2⟩, h3⟩, h4⟩, h5⟩, h6⟩, h7⟩ := h
    exact .mk0 (snd_ch g h1 h2 h3 h4 (sndE a g hi h5).o (sndE b g hi h6).o (sndE e g hi h7).o) (fun _ _ _ z => nomatch z)
  | .and a b, ast, X, ns, ξ, g, hi, h => by
    simp only [chkE] at h
    split at h <;> first | (cases h; done) | skip
    rename_i x y r pos hy
    obtain rfl := andS_ok hy
    rw [Bool.and_eq_true] at h
    have sa := (sndE a g hi h.1).o.s
    have sb : SndB X c ξ F .And (y :: r) pos b := by
      have h2 := h.2
      cases r with
      | nil => exact sndb_one (sndE b g hi h2).o.s
      | cons z r =>
        have q := sndE b g hi h2
        exact ⟨q.o.s.pe, q.w _ _ _ rfl⟩
    have s := sndb_and g sa sb
    exact ⟨.of s.snd (fun _ _ => rfl) rfl, fun _ _ _ _ => s.pw⟩
  | .or a b, ast, X, ns, ξ, g, hi, h => by
    simp only [chkE] at h
    split at h <;> first | (cases h; done) | skip
    rename_i x y r pos hy
    obtain rfl := orS_ok hy
    rw [Bool.and_eq_true] at h
    have sa := (sndE a g hi h.1).o.s
    have sb : SndB X c ξ F .Or (y :: r) pos b := by
      have h2 := h.2
      cases r with
      | nil => exact sndb_one (sndE b g hi h2).o.s
      | cons z r =>
        have q := sndE b g hi h2
        exact ⟨q.o.s.pe, q.w _ _ _ rfl⟩
    have s := sndb_or g sa sb
    exact ⟨.of s.snd (fun _ _ => rfl) rfl, fun _ _ _ _ => s.pw⟩
  | .ite t a b, ast, X, ns, ξ, g, hi, h => by
    simp only [chkE] at h
    split at h <;> first | (cases h; done) | skip
    rename_i z x y hy
    obtain ⟨p, rfl⟩ := iteS_ok hy
    simp only [Bool.and_eq_true] at h
    exact .mk0 (.of (snd_ite' g (sndE t g hi h.1.1).o.s (sndE a g hi h.1.2).o.s (sndE b g hi h.2).o.s) (fun _ _ => rfl) rfl) (fun _ _ _ z => nomatch z)
  | .slc a lo hi', ast, X, ns, ξ, g, hi, h => by
    simp only [chkE] at h
    split at h <;> first | (cases h; done) | skip
    rename_i x l u hy
    obtain ⟨p, p2, rfl⟩ := slcS_ok hy
    simp only [Bool.and_eq_true] at h
    obtain ⟨⟨h1, h2⟩, h3⟩ := h
    have s1 : PO X l (part1 c ξ F lo) := by
      cases l with
      | none => rw [isNop_ok h2]; exact spart_none
      | some y => exact spart_some (chkE_nop h2) (sndE lo g hi h2).o.s.pe
    have s2 : PO X u (part1 c ξ F hi') := by
      cases u with
      | none => rw [isNop_ok h3]; exact spart_none
      | some y => exact spart_some (chkE_nop h3) (sndE hi' g hi h3).o.s.pe
    exact .mk0 (.of (snd_slc g (sndE a g hi h1).o.o s1 s2) (fun _ _ => rfl) rfl) (fun _ _ _ z => nomatch z)
  | .tup es, ast, X, ns, ξ, g, hi, h => by
    simp only [chkE] at h
    split at h <;> first | (cases h; done) | skip
    rename_i y hy
    obtain ⟨j, p, rfl⟩ := tupS_ok hy
    exact .mk0 (.of (snd_tup g (sndEs es g hi h)) (fun _ _ => rfl) rfl) (fun _ _ _ z => nomatch z)
  | .lst es, ast, X, ns, ξ, g, hi, h => by
    simp only [chkE] at h
    split at h <;> first | (cases h; done) | skip
    rename_i y hy
    obtain ⟨p, rfl⟩ := lstS_ok hy
    exact .mk0 (.of (snd_lst g (sndEs es g hi h)) (fun _ _ => rfl) rfl) (fun _ _ _ z => nomatch z)
  | .dic ks es, ast, X, ns, ξ, g, hi, h => by
    simp only [chkE] at h
    split at h <;> first | (cases h; done) | skip
    rename_i keys xs hy
    obtain ⟨p, rfl⟩ := dicS_ok hy
    simp only [Bool.and_eq_true, decide_eq_true_eq] at h
    obtain ⟨h1, h2⟩ := h
    obtain ⟨q1, q2, q3, q4, q5⟩ := sndD (pos := p) es g hi h1
    cases ks with
    | nil =>
      obtain rfl : keys = [] := List.eq_nil_of_length_eq_zero (by simpa using q5)
      obtain rfl : xs = [] := List.eq_nil_of_length_eq_zero (by rw [← q4]; rfl)
      cases es with
      | cons e r => simp [lenEs] at q2
      | nil =>
        exact .mk0 (.of (Snd.mk1 g rfl (PE.imp pe_dnewK fun σ H Q w => by
          obtain ⟨env, G, R, w⟩ := w
          simp only [evalE, evalEs, Vf.R.bind_ok] at w
          obtain ⟨_, w⟩ := PR.chk w
          intro d hd
          obtain ⟨R1, ok⟩ := R.new (New.dic R.ex hd .nil)
          exact (show ∀ G' H' v, _ from w) G _ _ R1 (R.gr (New.dic (k := c.toKc) R.ex hd .nil)) ok)) (fun _ _ => rfl) rfl) (fun _ _ _ z => nomatch z)
    | cons k0 ks => exact .mk0 (.of (snd_dic g q2 h2 (pe_disp q1 q3 q4 (fun z => by rw [z] at q5; simp at q5) (by omega))) (fun _ _ => rfl) rfl) (fun _ _ _ z => nomatch z)
  | .att a k f, ast, X, ns, ξ, g, hi, h => by
    simp only [chkE] at h
    split at h <;> first | (cases h; done) | skip
    rename_i x f' hy
    obtain ⟨p, rfl⟩ := attS_ok hy
    simp only [Bool.and_eq_true, decide_eq_true_eq] at h
    obtain ⟨⟨rfl, h2⟩, h3⟩ := h
    have q := (sndE a g hi h3).o
    exact .mk0 (.of (snd_att g q.p (g.atts _ _ h2) q.s.pe) (fun _ _ => rfl) rfl) (fun _ _ _ z => nomatch z)
  | .ist a t, ast, X, ns, ξ, g, hi, h => by
    simp only [chkE] at h
    split at h
    · rename_i x hx
      exact .mk0 (istA_ok g hx (sndE a g hi h).o) fun op es pos z => by subst z; simp [istA] at hx
    · cases h
  | .call f es kw, ast, X, ns, ξ, g, hi, h => by
    simp only [chkE] at h
    split at h <;> first | (cases h; done) | skip
    rename_i nm x xs hy
    obtain ⟨pos, p2, rfl⟩ := callS_ok hy
    simp only [Bool.and_eq_true, decide_eq_true_eq] at h
    obtain ⟨⟨⟨⟨h1, h2⟩, h3⟩, h4⟩, h5⟩ := h
    obtain rfl : kw = [] := by simpa using h1
    subst hi
    obtain ⟨q1, q2, q3⟩ := sndAs es g rfl h5
    exact .mk0 (.of (snd_call g h2 h3 h4 (q2 x xs rfl).1 (fun env => (q2 x xs rfl).2 _ env) q1) (fun _ _ => rfl) rfl) (fun _ _ _ z => nomatch z)
  | .callK f es es2 ks pm, ast, X, ns, ξ, g, hi, h => by
    simp only [chkE] at h
    split at h <;> first | (cases h; done) | skip
    rename_i nm xs kws hy
    obtain ⟨pos, p2, rfl⟩ := callKS_ok hy
    simp only [Bool.and_eq_true, decide_eq_true_eq] at h
    obtain ⟨⟨⟨⟨⟨⟨⟨h1, h2⟩, h3⟩, h4⟩, h5⟩, h6⟩, h7⟩, h8⟩ := h
    split at h8 <;> first | (cases h8; done) | skip
    rename_i ks' vs hkw
    simp only [Bool.and_eq_true, decide_eq_true_eq] at h8
    obtain ⟨rfl, h8⟩ := h8
    refine .mk0 (.of (snd_callK g h1 h2 h3 h4 hkw (fun z => ?_) h5 (List.all_eq_true.mp h6) (sndEs es g hi h7) (sndKs es2 g hi hkw h8)).1 (fun _ _ => rfl) ?_) (fun _ _ _ z => nomatch z)
    · subst z
      cases es <;> first | rfl | (simp [chkEs] at h7; done)
    · cases kws with
      | nil => simp [callKS] at hy
      | cons _ _ => simp [plain]
  | .cal1 f e, ast, X, ns, ξ, g, hi, h => by
    simp only [chkE] at h
    split at h <;> first | (cases h; done) | skip
    rename_i nm x hy
    obtain ⟨pos, p2, rfl⟩ := callS_ok hy
    simp only [Bool.and_eq_true, decide_eq_true_eq] at h
    obtain ⟨⟨⟨h1, h2⟩, h3⟩, h4⟩ := h
    have o := (sndE e g hi h4).o
    exact .mk0 (.of (snd_cal1 g h1 h2 h3 o.p o.s.pe) (fun _ _ => rfl) rfl) (fun _ _ _ z => nomatch z)
  | .mk k es kw, ast, X, ns, ξ, g, hi, h => by
    simp only [chkE] at h
    split at h
    · rename_i nm x xs hy
      obtain ⟨pos, p2, rfl⟩ := callS_ok hy
      simp only [Bool.and_eq_true, decide_eq_true_eq] at h
      obtain ⟨⟨⟨⟨⟨h1, h2⟩, h3⟩, h4⟩, h5⟩, h6⟩ := h
      exact .mk0 (.of (snd_mk g h1 h2 h3 h4 (all_plain h5 _ _) (sndEs es g hi h6)) (fun _ _ => rfl) rfl) (fun _ _ _ z => nomatch z)
    · split at h <;> first | (cases h; done) | skip
      rename_i nm kws hy
      obtain ⟨pos, p2, rfl⟩ := callKS_ok hy
      simp only [Bool.and_eq_true, decide_eq_true_eq] at h
      obtain ⟨⟨⟨⟨⟨h1, h2⟩, h3⟩, h4⟩, h5⟩, h6⟩ := h
      split at h6 <;> first | (cases h6; done) | skip
      rename_i ks' vs hkw
      simp only [Bool.and_eq_true, decide_eq_true_eq] at h6
      obtain ⟨rfl, h6⟩ := h6
      refine .mk0 (.of (snd_mkK g h1 h2 h3 h4 h5 hkw (sndKs es g hi hkw h6)) (fun _ _ => rfl) ?_) (fun _ _ _ z => nomatch z)
      cases kws with
      | nil => simp [callKS] at hy
      | cons _ _ => simp [plain]
  | .cmo ne k m a b, ast, X, ns, ξ, g, hi, h => by
    simp only [chkE] at h
    split at h <;> first | (cases h; done) | skip
    rename_i x y hy
    obtain ⟨p, rfl⟩ := cmoS_ok hy
    simp only [Bool.and_eq_true, decide_eq_true_eq] at h
    obtain ⟨⟨⟨⟨⟨rfl, h2⟩, h3⟩, h4⟩, h5⟩, h6⟩ := h
    exact .mk0 (.of (snd_cmo g h2 h4 (sndE a g hi h5).o.s.pe (sndE b g hi h6).o.s.pe (g.ob.eqx k h3)) (fun _ _ => rfl) rfl) (fun _ _ _ z => nomatch z)
  | .hold a, ast, X, ns, ξ, g, hi, h => by
    simp only [chkE] at h
    have q := sndE a g hi h
    have e : ∀ env, evalE F (.hold a) env = evalE F a env := fun env => by simp only [evalE]
    have e1 : tv c ξ F (.hold a) = tv c ξ F a := by unfold tv; simp only [e]
    have e2 : tb1 c ξ F (.hold a) = tb1 c ξ F a := by unfold tb1; simp only [e]
    have s : Snd X c ξ F ast (.hold a) := ⟨by rw [e1]; exact q.o.s.pe, by rw [e2]; exact q.o.s.pt⟩
    exact ⟨.of s (fun _ _ => rfl) q.o.p, fun op es pos z => by rw [e2]; exact q.w op es pos z⟩
  | .leno k a, ast, X, ns, ξ, g, hi, h => by
    simp only [chkE] at h
    split at h <;> first | (cases h; done) | skip
    rename_i x hy
    obtain ⟨p, p2, rfl⟩ := len1S_ok hy
    simp only [Bool.and_eq_true, decide_eq_true_eq] at h
    obtain ⟨⟨⟨⟨h1, h2⟩, h3⟩, h4⟩, h5⟩ := h
    exact .mk0 (.of (snd_leno g h1 h3 h4 (sndE a g hi h5).o.s.pe (g.ob.lnx k h2)) (fun _ _ => rfl) rfl) (fun _ _ _ z => nomatch z)
  | .prop i j own, ast, X, ns, ξ, g, hi, h => by
    simp only [chkE, Bool.and_eq_true] at h
    refine .mk0 (.of (snd_prop g h.1.1 h.1.2) (fun _ _ => rfl) h.2) (fun op es pos z => ?_)
    subst z
    rw [chkPr_bool] at h
    exact absurd h.1.1 Bool.false_ne_true
  | .dcm _ _ _ _ _ _ _ _, ast, X, ns, ξ, g, hi, h => by simp [chkE] at h
  | .pop i a, ast, X, ns, ξ, g, hi, h => by
    simp only [chkE] at h
    split at h <;> first | (cases h; done) | skip
    rename_i y x hy
    obtain ⟨ap, pos, rfl, hl⟩ := popS_ok hy
    rw [Bool.and_eq_true] at h
    have q2 := pfB_ok g h.1
    have q := (sndE a g hi h.2).o
    exact .mk0 (.of (snd_pop g q2 q.p hl q.o) (fun _ _ => rfl) rfl) (fun _ _ _ z => nomatch z)
  | .lc k a b p cnd e own, ast, X, ns, ξ, g, hi, h => by
    simp only [chkE] at h
    split at h <;> first | (cases h; done) | skip
    rename_i elt tg iter ifs scope hy
    obtain ⟨pos, rfl⟩ := lcS1_ok hy
    simp only [Bool.and_eq_true, decide_eq_true_eq] at h
    obtain ⟨⟨⟨⟨⟨⟨h1, h2⟩, h3⟩, h4⟩, h5⟩, h6⟩, h7⟩ := h
    have ok := blkB_ok g h3.1
    have hw := ownB_ok g h3.1 h3.2
    have hpi : PI X tg iter (ti c ξ F k a b) := by
      split at h2
      · rename_i x oy hx
        rw [Bool.and_eq_true] at h2
        have h22 := h2.2
        cases oy with
        | none => exact itA_ok g hx (sndE a g hi h2.1).o (fun y hy' => nomatch hy') fun _ => isNop_ok h22
        | some y0 =>
          have q := (sndE b g hi h22).o
          exact itA_ok g hx (sndE a g hi h2.1).o (fun y hy' => by cases hy'; exact ⟨q, chkE_nop h22⟩) fun hy' => nomatch hy'
      · cases h2
    have gb := fun s H C cl fp => g.blk scope ok.kind s H C cl fp
    have hcnd : ∀ (s : Shared) (H : Hp) (C : Addr) (cl : List (Str × Addr)) (fp : List Addr), PTs (X.blk s H scope (compEnvC scope cl C X.env) fp) ifs (tcnd c F cnd) := fun s H C cl fp => by
      cases ifs with
      | nil => rw [isNop_ok h6]; exact pts_nil
      | cons t r =>
        cases r with
        | nil =>
          have q := (sndE cnd (gb s H C cl fp) hi h6).o.s.pt
          have hn := chkE_nop h6
          have e1 : tcnd c F cnd = tb1 c E0 F cnd := by cases cnd <;> first | rfl | exact absurd rfl hn
          rw [e1]
          exact pts_one q
        | cons _ _ => cases h6
    have he : ∀ (s : Shared) (H : Hp) (C : Addr) (cl : List (Str × Addr)) (fp : List Addr), PE (X.blk s H scope (compEnvC scope cl C X.env) fp) elt (tv c E0 F e) := fun s H C cl fp => (sndE e (gb s H C cl fp) hi h7).o.s.pe
    have hp : ∀ (s : Shared) (H : Hp) (C : Addr) (cl : List (Str × Addr)) (fp : List Addr), PG (X.blk s H scope (compEnvC scope cl C X.env) fp) tg (gPat c.K p) := fun s H C cl fp => (chkP_ok (gb s H C cl fp) p h4).1
    have hn : ∀ i ∈ slotsP p, Sl c i := (chkP_ok (gb X.s_0 X.H_0 0 [] []) p h4).2
    exact .mk0 (.of (Snd.mk1 g rfl (PE.imp (pe_lc g.calm (by rw [g.hN]; exact g.nd) hpi ok hp hcnd he (hash_plain h1 _)) fun σ H Q w => lc_read hn hw h5 w)) (fun _ _ => rfl) rfl) (fun _ _ _ z => nomatch z)
  | .fst es, ast, X, ns, ξ, g, hi, h => by
    simp only [chkE] at h
    split at h
    · rename_i xs hy
      obtain ⟨v1, v2, r, p, rfl, rfl⟩ := fstS_ok hy
      obtain ⟨fs, q1, q2⟩ := sndF es g hi h
      exact .mk0 (.of (snd_fst g q1 (pe_joined q2)) (fun _ _ => rfl) rfl) (fun _ _ _ z => nomatch z)
    · split at h <;> first | (cases h; done) | skip
      rename_i x hy
      obtain ⟨p, p2, rfl⟩ := fst1S_ok hy
      obtain ⟨e, rfl, q⟩ := sndF1 es g hi h
      have h0 : PE X (.JoinedStr [.FormattedValue x (-1) none p2] p) (tFmt (tv c ξ F e)) := pe_joined1 (pe_fmt q)
      refine .mk0 (.of (snd_fst g (fs := [true]) rfl (PE.imp h0 fun σ H Q w => ?_)) (fun _ _ => rfl) rfl) (fun _ _ _ z => nomatch z)
      have w' : tFmt (tv c ξ F e) σ H fun v H1 => ∃ y, v = .str y ∧ (Str.empty ++ y).length ≤ sizeLine ∧ Q (.str (Str.empty ++ y)) H1 := w
      have ee : ∀ y : Str, Str.empty ++ y = y := fun y => by
        obtain ⟨⟨l⟩⟩ := y
        show Str.mk (#[] ++ Array.mk l) = _
        simp
      unfold tFmt at w' ⊢
      revert w'
      refine fun w' => ?_
      exact tv_mono w' fun v H1 z => by
        rcases z with ⟨y, e1, e2, y', e3, e4, e5⟩ | ⟨i, e1, e2, y', e3, e4, e5⟩
        · cases e3; rw [ee] at e5; exact .inl ⟨_, e1, e2, e5⟩
        · cases e3; rw [ee] at e5; exact .inr ⟨_, e1, e2, e5⟩
theorem sndEs {io : Nat → List Bool} : ∀ (es : Vf.Es) {xs : List Expr} {X : Cx} {ns : Ns} {ξ : XK}, Gd π c ξ F n N fl ns X → F.ino = io → chkEs π io N fl ns es xs = true → PA X xs (ta1 c ξ F es)
  | .nil, xs, X, ns, ξ, g, hi, h => by
    cases xs <;> first | exact sas_nil | (simp [chkEs] at h; done)
  | .cons e r, xs, X, ns, ξ, g, hi, h => by
    cases xs with
    | nil => simp [chkEs] at h
    | cons x xs =>
      simp only [chkEs, Bool.and_eq_true] at h
      have q := (sndE e g hi h.1).o
      exact sas_cons q.p q.s.pe (sndEs r g hi h.2)
theorem sndKs {io : Nat → List Bool} : ∀ (es : Vf.Es) {kws : List Keyword} {ks : List Str} {xs : List Expr} {X : Cx} {ns : Ns} {ξ : XK}, Gd π c ξ F n N fl ns X → F.ino = io → kwS kws = some (ks, xs) → chkEs π io N fl ns es xs = true → PK X kws (ta1 c ξ F es)
  | .nil, kws, ks, xs, X, ns, ξ, g, hi, hk, h => by
    cases kws with
    | nil => exact spk_nil
    | cons k r =>
      obtain ⟨nm, e, q⟩ := k
      cases nm with
      | none => cases hk
      | some y =>
        simp only [kwS, Option.map_eq_some_iff] at hk
        obtain ⟨p, _, h2⟩ := hk
        cases h2
        simp [chkEs] at h
  | .cons e r, kws, ks, xs, X, ns, ξ, g, hi, hk, h => by
    cases kws with
    | nil => cases hk; simp [chkEs] at h
    | cons k t =>
      obtain ⟨nm, x, q⟩ := k
      cases nm with
      | none => cases hk
      | some y =>
        simp only [kwS, Option.map_eq_some_iff] at hk
        obtain ⟨p, h1, h2⟩ := hk
        cases h2
        simp only [chkEs, Bool.and_eq_true] at h
        exact spk_cons (sndE e g hi h.1).o.s.pe (sndKs r g hi h1 h.2)
theorem sndD {io : Nat → List Bool} {pos : Pos} : ∀ (es : Vf.Es) {ks : List Str} {keys : List (Option Expr)} {xs : List Expr} {X : Cx} {ns : Ns} {ξ : XK}, Gd π c ξ F n N fl ns X → F.ino = io → chkD π io N fl ns es ks keys xs = true →
    PPs X pos keys xs (trsD c ξ F ks es) ∧ ks.length = lenEs es ∧ (keys.all (·.isSome)) = true ∧ keys.length = xs.length ∧ keys.length = ks.length
  | .nil, ks, keys, xs, X, ns, ξ, g, hi, h => by
    simp only [chkD, Bool.and_eq_true, List.isEmpty_iff] at h
    obtain ⟨⟨rfl, rfl⟩, rfl⟩ := h
    exact ⟨pps_nil, rfl, rfl, rfl, rfl⟩
  | .cons e r, ks, keys, xs, X, ns, ξ, g, hi, h => by
    simp only [chkD] at h
    split at h <;> first | (cases h; done) | skip
    simp only [Bool.and_eq_true] at h
    obtain ⟨⟨h1, h2⟩, h3⟩ := h
    split at h1 <;> first | (cases h1; done) | skip
    rename_i s hs
    obtain ⟨j, p, rfl⟩ := csS_ok hs
    obtain rfl := of_decide_eq_true h1
    obtain ⟨q1, q2, q3, q4, q5⟩ := sndD (pos := pos) r g hi h3
    exact ⟨pps_cons pe_str (sndE e g hi h2).o.s.pe q1, by simp [lenEs, q2], by simpa using q3, by simp [q4], by simp [q5]⟩
theorem sndAs {io : Nat → List Bool} : ∀ (es : Vf.Es) {fs : List Bool} {xs : List Expr} {X : Cx} {ns : Ns} {ξ : XK}, Gd π c ξ F n N fl ns X → F.ino = io → chkAs π io N fl ns es fs xs = true →
    PA X xs (tas c ξ F fs es) ∧ (∀ x r, xs = x :: r → plain x = true ∧ ∀ (p : Pos) env, ((backTo p (starEach r env)).any (·.1)) = false) ∧ ∀ (p : Pos) env, ((backTo p (starEach xs env)).any (·.1)) = false
  | .nil, fs, xs, X, ns, ξ, g, hi, h => by
    simp only [chkAs, Bool.and_eq_true, List.isEmpty_iff] at h
    obtain ⟨rfl, rfl⟩ := h
    exact ⟨sar_nil, fun _ _ z => (nomatch z), fun _ _ => rfl⟩
  | .cons e r, fs, xs, X, ns, ξ, g, hi, h => by
    simp only [chkAs] at h
    split at h <;> first | (cases h; done) | skip
    · rename_i fs x xs
      rw [Bool.and_eq_true] at h
      obtain ⟨h1, h2⟩ := h
      obtain ⟨q1, q2, q3⟩ := sndAs r g hi h2
      cases e <;> first | (cases h1; done) | skip
      have h1' : plB N fl ns _ x = true := h1
      have hpl := (plB_ok g h1').2.1.pl
      unfold plB at h1'
      split at h1' <;> first | (cases h1'; done) | skip
      simp only [Bool.and_eq_true, decide_eq_true_eq] at h1'
      refine ⟨sar_ino g h1'.1.1 h1'.1.2 h1'.2 q1, fun x r z => ?_, fun p env => ?_⟩
      · cases z; exact ⟨rfl, q3⟩
      · rw [star_plain rfl]; exact q3 p env
    · rename_i fs x xs
      rw [Bool.and_eq_true] at h
      obtain ⟨h1, h2⟩ := h
      obtain ⟨q1, q2, q3⟩ := sndAs r g hi h2
      have q := (sndE e g hi h1).o
      refine ⟨sar_va q.p q.s.pe q1, fun x r z => ?_, fun p env => ?_⟩
      · cases z; exact ⟨q.p, q3⟩
      · rw [star_plain q.p]; exact q3 p env
theorem sndF {io : Nat → List Bool} : ∀ (es : Vf.Es) {xs : List Expr} {X : Cx} {ns : Ns} {ξ : XK}, Gd π c ξ F n N fl ns X → F.ino = io → chkF π io N fl ns es xs = true → ∃ fs, okF fs es = true ∧ PJ X xs (tsF c ξ F fs es)
  | .nil, xs, X, ns, ξ, g, hi, h => by
    simp only [chkF, List.isEmpty_iff] at h
    subst h
    exact ⟨[], rfl, .nil⟩
  | .cons e r, xs, X, ns, ξ, g, hi, h => by
    simp only [chkF] at h
    split at h <;> first | (cases h; done) | skip
    rw [Bool.and_eq_true] at h
    obtain ⟨h1, h2⟩ := h
    obtain ⟨fs, q1, q2⟩ := sndF r g hi h2
    split at h1
    · rename_i y hy
      obtain ⟨p, rfl⟩ := fvS_ok hy
      exact ⟨true :: fs, q1, .cons (pe_fmt (sndE e g hi h1).o.s.pe) q2⟩
    · split at h1 <;> first | (cases h1; done) | skip
      rename_i s hs
      obtain ⟨j, p, rfl⟩ := csS_ok hs
      split at h1 <;> first | (cases h1; done) | skip
      obtain rfl := of_decide_eq_true h1
      exact ⟨false :: fs, by simp [okF, isCS, q1], .cons (snd_con g pe_str).pe q2⟩
theorem sndF1 {io : Nat → List Bool} : ∀ (es : Vf.Es) {x : Expr} {X : Cx} {ns : Ns} {ξ : XK}, Gd π c ξ F n N fl ns X → F.ino = io → chkF1 π io N fl ns es x = true → ∃ e, es = .cons e .nil ∧ PE X x (tv c ξ F e)
  | .nil, x, X, ns, ξ, g, hi, h => by simp [chkF1] at h
  | .cons e r, x, X, ns, ξ, g, hi, h => by
    simp only [chkF1, Bool.and_eq_true] at h
    obtain ⟨h1, h2⟩ := h
    split at h2 <;> first | (cases h2; done) | skip
    exact ⟨e, rfl, (sndE e g hi h1).o.s.pe⟩
end
end
end Vf
end
section
namespace PySem.SeqAt
open AutoSeq1 (wpAny_loadPart')
open MeetsSeq MeetsSeq2 MeetsSeq3 SeqRoads2 PyProof.Rows
theorem remove_loopAt (l : Addr) (items : Array Value) (n : Nat) (x : Value) (j : Nat) (hj : j < items.size) (k : Nat) (hs1 : items.size ≤ sizeLine) :
    ∀ i : Nat, j - i = k → i ≤ j → Meets (Builtin.«list.remove.loop» ⟨[.ref l, x, rawInt i], []⟩)
      (fun A R s => s.heap.get? l = some { cls := .type "list", dict := none, data := .seq items n, slots := #[] } ∧ (∀ m (hm : m < items.size), i ≤ m → m < j → EqAt A.in1 s items[m] x false) ∧ EqAt A.in1 s items[j] x true ∧
        R (.ok (.ret .none)) { s with heap := s.heap.update l (Obj.mapSeq fun xs => xs.eraseIdxIfInBounds j) }) := by
  induction k with
  | zero =>
    intro i hk hij prog w A R s h
    obtain ⟨hp, g, d, tk, os⟩ := s; obtain ⟨hl, hno, hit, h⟩ := h
    have hij' : i = j := by omega
    subst hij'
    wp_walk using wpAny_loadPart' hl
    have hi : items[((i : Nat) : Int).toNat]? = some items[i] := by simp [hj]
    rw [hi]
    refine wpAny_bind (hit prog w _ _ ?_)
    have hz' : (items.eraseIdxIfInBounds i).size ≤ sizeLine + 1 := Nat.le_trans (size_erased items _) (Nat.le_succ_of_le hs1)
    wp_walk using (wpAny_updateSeq hl rfl (hz := hs1) (_hz' := hz')), wpAny_loadPart' hl
    simpa using h
  | succ k ih =>
    intro i hk hij prog w A R s h
    obtain ⟨hp, g, d, tk, os⟩ := s; obtain ⟨hl, hno, hit, h⟩ := h
    have hlt : i < items.size := by omega
    wp_walk using wpAny_loadPart' hl
    have hi : items[((i : Nat) : Int).toNat]? = some items[i] := by simp [hlt]
    have hc : ((i : Int) + 1) = ((i + 1 : Nat) : Int) := by push_cast; rfl
    rw [hi]
    refine wpAny_bind (hno i hlt (Nat.le_refl _) (by omega) prog w _ _ ?_)
    wp_walk
    rw [hc]
    exact ⟨plainId_quiet plain_remove_loop _, codeAny_builtin entry_remove_loop (by
      rw [Around.under_plainId plain_remove_loop _]
      exact ih (i + 1) (by omega) (by omega) prog w A R _ ⟨hl, (fun m hm h1 h2 => hno m hm (by omega) h2), hit, h⟩)⟩
theorem list_removeAt (l : Addr) (items : Array Value) (n : Nat) (x : Value) (j : Nat) (hj : j < items.size) (hs1 : items.size ≤ sizeLine) :
    Meets (Builtin.«list.remove» ⟨[.ref l, x], []⟩)
      (fun A R s => s.heap.get? l = some { cls := .type "list", dict := none, data := .seq items n, slots := #[] } ∧ (∀ m (hm : m < items.size), m < j → EqAt A.in1 s items[m] x false) ∧ EqAt A.in1 s items[j] x true ∧
        R (.ok (.ret .none)) { s with heap := s.heap.update l (Obj.mapSeq fun xs => xs.eraseIdxIfInBounds j) }) := by
  intro prog w A R s h
  obtain ⟨hp, g, d, tk, os⟩ := s; obtain ⟨hl, hno, hit, h⟩ := h
  wp_walk using wpAny_loadPart' hl
  exact ⟨plainId_quiet plain_remove_loop _, codeAny_builtin entry_remove_loop (by
    rw [Around.under_plainId plain_remove_loop _]
    exact remove_loopAt l items n x j hj _ hs1 0 rfl (Nat.zero_le _) prog w A R _ ⟨hl, (fun m hm _ h2 => hno m hm h2), hit, h⟩)⟩
end PySem.SeqAt
namespace Vf
open PySem L2 PyProof.Rows
def rRemD (K : PySem.W.Frag) : V → List V → Hp → VK → Prop := fun x xs H Q => ∃ (l : Addr) (zs : List V) (y : V) (d : PyData) (j : Nat) (z : V) (p : PyData), x = .ref l ∧ xs = [y] ∧ H l = some (.lst zs) ∧ Dp K H y d ∧ SeqAt.shaped d = true ∧
  zs[j]? = some z ∧ Dp K H z p ∧ SeqAt.shaped p = true ∧ PyData.eqv p d = true ∧ (∀ m, m < j → ∃ u q, zs[m]? = some u ∧ Dp K H u q ∧ SeqAt.shaped q = true ∧ PyData.eqv q d = false) ∧ Q .non (upd H l (.lst (zs.eraseIdx j)))
theorem mt_removeD {X : Cx} (hu : X.A.units + 65 < cLine) : MtM X "list.remove" (rRemD X.K) := by
  intro pins s σ H x xs v us Q I rx rxs h
  obtain ⟨l, zs, y, d, j, z, p, rfl, rfl, hH, hy, sy, hj, hz, sz, hit, hno, q⟩ := h
  cases rx
  obtain ⟨u, rfl, ru⟩ := rxs.one
  obtain ⟨zl, its, n, r, hl, e⟩ := I.lstM hH
  obtain ⟨bs, rb⟩ := Dp.reads I d y u hy ru
  have hjn : j < zs.length := (List.getElem?_eq_some_iff.mp hj).1
  have hjl : j < its.toArray.size := by rw [List.size_toArray]; omega
  have hin : X.A.in1.units + 64 < cLine := by show X.A.units + 1 + 64 < cLine; omega
  have at_ : ∀ (m : Nat) (hm : m < its.toArray.size) (w : V) (q : PyData), zs[m]? = some w → Dp X.K H w q → SeqAt.shaped q = true → SeqAt.EqAt X.A.in1 s its.toArray[m] u (PyData.eqv q d) := fun m hm w q h1 h2 h3 => by
    obtain ⟨t, h4, h5⟩ := r.get h1
    obtain ⟨h6, h7⟩ := List.getElem?_eq_some_iff.mp h4
    have e1 : its.toArray[m] = t := by simpa using h7
    rw [e1]
    obtain ⟨as, ra⟩ := Dp.reads I q w t h2 h5
    exact SeqAt.eqAt_reads q d X.A.in1 s t u as bs ra rb (SeqAt.canLay_of_shaped h3) (SeqAt.canLay_of_shaped sy) (SeqAt.room_of_shaped h3 hin)
  refine call_meets PySem.F.slot_list_remove ⟨_, e, rfl⟩ PySem.F.entry_list_remove (PySem.F.args_list_remove_2 _ _)
    (SeqAt.list_removeAt l its.toArray n u j hjl (by rw [List.size_toArray]; omega)) ⟨e, fun m hm hmj => ?_, ?_, ?_⟩
  · obtain ⟨w, q, h1, h2, h3, h4⟩ := hno m hmj
    have := at_ m hm w q h1 h2 h3
    rw [h4] at this
    exact this
  · have := at_ j hjl z p hj hz sz
    rw [hit] at this
    exact this
  · refine ⟨.non, _, I.lset (its' := its.eraseIdx j) (t' := s.toks) hH e ?_ (r.eraseIdx j) ?_, rfl, q⟩
    · show its.toArray.eraseIdxIfInBounds j = (its.eraseIdx j).toArray
      rw [List.eraseIdxIfInBounds_toArray]
    · have z2 := len_erase zs j
      omega
theorem rem1_ok {d : D} : ∀ {xs ys : List D}, rem1 xs d = some ys → ∃ j x, xs[j]? = some x ∧ dEq x d = some true ∧ (∀ m, m < j → ∃ u, xs[m]? = some u ∧ dEq u d = some false) ∧ ys = xs.eraseIdx j
  | [], ys, h => by cases h
  | x :: r, ys, h => by
    simp only [rem1, Option.bind_eq_some_iff] at h
    obtain ⟨b, h1, h2⟩ := h
    cases b with
    | true =>
      rw [if_pos rfl] at h2
      cases h2
      exact ⟨0, x, rfl, h1, (fun m hm => absurd hm (Nat.not_lt_zero _)), rfl⟩
    | false =>
      rw [if_neg Bool.false_ne_true, Option.map_eq_some_iff] at h2
      obtain ⟨zs, h2, rfl⟩ := h2
      obtain ⟨j, w, q1, q2, q3, rfl⟩ := rem1_ok h2
      refine ⟨j + 1, w, by simpa using q1, q2, fun m hm => ?_, by simp⟩
      cases m with
      | zero => exact ⟨x, rfl, h1⟩
      | succ m =>
        obtain ⟨u, z1, z2⟩ := q3 m (by omega)
        exact ⟨u, by simpa using z1, z2⟩
end Vf
end
section
namespace Vf
open PySem L2
/-- which slots a statement gives another object -/
def asg : S → List Nat
  | .seq a r => asg a ++ asg r
  | .set i _ => [i]
  | .setP p _ => slotsP p
  | .par i j _ _ => [i, j]
  | .par3 i j l _ _ _ => [i, j, l]
  | .aug i _ _ => [i]
  | .fset i _ _ => [i]
  | .fst2 i j _ => [i, j]
  | .spans i x _ => [i, x]
  | .cond _ a b => asg a ++ asg b
  | .whl _ b => asg b
  | .forr _ _ _ p b => slotsP p ++ asg b
  | _ => []
section
variable (c : Cc) (ξ : XK) (F : Fs)
/-- what a flow reaches -/
def FlP (A : List Nat) (σ : L2.St) (G H : Hp) (D : Ends) : Fl → Prop
  | .nx e => ∀ σ' G' H', Rel c e σ' G' H' → Ex G G' → (∀ i, i ∉ A → loc c σ' H' i = loc c σ H i) → D.nx σ' H'
  | .bk e => ∀ σ' G' H', Rel c e σ' G' H' → Ex G G' → (∀ i, i ∉ A → loc c σ' H' i = loc c σ H i) → D.bk σ' H'
  | .ct e => ∀ σ' G' H', Rel c e σ' G' H' → Ex G G' → (∀ i, i ∉ A → loc c σ' H' i = loc c σ H i) → D.ct σ' H'
  | .rt m d e => ∀ σ' G' H' v, Rel c e σ' G' H' → Ex G G' → (∀ i, i ∉ A → loc c σ' H' i = loc c σ H i) → ValOk c e σ' (fun _ => none) G' H' m v d → D.rt v H'
def ts (s : S) : TS := fun D σ H => ∃ env G, Rel c env σ G H ∧ PR c ξ (evalS F s env) (FlP c (asg s) σ G H D)
end
section
variable {c : Cc} {ξ : XK} {F : Fs} {X : Cx}
/-- from a later state, to more slots -/
theorem FlP.back {A A' : List Nat} {σ σ1 : L2.St} {G G1 H H1 : Hp} {D : Ends} {f : Fl} (h : FlP c A σ G H D f) (hA : ∀ i, i ∉ A → i ∉ A') (e : Ex G G1) (l : ∀ i, i ∉ A → loc c σ1 H1 i = loc c σ H i) : FlP c A' σ1 G1 H1 D f := by
  cases f with
  | nx e' => exact fun σ' G' H' R g k => h σ' G' H' R (e.trans g) fun i hi => (k i (hA i hi)).trans (l i hi)
  | bk e' => exact fun σ' G' H' R g k => h σ' G' H' R (e.trans g) fun i hi => (k i (hA i hi)).trans (l i hi)
  | ct e' => exact fun σ' G' H' R g k => h σ' G' H' R (e.trans g) fun i hi => (k i (hA i hi)).trans (l i hi)
  | rt m d e' => exact fun σ' G' H' v R g k ok => h σ' G' H' v R (e.trans g) (fun i hi => (k i (hA i hi)).trans (l i hi)) ok
theorem ss_nil : PSs X [] (ts c ξ F .nil) := PSs.imp pss_nil fun D σ H w => by
  obtain ⟨env, G, R, w⟩ := w
  simp only [evalS] at w
  exact w σ G H R (.refl _) fun _ _ => rfl
theorem ss_cons {st : Stmt} {rest : List Stmt} {a r : S} (h1 : PS X st (ts c ξ F a)) (h2 : PSs X rest (ts c ξ F r)) : PSs X (st :: rest) (ts c ξ F (.seq a r)) := PSs.imp (pss_cons h1 h2) fun D σ H w => by
  obtain ⟨env, G, R, w⟩ := w
  simp only [evalS, PR.bind] at w
  refine ⟨env, G, R, w.mono fun f k => ?_⟩
  cases f with
  | nx e =>
    intro σ' G' H' R' g l
    refine ⟨e, G', R', PR.mono (show PR c ξ (evalS F r e) _ from k) fun f2 k2 => ?_⟩
    exact FlP.back k2 (fun i hi => (fun z => hi (by simp only [asg, List.mem_append]; exact .inr z))) g (fun i hi => l i fun z => hi (by simp only [asg, List.mem_append]; exact .inl z))
  | bk e => exact fun σ' G' H' R' g l => (show FlP c (asg (.seq a r)) σ G H D (.bk e) from k) σ' G' H' R' g fun i hi => l i fun z => hi (by simp only [asg, List.mem_append]; exact .inl z)
  | ct e => exact fun σ' G' H' R' g l => (show FlP c (asg (.seq a r)) σ G H D (.ct e) from k) σ' G' H' R' g fun i hi => l i fun z => hi (by simp only [asg, List.mem_append]; exact .inl z)
  | rt m d e => exact fun σ' G' H' v R' g l ok => (show FlP c (asg (.seq a r)) σ G H D (.rt m d e) from k) σ' G' H' v R' g (fun i hi => l i fun z => hi (by simp only [asg, List.mem_append]; exact .inl z)) ok
theorem loc_set {σ : L2.St} {H : Hp} {i j : Nat} {v : Option V} (h : j ≠ i) : loc c (σ.set i v) H j = loc c σ H j := by
  unfold loc
  split
  · rw [List.getElem?_set_ne (Ne.symm h)]
  · rfl
theorem Gr.loc {env env' : Env} {σ : L2.St} {G H G' H' : Hp} (g : Gr c σ env env' G H G' H') (i : Nat) : loc c σ H' i = loc c σ H i := loc_self g.s i
theorem modeOf_own {m : Bool} {d : D} (h : modeOf m d = .own) : m = true := by
  cases m <;> cases d <;> first | rfl | cases h
theorem modeOf_sh {m : Bool} {d : D} (h : modeOf m d ≠ .own) : modeOf m d = .sh := by
  cases m <;> cases d <;> first | rfl | exact absurd rfl h
/-- x = e -/
theorem set_read {i : Nat} (hi : Sl c i) {e : E} {t : TE} (he : ∀ σ H Q, tv c ξ F e σ H Q → t σ H Q) {D : Ends} {σ : L2.St} {H : Hp} (w : ts c ξ F (.set i e) D σ H) : tAsg t (gName i) D σ H := by
  obtain ⟨env, G, R, w⟩ := w
  simp only [evalS, PR.bind] at w
  refine he σ H _ ⟨env, G, R, w.mono fun p k G1 H1 v R1 g1 ok => ?_⟩
  have k' : FlP c [i] σ G H D (.nx (p.2.set i (some (modeOf p.1.1 p.1.2, p.1.2)))) := k
  obtain ⟨R2, hl⟩ := R1.store hi v
  have hlk : ∀ j, j ∉ [i] → Vf.loc c (σ.set i (some v)) H1 j = Vf.loc c σ H j := fun j hj => by
    rw [loc_set (by simpa using hj)]; exact g1.loc j
  by_cases hm : modeOf p.1.1 p.1.2 = .own
  · have hb := modeOf_own hm
    rw [hm] at k'
    rw [hb] at ok
    have ok2 : ValOk c (p.2.set i none) (σ.set i (some v)) H G1 H1 true v p.1.2 := by
      unfold ValOk at ok ⊢
      rw [if_pos rfl] at ok ⊢
      obtain ⟨l, z1, z2, z3, z4, z5, z6⟩ := ok
      refine ⟨l, z1, z2, z3, z4, z5, fun j md d' e1 hmd => ?_⟩
      rw [getV_set] at e1
      split at e1
      · cases e1
      · rename_i hz
        have hji : j ≠ i := fun q => hz ⟨q.symm, by subst q; exact getV_lt e1⟩
        rw [loc_set hji]
        exact z6 j md d' e1 hmd
    have R3 := R2.setOwn (i := i) (.inl (by rw [getV_set]; split; rfl; rename_i hz; cases q : getV p.2 i with | none => rfl | some x => exact absurd ⟨rfl, getV_lt q⟩ hz)) hl ok2
    rw [List.set_set] at R3
    exact k' _ G1 H1 R3 g1.g hlk
  · have hs := modeOf_sh hm
    rw [hs] at k'
    obtain ⟨G2, R2', e2, r, _⟩ := R1.freeze ok
    obtain ⟨R3, hl3⟩ := R2'.store hi v
    have R4 := R3.setSh (i := i) hl3 r
    rw [List.set_set] at R4
    exact k' _ G2 H1 R4 (g1.g.trans e2) hlk
/-- several targets -/
theorem setP_read {p : Pat} (hn : ∀ i ∈ slotsP p, Sl c i) {e : E} {D : Ends} {σ : L2.St} {H : Hp} (w : ts c ξ F (.setP p e) D σ H) : tAsg (tv c ξ F e) (gPat c.K p) D σ H := by
  obtain ⟨env, G, R, w⟩ := w
  simp only [evalS, PR.bind] at w
  refine T_sh R (w.mono fun q k G1 H1 v R1 g1 r1 => ?_)
  obtain ⟨env', e1, k⟩ := PR.of k
  refine bind_ok p hn e1 R1 r1 fun σ2 R2 s2 _ _ => ?_
  refine (show FlP c (slotsP p) σ G H D (.nx env') from k) σ2 G1 H1 R2 g1.g fun j hj => ?_
  have : Vf.loc c σ2 H1 j = Vf.loc c σ H1 j := by
    unfold Vf.loc
    split
    · rw [s2 j hj]
    · rfl
  rw [this]; exact g1.loc j
/-- a value that is to be stored -/
def Val2 (c : Cc) (env : Env) (σ : L2.St) (G H : Hp) (md : Md) (v : V) (d : Vf.D) : Prop :=
  (md = .sh ∧ Rep c.toKc G v d) ∨ (md = .own ∧ ∃ l, v = .ref l ∧ Tmp c env σ G H l ∧ Own c.toKc G H l d)
theorem Rel.put2 {env : Env} {σ : L2.St} {G H : Hp} {md : Md} {v : V} {d : Vf.D} {i : Nat} (R : Rel c env σ G H) (hi : Sl c i) (h : Val2 c env σ G H md v d) : Rel c (env.set i (some (md, d))) (σ.set i (some v)) G H := by
  obtain ⟨R2, hl⟩ := R.store hi v
  rcases h with ⟨rfl, r⟩ | ⟨rfl, l, rfl, t, o⟩
  · have R3 := R2.setSh (i := i) hl r
    rw [List.set_set] at R3
    exact R3
  · have ok2 : ValOk c (env.set i none) (σ.set i (some (.ref l))) (fun _ => none) G H true (.ref l) d := by
      unfold ValOk
      rw [if_pos rfl]
      refine ⟨l, rfl, rfl, t.g, t.h0, o, fun j md d' e1 hmd => ?_⟩
      rw [getV_set] at e1
      split at e1
      · cases e1
      · rename_i hz
        have hji : j ≠ i := fun q => hz ⟨q.symm, by subst q; exact getV_lt e1⟩
        rw [loc_set hji]
        exact t.ns j md d' e1 hmd
    have R3 := R2.setOwn (i := i) (.inl (by rw [getV_set]; split; rfl; rename_i hz; cases q : getV env i with | none => rfl | some x => exact absurd ⟨rfl, getV_lt q⟩ hz)) hl ok2
    rw [List.set_set] at R3
    exact R3
theorem Val2.put {env : Env} {σ : L2.St} {G H : Hp} {md md' : Md} {v v' : V} {d d' : Vf.D} {i : Nat} (h : Val2 c env σ G H md v d) (h' : Val2 c env σ G H md' v' d') (hne : md = .own → md' = .own → v ≠ v') (hi : i < c.n) (hs : σ.length = c.n) :
    Val2 c (env.set i (some (md, d))) (σ.set i (some v)) G H md' v' d' := by
  rcases h' with h' | ⟨rfl, l', rfl, t, o⟩
  · exact .inl h'
  · refine .inr ⟨rfl, l', rfl, ⟨t.g, t.h0, fun j m d2 e hm => ?_⟩, o⟩
    rw [getV_set] at e
    split at e
    · rename_i hz
      cases e
      rw [← hz.1]
      unfold Vf.loc
      rw [if_pos hi, List.getElem?_set_self (by rw [hs]; exact hi)]
      rcases h with ⟨rfl, _⟩ | ⟨rfl, _⟩
      · exact absurd rfl hm
      · exact fun z => hne rfl rfl (Option.some.inj z)
    · rename_i hz
      have hji : j ≠ i := fun q => hz ⟨q.symm, by subst q; exact getV_lt e⟩
      rw [loc_set hji]
      exact t.ns j m d2 e hm
/-- a value as it comes, made ready to be stored -/
theorem Rel.ready {env : Env} {σ : L2.St} {H1 G H : Hp} {m : Bool} {v : V} {d : Vf.D} (R : Rel c env σ G H) (h : ValOk c env σ H1 G H m v d) : ∃ G', Rel c env σ G' H ∧ Ex G G' ∧ Val2 c env σ G' H (modeOf m d) v d ∧ (∀ a, G' a ≠ none → G a ≠ none ∨ H1 a = none) ∧
    (modeOf m d = .own → ∃ l, v = .ref l ∧ H1 l = none ∧ H l ≠ none) := by
  by_cases hm : modeOf m d = .own
  · have hb := modeOf_own hm
    subst hb
    unfold ValOk at h
    rw [if_pos rfl] at h
    obtain ⟨l, z1, z2, z3, z4, z5, z6⟩ := h
    exact ⟨G, R, .refl _, .inr ⟨hm, l, z1, ⟨z3, z4, z6⟩, z5⟩, fun a ha => .inl ha, fun _ => ⟨l, z1, z2, z5.some⟩⟩
  · obtain ⟨G', R', e, r, gf⟩ := R.freeze h
    exact ⟨G', R', e, .inl ⟨modeOf_sh hm, r⟩, fun a ha => (gf a ha).imp id fun z => z.2, fun q => absurd q hm⟩
theorem Val2.keep {env env' : Env} {σ : L2.St} {G H G' H' : Hp} {md : Md} {v : V} {d : Vf.D} (h : Val2 c env σ G H md v d) (g : Gr c σ env env' G H G' H') : Val2 c env' σ G' H' md v d := by
  rcases h with ⟨e, r⟩ | ⟨e, l, e2, t, o⟩
  · exact .inl ⟨e, r.mono g.g⟩
  · refine .inr ⟨e, l, e2, t.keep g o.some, o.mono g.g ?_⟩
    rcases o.H with ⟨us, h⟩ | ⟨us, h⟩ <;> rw [h, g.fr l _ h t.ns]
theorem Val2.thru {env env' : Env} {σ : L2.St} {G1 H1 G2 H2 G2' : Hp} {md : Md} {v : V} {d : Vf.D} (h : Val2 c env σ G1 H1 md v d) (g : Gr c σ env env' G1 H1 G2 H2) (e2 : Ex G2 G2') (gf : ∀ a, G2' a ≠ none → G2 a ≠ none ∨ H1 a = none) (oo : md = .own → ∃ l, v = .ref l ∧ H1 l ≠ none) :
    Val2 c env' σ G2' H2 md v d ∧ (md = .own → ∃ l, v = .ref l ∧ H2 l ≠ none) := by
  rcases h.keep g with ⟨z, r⟩ | ⟨z, l, z2, t, o⟩
  · exact ⟨.inl ⟨z, r.mono e2⟩, fun q => by rw [z] at q; cases q⟩
  · refine ⟨.inr ⟨z, l, z2, ⟨?_, t.h0, t.ns⟩, o.mono e2 rfl⟩, fun _ => ⟨l, z2, o.some⟩⟩
    cases hg : G2' l with
    | none => rfl
    | some u =>
      rcases gf l (by rw [hg]; exact fun z => nomatch z) with h | h
      · exact absurd t.g h
      · obtain ⟨l', w1, w2⟩ := oo z
        rw [z2] at w1; cases w1
        exact absurd h w2
theorem own_ne {md md' : Md} {v v' : V} {H1 : Hp} (h : md = .own → ∃ l, v = .ref l ∧ H1 l ≠ none) (h' : md' = .own → ∃ l, v' = .ref l ∧ H1 l = none) : md = .own → md' = .own → v ≠ v' := fun h1 h2 z => by
  obtain ⟨l1, w1, w2⟩ := h h1
  obtain ⟨l2, w3, w4⟩ := h' h2
  rw [z, w3] at w1; cases w1
  exact w2 w4
/-- a, b = e1, e2 -/
theorem par_read {i j : Nat} (hi : Sl c i) (hj : Sl c j) {a b : E} {D : Ends} {σ : L2.St} {H : Hp} (w : ts c ξ F (.par i j a b) D σ H) : tPar i j (tCons (tv c ξ F a) (tCons (tv c ξ F b) tNil)) D σ H := by
  obtain ⟨env, G, R, w⟩ := w
  simp only [evalS, PR.bind] at w
  refine ⟨env, G, R, w.mono fun p w G1 H1 v1 R1 g1 ok1 => ?_⟩
  obtain ⟨G1', R1', e1, x1, gf1, oo1⟩ := R1.ready ok1
  refine ⟨p.2, G1', R1', w.mono fun q k G2 H2 v2 R2 g2 ok2 => ⟨v1, v2, rfl, ?_⟩⟩
  obtain ⟨G2', R2', e2, x2, gf2, oo2⟩ := R2.ready ok2
  have o1 : modeOf p.1.1 p.1.2 = .own → ∃ l, v1 = .ref l ∧ H1 l ≠ none := fun q => (oo1 q).imp fun l z => ⟨z.1, z.2.2⟩
  obtain ⟨y1, _⟩ := x1.thru g2 e2 gf2 o1
  have R3 := R2'.put2 hi y1
  have R4 := R3.put2 hj (y1.put x2 (own_ne o1 fun q => (oo2 q).imp fun l z => ⟨z.1, z.2.1⟩) hi.1 R2'.len)
  refine (show FlP c [i, j] σ G H D (.nx _) from k) _ G2' H2 R4 (((g1.g.trans e1).trans g2.g).trans e2) fun m hm => ?_
  simp only [List.mem_cons, List.not_mem_nil, or_false, not_or] at hm
  rw [loc_set hm.2, loc_set hm.1]; exact (g2.loc m).trans (g1.loc m)
theorem par3_read {i j l : Nat} (hi : Sl c i) (hj : Sl c j) (hl : Sl c l) {a b e : E} {D : Ends} {σ : L2.St} {H : Hp} (w : ts c ξ F (.par3 i j l a b e) D σ H) : tPar3 i j l (tCons (tv c ξ F a) (tCons (tv c ξ F b) (tCons (tv c ξ F e) tNil))) D σ H := by
  obtain ⟨env, G, R, w⟩ := w
  simp only [evalS, PR.bind] at w
  refine ⟨env, G, R, w.mono fun p w G1 H1 v1 R1 g1 ok1 => ?_⟩
  obtain ⟨G1', R1', e1, x1, gf1, oo1⟩ := R1.ready ok1
  refine ⟨p.2, G1', R1', w.mono fun q w G2 H2 v2 R2 g2 ok2 => ?_⟩
  obtain ⟨G2', R2', e2, x2, gf2, oo2⟩ := R2.ready ok2
  refine ⟨q.2, G2', R2', w.mono fun u k G3 H3 v3 R3 g3 ok3 => ⟨v1, v2, v3, rfl, ?_⟩⟩
  obtain ⟨G3', R3', e3, x3, gf3, oo3⟩ := R3.ready ok3
  have o1 : modeOf p.1.1 p.1.2 = .own → ∃ l, v1 = .ref l ∧ H1 l ≠ none := fun q => (oo1 q).imp fun l z => ⟨z.1, z.2.2⟩
  have o2 : modeOf q.1.1 q.1.2 = .own → ∃ l, v2 = .ref l ∧ H2 l ≠ none := fun q => (oo2 q).imp fun l z => ⟨z.1, z.2.2⟩
  obtain ⟨y1, o1'⟩ := x1.thru g2 e2 gf2 o1
  obtain ⟨z1, _⟩ := y1.thru g3 e3 gf3 o1'
  obtain ⟨z2, _⟩ := x2.thru g3 e3 gf3 o2
  have n12 := own_ne o1 fun q => (oo2 q).imp fun l z => ⟨z.1, z.2.1⟩
  have n13 := own_ne o1' fun q => (oo3 q).imp fun l z => ⟨z.1, z.2.1⟩
  have n23 := own_ne o2 fun q => (oo3 q).imp fun l z => ⟨z.1, z.2.1⟩
  have R4 := R3'.put2 hi z1
  have z2' := z1.put z2 n12 hi.1 R3'.len
  have R5 := R4.put2 hj z2'
  have R6 := R5.put2 hl (z2'.put (z1.put x3 n13 hi.1 R3'.len) n23 hj.1 R4.len)
  refine (show FlP c [i, j, l] σ G H D (.nx _) from k) _ G3' H3 R6 (((((g1.g.trans e1).trans g2.g).trans e2).trans g3.g).trans e3) fun m hm => ?_
  simp only [List.mem_cons, List.not_mem_nil, or_false, not_or] at hm
  rw [loc_set hm.2.2, loc_set hm.2.1, loc_set hm.1]; exact (g3.loc m).trans ((g2.loc m).trans (g1.loc m))
/-- x op= e, whole numbers -/
theorem aug_read {i : Nat} (hi : Sl c i) {o : B2} {f : Int → Int → Int} (hf : ∀ x y w, bi1 o (.int x) (.int y) = some w → w.2 = .int (f x y)) {e : E} {D : Ends} {σ : L2.St} {H : Hp} (w : ts c ξ F (.aug i o e) D σ H) : tAug i (tv c ξ F e) (ipI f) D σ H := by
  obtain ⟨env, G, R, w⟩ := w
  simp only [evalS] at w
  split at w <;> first | (exact w.elim) | skip
  rename_i x hx
  obtain ⟨v, h1, h2⟩ := R.slot i _ _ hx
  have h2' : Rep c.toKc G v (.int x) := h2
  obtain rfl := h2'.i_int
  have h1' := h1
  unfold Vf.loc at h1'
  rw [if_pos hi.1] at h1'
  refine ⟨.int x, ?_, ?_⟩
  · cases z : σ[i]? with
    | none => rw [z] at h1'; cases h1'
    | some o => rw [z] at h1'; rw [show o = some _ from h1']
  rw [PR.bind] at w
  refine T_sh R (w.mono fun p k G1 H1 v R1 g1 r1 => ?_)
  cases hd : p.1.2 <;> (rw [hd] at k r1; try exact k.elim)
  rename_i y
  obtain rfl := r1.i_int
  simp only [PR.bind] at k
  obtain ⟨u, e1, k⟩ := PR.of k
  have hu := hf _ _ _ e1
  refine ⟨x, y, rfl, rfl, ?_⟩
  obtain ⟨R2, hl2⟩ := R1.store hi (.int (f x y))
  have R3 := R2.setSh (i := i) (d := .int (f x y)) hl2 (.int _)
  rw [List.set_set] at R3
  rw [hu] at k
  refine (show FlP c [i] σ G H D (.nx _) from k) _ G1 H1 R3 g1.g fun m hm => ?_
  rw [loc_set (by simpa using hm)]; exact g1.loc m
theorem isOwnD_ok {p : Option (Md × D)} (h : isOwnD p = true) : ∃ m xs, p = some (m, .dic xs) ∧ m ≠ .sh := by
  unfold isOwnD at h
  split at h
  · exact ⟨_, _, rfl, by decide⟩
  · exact ⟨_, _, rfl, by decide⟩
  · cases h
/-- what a container of one's own becomes -/
theorem mods_read {i : Nat} {f : D → Option D} {env : Env} {σ : L2.St} {G H : Hp} {P : Fl → Prop} (R : Rel c env σ G H) (w : PR c ξ (mods env i f) P) :
    ∃ l m d d', loc c σ H i = some (.ref l) ∧ getV env i = some (m, d) ∧ m ≠ .sh ∧ Own c.toKc G H l d ∧ f d = some d' ∧ P (.nx (env.set i (some (m, d')))) := by
  unfold mods at w
  simp only [PR.bind] at w
  obtain ⟨q, e1, w⟩ := PR.of w
  obtain ⟨hq, w⟩ := PR.chk w
  obtain ⟨d', e2, w⟩ := PR.of (show PR c ξ (Vf.R.of (f q.2)) _ from w)
  obtain ⟨l, h1, h2, h3⟩ := R.at_ (m := q.1) (d := q.2) e1 hq
  exact ⟨l, q.1, q.2, d', h1, e1, hq, h3, e2, w⟩
/-- a place's reading, where the slot holds a container of one's own -/
theorem plc_at {t : TE} {i : Nat} {env : Env} {σ : L2.St} {G H : Hp} {Q : VK} {m : Md} {d : D} (R : Rel c env σ G H) (e : getV env i = some (m, d)) (hm : m ≠ .sh) (k : ∀ l, loc c σ H i = some (.ref l) → Own c.toKc G H l d → Q (.ref l) H) :
    ∃ v, loc c σ H i = some v ∧ (c.n ≤ i → ∃ x fs, c.self = some x ∧ H x = some (.ins c.selfC c.selfD fs) ∧ σ[0]? = some (some (.ref x))) ∧ Q v H := by
  obtain ⟨l, h1, h2, h3⟩ := R.at_ e hm
  exact ⟨.ref l, h1, R.place h1, k l h1 h3⟩
abbrev tPl (c : Cc) (i : Nat) : TE := fun σ H Q => ∃ v, loc c σ H i = some v ∧ (c.n ≤ i → ∃ x fs, c.self = some x ∧ H x = some (.ins c.selfC c.selfD fs) ∧ σ[0]? = some (some (.ref x))) ∧ Q v H
theorem app_read {i : Nat} {e : E} {D : Ends} {σ : L2.St} {H : Hp} (w : ts c ξ F (.app i e) D σ H) : tDrop (tBM c.K "list" rAppend (tPl c i) (tCons (tv c ξ F e) tNil)) D σ H := by
  obtain ⟨env, G, R, w⟩ := w
  simp only [evalS, PR.bind] at w
  obtain ⟨ho, w⟩ := PR.chk w
  obtain ⟨m0, xs0, e0, hm0⟩ := isOwnL_ok ho
  obtain ⟨l0, hl0, _, ow0⟩ := R.at_ e0 hm0
  obtain ⟨vs0, hv0, _⟩ := ow0
  refine ⟨.ref l0, hl0, R.place hl0, .inl ⟨rfl, vs0, .inl (.inl hv0)⟩, ?_⟩
  refine T_sh R (PR.mono (show PR c ξ (evalE F e env) _ from w) fun p k G1 H1 v R1 g1 r1 => ?_)
  obtain ⟨l, m, d, d', q1, q2, q3, q4, q5, q6⟩ := mods_read R1 k
  rw [g1.loc, hl0] at q1; cases q1
  cases d <;> first | (cases q5; done) | skip
  rename_i xs
  replace q5 : (if xs.length < sizeLine then some (Vf.D.lst (xs ++ [p.1.2])) else none) = some d' := q5
  split at q5 <;> first | (cases q5; done) | skip
  rename_i hb
  cases q5
  obtain ⟨vs, h1, h2⟩ := q4
  have hl1 : loc c σ H1 i = some (.ref l0) := (g1.loc i).trans hl0
  obtain ⟨R2, g2⟩ := R1.write q2 q3 hl1 (o := .lst (vs ++ [v])) (d' := .lst _) ⟨_, upd_same, h2.append (.cons r1 .nil)⟩
  exact ⟨l0, vs, v, rfl, rfl, h1, by rw [h2.length]; exact hb, (show FlP c [] σ G H D (.nx _) from q6) σ G1 _ R2 (g1.g.trans g2.g) fun j _ => (g2.loc j).trans (g1.loc j)⟩
theorem rem_read {i : Nat} {e : E} {D : Ends} {σ : L2.St} {H : Hp} (w : ts c ξ F (.rem i e) D σ H) : tDrop (tBM c.K "list" (rRemD c.K) (tPl c i) (tCons (tv c ξ F e) tNil)) D σ H := by
  obtain ⟨env, G, R, w⟩ := w
  simp only [evalS, PR.bind] at w
  obtain ⟨ho, w⟩ := PR.chk w
  obtain ⟨m0, xs0, e0, hm0⟩ := isOwnL_ok ho
  obtain ⟨l0, hl0, _, ow0⟩ := R.at_ e0 hm0
  obtain ⟨vs0, hv0, _⟩ := ow0
  refine ⟨.ref l0, hl0, R.place hl0, .inl ⟨rfl, vs0, .inl (.inl hv0)⟩, ?_⟩
  refine T_sh R (PR.mono (show PR c ξ (evalE F e env) _ from w) fun p k G1 H1 v R1 g1 r1 => ?_)
  obtain ⟨l, m, d, d', q1, q2, q3, q4, q5, q6⟩ := mods_read R1 k
  rw [g1.loc, hl0] at q1; cases q1
  cases d <;> first | (cases q5; done) | skip
  rename_i xs
  replace q5 : (rem1 xs p.1.2).map Vf.D.lst = some d' := q5
  rw [Option.map_eq_some_iff] at q5
  obtain ⟨ys, q5, rfl⟩ := q5
  obtain ⟨j, x, z1, z2, z3, rfl⟩ := rem1_ok q5
  obtain ⟨vs, h1, h2⟩ := q4
  have hl1 : loc c σ H1 i = some (.ref l0) := (g1.loc i).trans hl0
  obtain ⟨P, Q', e1, e2, s1, s2, e3⟩ := dEq_some z2
  obtain ⟨u, y1, y2⟩ := h2.get z1
  obtain ⟨R2, g2⟩ := R1.write q2 q3 hl1 (o := .lst (vs.eraseIdx j)) (d' := .lst _) ⟨_, upd_same, h2.erase j⟩
  refine ⟨l0, vs, v, Q', j, u, P, rfl, rfl, h1, r1.dp R1.ex _ e2, s2, y1, y2.dp R1.ex _ e1, s1, e3, fun m hm => ?_, (show FlP c [] σ G H D (.nx _) from q6) σ G1 _ R2 (g1.g.trans g2.g) fun j _ => (g2.loc j).trans (g1.loc j)⟩
  obtain ⟨u', y3, y4⟩ := z3 m hm
  obtain ⟨P2, Q2, f1, f2, f3, f4, f5⟩ := dEq_some y4
  rw [e2] at f2; cases f2
  obtain ⟨u2, y5, y6⟩ := h2.get y3
  exact ⟨u2, P2, y5, y6.dp R1.ex _ f1, f3, f5⟩
theorem ext_read {i : Nat} {e : E} {D : Ends} {σ : L2.St} {H : Hp} (w : ts c ξ F (.ext i e) D σ H) : tDrop (tBM c.K "list" rExtend (tPl c i) (tCons (tv c ξ F e) tNil)) D σ H := by
  obtain ⟨env, G, R, w⟩ := w
  simp only [evalS, PR.bind] at w
  obtain ⟨ho, w⟩ := PR.chk w
  obtain ⟨m0, xs0, e0, hm0⟩ := isOwnL_ok ho
  obtain ⟨l0, hl0, _, ow0⟩ := R.at_ e0 hm0
  obtain ⟨vs0, hv0, _⟩ := ow0
  refine ⟨.ref l0, hl0, R.place hl0, .inl ⟨rfl, vs0, .inl (.inl hv0)⟩, ?_⟩
  refine ⟨env, G, R, PR.mono (show PR c ξ (evalE F e env) _ from w) fun p k G1 H1 v R1 g1 ok => ?_⟩
  obtain ⟨hp, k⟩ := PR.chk k
  unfold ValOk at ok
  rw [if_pos hp] at ok
  obtain ⟨lx, rfl, _, _, _, ox, _⟩ := ok
  obtain ⟨l, m, d, d', q1, q2, q3, q4, q5, q6⟩ := mods_read R1 (show PR c ξ (mods p.2 i (ext1 p.1.2)) _ from k)
  rw [g1.loc, hl0] at q1; cases q1
  revert q5 ox
  cases d <;> cases p.1.2 <;> intro ox q5 <;> first | (cases q5; done) | skip
  rename_i xs ys
  replace q5 : (if xs.length + ys.length ≤ sizeLine then some (Vf.D.lst (xs ++ ys)) else none) = some d' := q5
  split at q5 <;> first | (cases q5; done) | skip
  rename_i hb
  cases q5
  obtain ⟨vs, h1, h2⟩ := q4
  obtain ⟨us, hg, rg⟩ := ox
  have hl1 : loc c σ H1 i = some (.ref l0) := (g1.loc i).trans hl0
  obtain ⟨R2, g2⟩ := R1.write q2 q3 hl1 (o := .lst (vs ++ _)) (d' := .lst _) ⟨_, upd_same, h2.append rg⟩
  exact ⟨l0, _, vs, _, rfl, rfl, h1, hg, by rw [h2.length, rg.length]; exact hb, (show FlP c [] σ G H D (.nx _) from q6) σ G1 _ R2 (g1.g.trans g2.g) fun j _ => (g2.loc j).trans (g1.loc j)⟩
theorem putL_read {i : Nat} {k e : E} {D : Ends} {σ : L2.St} {H : Hp} (w : ts c ξ F (.putL i k e) D σ H) : tAsg (tv c ξ F e) (gSub (tPl c i) (tv c ξ F k) rSetL) D σ H := by
  obtain ⟨env, G, R, w⟩ := w
  simp only [evalS, PR.bind] at w
  obtain ⟨ho, w⟩ := PR.chk w
  obtain ⟨m0, xs0, e0, hm0⟩ := isOwnL_ok ho
  obtain ⟨l0, hl0, _⟩ := R.at_ e0 hm0
  refine T_sh R (PR.mono (show PR c ξ (evalE F e env) _ from w) fun p k1 G1 H1 v R1 g1 r1 => ?_)
  refine ⟨.ref l0, (g1.loc i).trans hl0, R1.place ((g1.loc i).trans hl0), ?_⟩
  refine T_sh R1 (k1.mono fun q k2 G2 H2 kv R2 g2 r2 => ?_)
  obtain ⟨l, m, d, d', q1, q2, q3, q4, q5, q6⟩ := mods_read R2 k2
  rw [g2.loc, g1.loc, hl0] at q1; cases q1
  revert q5 r2
  cases d <;> cases q.1.2 <;> intro r2 q5 <;> first | (cases q5; done) | skip
  rename_i xs ix
  replace q5 : (ixN xs.length ix).map (fun n => Vf.D.lst (xs.set n p.1.2)) = some d' := q5
  simp only [Option.map_eq_some_iff] at q5
  obtain ⟨nn, e1, rfl⟩ := q5
  obtain rfl := r2.i_int
  obtain ⟨vs, h1, h2⟩ := q4
  have hl2 : loc c σ H2 i = some (.ref l0) := (g2.loc i).trans ((g1.loc i).trans hl0)
  obtain ⟨R3, g3⟩ := R2.write q2 q3 hl2 (o := .lst (vs.set nn v)) (d' := .lst _) ⟨_, upd_same, h2.set (r1.mono g2.g) nn⟩
  exact ⟨l0, vs, _, nn, rfl, rfl, h1, by rw [h2.length]; exact e1, (show FlP c [] σ G H D (.nx _) from q6) σ G2 _ R3 ((g1.g.trans g2.g).trans g3.g) fun j _ => (g3.loc j).trans ((g2.loc j).trans (g1.loc j))⟩
theorem putD_read {i : Nat} {k e : E} {D : Ends} {σ : L2.St} {H : Hp} (w : ts c ξ F (.putD i k e) D σ H) : sDPut (tPl c i) (tv c ξ F k) (tv c ξ F e) D σ H := by
  obtain ⟨env, G, R, w⟩ := w
  simp only [evalS, PR.bind] at w
  obtain ⟨ho, w⟩ := PR.chk w
  obtain ⟨m0, xs0, e0, hm0⟩ := isOwnD_ok ho
  obtain ⟨l0, hl0, _⟩ := R.at_ e0 hm0
  refine T_sh R (PR.mono (show PR c ξ (evalE F e env) _ from w) fun p k1 G1 H1 v R1 g1 r1 => ?_)
  refine ⟨.ref l0, (g1.loc i).trans hl0, R1.place ((g1.loc i).trans hl0), ?_⟩
  refine T_sh R1 (k1.mono fun q k2 G2 H2 kv R2 g2 r2 => ?_)
  obtain ⟨l, m, d, d', q1, q2, q3, q4, q5, q6⟩ := mods_read R2 k2
  rw [g2.loc, g1.loc, hl0] at q1; cases q1
  cases d <;> first | (cases q5; done) | skip
  rename_i xs
  replace q5 : (keyD q.1.2).bind (fun k => if xs.length < 1000000 then some (Vf.D.dic (putD xs k p.1.2)) else none) = some d' := q5
  simp only [Option.bind_eq_some_iff] at q5
  obtain ⟨kk, e1, e2⟩ := q5
  split at e2 <;> first | (cases e2; done) | skip
  rename_i hb
  cases e2
  obtain ⟨vs, h1, h2⟩ := q4
  have hkv := kV_of e1 r2
  subst hkv
  have hl2 : loc c σ H2 i = some (.ref l0) := (g2.loc i).trans ((g1.loc i).trans hl0)
  obtain ⟨R3, g3⟩ := R2.write q2 q3 hl2 (o := .dK (putK vs kk v)) (d' := .dic _) ⟨_, upd_same, h2.put (r1.mono g2.g)⟩
  have hsz : (1000000 : Nat) < sizeLine := by decide
  exact ⟨l0, _, rfl, .inl ⟨vs, kk, h1, rfl, by rw [h2.length]; omega, rfl⟩, (show FlP c [] σ G H D (.nx _) from q6) σ G2 _ R3 ((g1.g.trans g2.g).trans g3.g) fun j _ => (g3.loc j).trans ((g2.loc j).trans (g1.loc j))⟩
theorem del_read {i : Nat} {k : E} {D : Ends} {σ : L2.St} {H : Hp} (w : ts c ξ F (.del i k) D σ H) : tDelL (tPl c i) (tv c ξ F k) D σ H := by
  obtain ⟨env, G, R, w⟩ := w
  simp only [evalS, PR.bind] at w
  obtain ⟨ho, w⟩ := PR.chk w
  obtain ⟨m0, xs0, e0, hm0⟩ := isOwnL_ok ho
  obtain ⟨l0, hl0, _⟩ := R.at_ e0 hm0
  refine ⟨.ref l0, hl0, R.place hl0, ?_⟩
  refine T_sh R (PR.mono (show PR c ξ (evalE F k env) _ from w) fun q k2 G2 H2 kv R2 g2 r2 => ?_)
  obtain ⟨l, m, d, d', q1, q2, q3, q4, q5, q6⟩ := mods_read R2 k2
  rw [g2.loc, hl0] at q1; cases q1
  revert q5 r2
  cases d <;> cases q.1.2 <;> intro r2 q5 <;> first | (cases q5; done) | skip
  rename_i xs ix
  obtain ⟨hb, q5⟩ := ck_some (show ck (-(2 ^ 63) ≤ ix ∧ ix < 2 ^ 63) ((ixN xs.length ix).map (fun n => Vf.D.lst (xs.eraseIdx n))) = some d' from q5)
  simp only [Option.map_eq_some_iff] at q5
  obtain ⟨nn, e1, rfl⟩ := q5
  obtain rfl := r2.i_int
  obtain ⟨vs, h1, h2⟩ := q4
  have hl2 : loc c σ H2 i = some (.ref l0) := (g2.loc i).trans hl0
  obtain ⟨R3, g3⟩ := R2.write q2 q3 hl2 (o := .lst (vs.eraseIdx nn)) (d' := .lst _) ⟨_, upd_same, h2.erase nn⟩
  exact ⟨l0, vs, _, nn, rfl, rfl, h1, hb.1, hb.2, by rw [h2.length]; exact (ixN_seq e1).1, (show FlP c [] σ G H D (.nx _) from q6) σ G2 _ R3 (g2.g.trans g3.g) fun j _ => (g3.loc j).trans (g2.loc j)⟩
end
end Vf
end
section
namespace Vf
open PySem L2
section
variable {c : Cc} {ξ : XK} {F : Fs} {X : Cx} {D : Ends} {σ : L2.St} {H : Hp}
theorem PR.and {α : Type} {r : R α} {P Q : α → Prop} (h : PR c ξ r P) (k : ∀ a, r = .ok a → Q a) : PR c ξ r fun a => P a ∧ Q a := by
  cases r with
  | ok a => exact ⟨h, k a rfl⟩
  | exc j x => exact h
  | stk => exact h
theorem exp_read {e : E} (w : ts c ξ F (.exp e) D σ H) : tDrop (tv c ξ F e) D σ H := by
  obtain ⟨env, G, R, w⟩ := w
  simp only [evalS, PR.bind] at w
  exact ⟨env, G, R, w.mono fun p k G1 H1 v R1 g1 ok => (show FlP c [] σ G H D (.nx p.2) from k) σ G1 H1 R1 g1.g fun j _ => g1.loc j⟩
theorem ret_read {e : E} (he : ∀ i, e ≠ .var i) (w : ts c ξ F (.ret e) D σ H) : tRet (tv c ξ F e) D σ H := by
  obtain ⟨env, G, R, w⟩ := w
  have e1 : evalS F (.ret e) env = (evalE F e env >>= fun p => .ok (.rt p.1.1 p.1.2 p.2)) := by
    cases e <;> first | (simp only [evalS]; done) | exact absurd rfl (he _)
  rw [e1, PR.bind] at w
  refine ⟨env, G, R, w.mono fun p k G1 H1 v R1 g1 ok => (show FlP c [] σ G H D (.rt p.1.1 p.1.2 p.2) from k) σ G1 H1 v R1 g1.g (fun j _ => g1.loc j) ?_⟩
  unfold ValOk at ok ⊢
  split
  · rename_i hm
    rw [if_pos hm] at ok
    obtain ⟨l, z1, z2, z3⟩ := ok
    exact ⟨l, z1, rfl, z3⟩
  · rename_i hm
    rw [if_neg hm] at ok
    exact ok
theorem retV_read {i : Nat} (w : ts c ξ F (.ret (.var i)) D σ H) : tRet (tPl c i) D σ H := by
  obtain ⟨env, G, R, w⟩ := w
  simp only [evalS] at w
  split at w <;> first | (exact w.elim) | skip
  · rename_i d e
    obtain ⟨v, hl, _⟩ := R.slot i _ d e
    exact ⟨v, hl, R.place hl, (show FlP c [] σ G H D (.rt true d (env.set i none)) from w) σ G H v (R.drop i) (.refl _) (fun _ _ => rfl) (R.slotVal e hl)⟩
  · rename_i d e
    obtain ⟨v, hl, r⟩ := R.slot i _ d e
    refine ⟨v, hl, R.place hl, (show FlP c [] σ G H D (.rt false d env) from w) σ G H v R (.refl _) (fun _ _ => rfl) ?_⟩
    unfold ValOk
    rw [if_neg Bool.false_ne_true]
    exact r
theorem retN_read (w : ts c ξ F .retN D σ H) : tRetN D σ H := by
  obtain ⟨env, G, R, w⟩ := w
  simp only [evalS] at w
  refine (show FlP c [] σ G H D (.rt false .non env) from w) σ G H .non R (.refl _) (fun _ _ => rfl) ?_
  unfold ValOk
  rw [if_neg Bool.false_ne_true]
  exact .non
theorem brk_read (w : ts c ξ F .brk D σ H) : tBreak D σ H := by
  obtain ⟨env, G, R, w⟩ := w
  simp only [evalS] at w
  exact (show FlP c [] σ G H D (.bk env) from w) σ G H R (.refl _) fun _ _ => rfl
theorem cnt_read (w : ts c ξ F .cnt D σ H) : tCont D σ H := by
  obtain ⟨env, G, R, w⟩ := w
  simp only [evalS] at w
  exact (show FlP c [] σ G H D (.ct env) from w) σ G H R (.refl _) fun _ _ => rfl
theorem pas_read (w : ts c ξ F .pas D σ H) : tNext D σ H := by
  obtain ⟨env, G, R, w⟩ := w
  simp only [evalS] at w
  exact (show FlP c [] σ G H D (.nx env) from w) σ G H R (.refl _) fun _ _ => rfl
theorem nev_read (w : ts c ξ F .nev D σ H) : tNever D σ H := by
  obtain ⟨env, G, R, w⟩ := w
  simp only [evalS] at w
  exact w.elim
theorem cond_read {e : E} {a b : S} (w : ts c ξ F (.cond e a b) D σ H) : tIfS (tb1 c ξ F e) (ts c ξ F a) (ts c ξ F b) D σ H := by
  obtain ⟨env, G, R, w⟩ := w
  simp only [evalS, PR.bind] at w
  refine ⟨env, G, R, w.mono fun p k => ?_⟩
  obtain ⟨t, e1, k⟩ := PR.of k
  refine ⟨t, e1, fun G1 H1 R1 g1 => ?_⟩
  have k' : PR c ξ (if t = true then evalS F a p.2 else evalS F b p.2) (FlP c (asg a ++ asg b) σ G H D) := k
  cases t with
  | true => exact ⟨p.2, G1, R1, PR.mono (show PR c ξ (evalS F a p.2) _ from k') fun f k2 => FlP.back k2 (fun i hi z => hi (List.mem_append_left _ z)) g1.g fun i _ => g1.loc i⟩
  | false => exact ⟨p.2, G1, R1, PR.mono (show PR c ξ (evalS F b p.2) _ from k') fun f k2 => FlP.back k2 (fun i hi z => hi (List.mem_append_right _ z)) g1.g fun i _ => g1.loc i⟩
theorem whl_read {e : E} {b : S} (w : ts c ξ F (.whl e b) D σ H) : tWhile (tb1 c ξ F e) (ts c ξ F b) D σ H := by
  obtain ⟨env, G, R, w⟩ := w
  simp only [evalS] at w
  refine ⟨fun m σ' H' => ∃ env' G', Rel c env' σ' G' H' ∧ Ex G G' ∧ (∀ i, i ∉ asg b → loc c σ' H' i = loc c σ H i) ∧
    PR c ξ (whlR (fun env => evalE F e env >>= fun p => Vf.R.of (dtruth p.1.2) >>= fun t => .ok (t, p.2)) (fun env => evalS F b env) m env') (FlP c (asg b) σ G H D),
    ⟨whileFuel, env, G, R, .refl _, fun _ _ => rfl, w⟩, fun m σ' H' ⟨env', G', R', eg, hl, w⟩ => ?_⟩
  cases m with
  | zero => exact False.elim w
  | succ m =>
    simp only [whlR, PR.bind] at w
    refine ⟨env', G', R', w.mono fun p k => ?_⟩
    obtain ⟨t, e1, k⟩ := PR.of k
    refine ⟨t, e1, fun G1 H1 R1 g1 => ?_⟩
    have hl1 : ∀ i, i ∉ asg b → loc c σ' H1 i = loc c σ H i := fun i hi => (g1.loc i).trans (hl i hi)
    cases t with
    | false => exact (show FlP c (asg b) σ G H D (.nx p.2) from k) σ' G1 H1 R1 (eg.trans g1.g) hl1
    | true =>
      have k' : PR c ξ (evalS F b p.2 >>= _) _ := k
      rw [PR.bind] at k'
      change ∃ N : L2.St → Hp → Prop, (∀ σ' H', N σ' H' → ∃ m', m' < m + 1 ∧ _) ∧ _
      refine ⟨_, fun σ2 H2 z => ⟨m, Nat.lt_succ_self m, z⟩, p.2, G1, R1, k'.mono fun f k2 => ?_⟩
      cases f with
      | nx e2 => exact fun σ2 G2 H2 R2 g2 l2 => ⟨e2, G2, R2, (eg.trans g1.g).trans g2, fun i hi => (l2 i hi).trans (hl1 i hi), k2⟩
      | ct e2 => exact fun σ2 G2 H2 R2 g2 l2 => ⟨e2, G2, R2, (eg.trans g1.g).trans g2, fun i hi => (l2 i hi).trans (hl1 i hi), k2⟩
      | bk e2 => exact fun σ2 G2 H2 R2 g2 l2 => (show FlP c (asg b) σ G H D (.nx e2) from k2) σ2 G2 H2 R2 ((eg.trans g1.g).trans g2) fun i hi => (l2 i hi).trans (hl1 i hi)
      | rt m' d e2 => exact fun σ2 G2 H2 v R2 g2 l2 ok => (show FlP c (asg b) σ G H D (.rt m' d e2) from k2) σ2 G2 H2 v R2 ((eg.trans g1.g).trans g2) (fun i hi => (l2 i hi).trans (hl1 i hi)) ok
/-- a slot that is read while it is passed stands outside what the body sets -/
def srcFree (a : E) (A : List Nat) : Bool :=
  match a with
  | .var j => !A.contains j
  | .fld j _ => !A.contains j
  | _ => true
theorem src_free {k : IK} {a : E} {A : List Nat} {env e1 : Env} {r : R (W × Env)} {p q : Op} {j : Nat} (h : srcFree a A = true) (h1 : opd a r env = .ok (p, e1)) {e2 : Env} (h2 : src k p q e2 = some (.slot j)) : j ∉ A := by
  have hp : p = .sl j := by
    unfold src at h2
    split at h2
    · split at h2
      · cases h2; rfl
      · cases h2
    all_goals first | (cases h2; done) | exact absurd (ck_some h2).2 (fun z => nomatch z)
  subst hp
  unfold opd at h1
  split at h1
  · split at h1
    · cases h1
    · rename_i z; cases h1
      simpa [srcFree] using h
    · cases h1
  · split at h1
    · cases h1
    · rename_i z; cases h1
      simpa [srcFree] using h
    · cases h1
  · cases r with
    | ok w => cases h1
    | exc k x => cases h1
    | stk => cases h1
theorem forr_read {k : IK} {a b : E} {p : Pat} {body : S} (hn : ∀ i ∈ slotsP p, Sl c i) (hf : srcFree a (slotsP p ++ asg body) = true) (w : ts c ξ F (.forr k a b p body) D σ H) :
    tFor (ti c ξ F k a b) (gPat c.K p) (ts c ξ F body) D σ H := by
  obtain ⟨env, G, R, w⟩ := w
  simp only [evalS, PR.bind] at w
  refine ⟨env, G, R, ?_⟩
  simp only [srcR, PR.bind]
  refine (w.and fun u hu => hu).mono fun u ⟨w, hu⟩ => w.mono fun v w => (w.and (Q := fun s => ∀ j, s = .slot j → j ∉ slotsP p ++ asg body) fun s hs j hj => ?_).mono fun s ⟨w, hfs⟩ => ?_
  · subst hj
    cases hq : src k u.1 v.1 v.2 with
    | none => rw [hq] at hs; cases hs
    | some s' =>
      rw [hq] at hs; cases hs
      exact src_free hf hu hq
  intro G1 H1 J R1 g1 so
  have w' : PR c ξ (forG (fun x env1 => Vf.R.of (bindP p x env1) >>= fun env2 => evalS F body env2) s (fuelOf s) 0 v.2) (FlP c (slotsP p ++ asg body) σ G H D) := w
  generalize hA : slotsP p ++ asg body = A at w' hfs
  refine ⟨fun i m σ' H' => ∃ env' G', Rel c env' σ' G' H' ∧ Ex G1 G' ∧ (∀ j, j ∉ A → loc c σ' H' j = loc c σ H1 j) ∧
    PR c ξ (forG (fun x env1 => Vf.R.of (bindP p x env1) >>= fun env2 => evalS F body env2) s m i env') (FlP c A σ G H D),
    ⟨fuelOf s, v.2, G1, R1, .refl _, fun _ _ => rfl, w'⟩, fun i m σ' H' ⟨env', G', R', eg, hl, w⟩ => ?_⟩
  have src := so env' σ' G' H' R' eg (fun j hj => hl j (hfs j hj)) i
  have fin : nxtOf s i env' = some none → FlP c A σ G H D (.nx env') → J.stop i H' ∧ D.nx σ' H' := fun z k => ⟨src.1 z, k σ' G' H' R' (g1.g.trans eg) fun j hj => (hl j hj).trans (g1.loc j)⟩
  cases m with
  | zero =>
    unfold forG at w
    split at w
    · rename_i z; exact .inl (fin z w)
    · exact w.elim
  | succ m =>
    unfold forG at w
    split at w
    · exact w.elim
    · rename_i z; exact .inl (fin z w)
    · rename_i x z
      obtain ⟨hgo, hy⟩ := src.2 x z
      simp only [PR.bind] at w
      obtain ⟨env2, hb, w⟩ := PR.of w
      refine .inr ⟨hgo, _, fun σ2 H2 z => ⟨m, Nat.lt_succ_self m, z⟩, fun x' H2 y => ?_⟩
      obtain ⟨G2, N2⟩ := hy x' H2 y
      obtain ⟨R2, ok2⟩ := R'.new N2
      have r2 : Rep c.toKc G2 x' x := by
        unfold ValOk at ok2
        rw [if_neg Bool.false_ne_true] at ok2
        exact ok2
      have gN := R'.gr N2
      refine bind_ok p hn hb R2 r2 fun σ2 R3 s2 gv2 m2 => ⟨env2, G2, R3, w.mono fun f k2 => ?_⟩
      have hl2 : ∀ j, j ∉ A → loc c σ2 H2 j = loc c σ H1 j := fun j hj => by
        have h1 : loc c σ2 H2 j = loc c σ' H2 j := by
          unfold loc
          split
          · rw [s2 j fun z => hj (by rw [← hA]; exact List.mem_append_left _ z)]
          · rfl
        rw [h1]
        exact (gN.loc j).trans (hl j hj)
      have ha : ∀ j, j ∉ A → j ∉ asg body := fun j hj z => hj (by rw [← hA]; exact List.mem_append_right _ z)
      have e3 := eg.trans N2.gg
      cases f with
      | nx e2 => exact fun σ3 G3 H3 R3 g3 l3 => ⟨e2, G3, R3, e3.trans g3, fun i hi => (l3 i (ha i hi)).trans (hl2 i hi), k2⟩
      | ct e2 => exact fun σ3 G3 H3 R3 g3 l3 => ⟨e2, G3, R3, e3.trans g3, fun i hi => (l3 i (ha i hi)).trans (hl2 i hi), k2⟩
      | bk e2 => exact fun σ3 G3 H3 R3 g3 l3 => (show FlP c A σ G H D (.nx e2) from k2) σ3 G3 H3 R3 (g1.g.trans (e3.trans g3)) fun i hi => (l3 i (ha i hi)).trans ((hl2 i hi).trans (g1.loc i))
      | rt m' d e2 => exact fun σ3 G3 H3 v R3 g3 l3 ok => (show FlP c A σ G H D (.rt m' d e2) from k2) σ3 G3 H3 v R3 (g1.g.trans (e3.trans g3)) (fun i hi => (l3 i (ha i hi)).trans ((hl2 i hi).trans (g1.loc i))) ok
end
end Vf
end
section
namespace Vf
open PySem L2
theorem putF_keys (f : Str) (v : V) : ∀ fs : List (Str × V), (putF f v fs).map (·.1) = if f ∈ fs.map (·.1) then fs.map (·.1) else fs.map (·.1) ++ [f]
  | [] => by simp [putF]
  | (g, x) :: r => by
    unfold putF
    by_cases h : g = f
    · subst h
      rw [if_pos rfl, if_pos (by simp)]; rfl
    · rw [if_neg h, List.map_cons, putF_keys f v r]
      have hne : ¬ f = g := fun z => h z.symm
      by_cases h2 : f ∈ r.map (·.1)
      · rw [if_pos h2, if_pos (by rw [List.map_cons]; exact List.mem_cons_of_mem _ h2)]; rfl
      · rw [if_neg h2, if_neg (by rw [List.map_cons, List.mem_cons]; exact fun z => z.elim hne h2)]; rfl
section
variable {c : Cc} {env : Env} {σ : L2.St} {G H : Hp} {md : Md} {v : V} {d : D} {i : Nat} {x : Addr} {f : Str} {fs : List (Str × V)}
theorem Rel.fset (R : Rel c env σ G H) (hx : c.self = some x) (ho : H x = some (.ins c.selfC c.selfD fs)) (hi : c.n ≤ i) (hf : c.fl[i - c.n]? = some f) (nd : c.fl.Nodup) (h : Val2 c env σ G H md v d) :
    Rel c (env.set i (some (md, d))) σ G (upd H x (.ins c.selfC c.selfD (putF f v fs))) ∧ ∀ j, j ≠ i → loc c σ (upd H x (.ins c.selfC c.selfD (putF f v fs))) j = loc c σ H j := by
  obtain ⟨gx, sx, _⟩ := R.sf x hx
  have hli : loc c σ (upd H x (.ins c.selfC c.selfD (putF f v fs))) i = some v := by
    unfold loc
    rw [if_neg (Nat.not_lt.mpr hi), hx]
    simp only [upd_same, hf, Option.bind_some, lookup_putF, if_pos]
  have hlj : ∀ j, j ≠ i → loc c σ (upd H x (.ins c.selfC c.selfD (putF f v fs))) j = loc c σ H j := fun j hj => by
    unfold loc
    split
    · rfl
    · rename_i hn
      rw [hx]
      simp only [upd_same, ho]
      cases e : c.fl[j - c.n]? with
      | none => rfl
      | some g =>
        simp only [Option.bind_some, lookup_putF]
        rw [if_neg]
        intro z
        subst z
        obtain ⟨a1, a2⟩ := List.getElem?_eq_some_iff.mp e
        obtain ⟨b1, b2⟩ := List.getElem?_eq_some_iff.mp hf
        have := (List.getElem?_inj a1 nd).mp (e.trans hf.symm)
        omega
  have own_ne : ∀ {l : Addr} {d : D}, Own c.toKc G H l d → l ≠ x := fun {l d} o z => by
    subst z
    rcases o.H with ⟨_, w⟩ | ⟨_, w⟩ <;> (rw [ho] at w; cases w)
  have ow : ∀ {l : Addr} {d : D}, Own c.toKc G H l d → Own c.toKc G (upd H x (.ins c.selfC c.selfD (putF f v fs))) l d := fun {l d} o => o.mono (.refl _) (upd_ne (own_ne o))
  refine ⟨⟨R.len, fun a o q => ?_, R.g0, R.gfr, fun a o h1 h2 => ?_, fun a ha => ?_, fun j m d' e => ?_, fun j j' mj dj mj' dj' l ne e1 n1 e2 n2 q => ?_, fun y e => ?_, R.s0, fun y fs' e h' => ?_⟩, hlj⟩
  · rw [upd_ne (fun z => by subst z; rw [gx] at q; cases q)]; exact R.ex a o q
  · rw [upd_ne (fun z => by subst z; exact h2 sx)]; exact R.fr a o h1 h2
  · by_cases z : a = x
    · subst z; rw [upd_same]; exact fun z => nomatch z
    · rw [upd_ne z]; exact R.sH a ha
  · rw [getV_set] at e
    split at e
    · rename_i z
      cases e
      rw [← z.1]
      refine ⟨v, hli, ?_⟩
      rcases h with ⟨rfl, r⟩ | ⟨rfl, l, rfl, t, o⟩
      · exact r
      · exact ⟨l, rfl, t.g, t.h0, ow o⟩
    · rename_i z
      have hji : j ≠ i := fun w => z ⟨w.symm, by subst w; exact getV_lt e⟩
      obtain ⟨u, q1, q2⟩ := R.slot j m d' e
      refine ⟨u, (hlj j hji).trans q1, ?_⟩
      cases m with
      | sh => exact q2
      | own => obtain ⟨l, z1, z2, z3, o⟩ := q2; exact ⟨l, z1, z2, z3, ow o⟩
      | ino => obtain ⟨l, z1, z2, z3, o⟩ := q2; exact ⟨l, z1, z2, z3, ow o⟩
  · rw [getV_set] at e1 e2
    split at e1
    · rename_i z
      cases e1
      rw [← z.1, hli] at q
      split at e2
      · rename_i z2; exact absurd (z.1.symm.trans z2.1) ne
      · rename_i z2
        have hji : j' ≠ i := fun w => z2 ⟨w.symm, by subst w; exact getV_lt e2⟩
        rw [hlj j' hji]
        rcases h with ⟨rfl, _⟩ | ⟨rfl, l', rfl, t, _⟩
        · exact absurd rfl n1
        · cases q
          exact t.ns j' _ _ e2 n2
    · rename_i z
      have hji : j ≠ i := fun w => z ⟨w.symm, by subst w; exact getV_lt e1⟩
      rw [hlj j hji] at q
      split at e2
      · rename_i z2
        cases e2
        rw [← z2.1, hli]
        rcases h with ⟨rfl, _⟩ | ⟨rfl, l', rfl, t, _⟩
        · exact absurd rfl n2
        · intro w
          cases w
          exact t.ns j _ _ e1 n1 q
      · rename_i z2
        have hji' : j' ≠ i := fun w => z2 ⟨w.symm, by subst w; exact getV_lt e2⟩
        rw [hlj j' hji']
        exact R.dist j j' mj dj mj' dj' l ne e1 n1 e2 n2 q
  · rw [hx] at e; cases e
    exact ⟨gx, sx, _, upd_same⟩
  · rw [hx] at e; cases e
    rw [upd_same] at h'
    cases h'
    obtain ⟨k1, k2⟩ := R.fsok x fs hx ho
    have kf : f ∈ c.fl := List.mem_of_getElem? hf
    rw [putF_keys]
    split
    · exact ⟨k1, k2⟩
    · rename_i hn
      refine ⟨List.nodup_append.mpr ⟨k1, List.nodup_cons.mpr ⟨List.not_mem_nil, List.nodup_nil⟩, fun a ha b hb z => ?_⟩, fun k hk => ?_⟩
      · subst z
        rw [List.mem_singleton] at hb
        subst hb
        exact hn ha
      · rcases List.mem_append.mp hk with hk | hk
        · exact k2 k hk
        · rw [List.mem_singleton] at hk
          subst hk
          exact kf
end
end Vf
end
section
namespace Vf
open PySem L2
theorem nodup_len {α : Type} [BEq α] [LawfulBEq α] : ∀ {l m : List α}, l.Nodup → (∀ x ∈ l, x ∈ m) → l.length ≤ m.length
  | [], m, _, _ => Nat.zero_le _
  | x :: l, m, h, k => by
    obtain ⟨h1, h2⟩ := List.nodup_cons.mp h
    have hx := k x List.mem_cons_self
    have := nodup_len (l := l) (m := m.erase x) h2 fun y hy => (List.mem_erase_of_ne (fun z => by subst z; exact h1 hy)).mpr (k y (List.mem_cons_of_mem _ hy))
    rw [List.length_erase_of_mem hx] at this
    have : 0 < m.length := List.length_pos_of_mem hx
    rw [List.length_cons]; omega
/-- o.f = .., as a target -/
def gFld (K : PySem.W.Frag) (ta : TE) (f : Str) : TG := fun y σ H Q => ta σ H fun x H1 => ∃ a C dx fs, x = .ref a ∧ H1 a = some (.ins C dx fs) ∧ L2.Cls K C ∧ NoAttr K C f ∧ fs.length < 1000 ∧ Q σ (upd H1 a (.ins C dx (putF f y fs)))
section
variable {X : Cx} {o : Expr} {f : Str} {pos : Pos} {ta : TE}
theorem pg_fld (ha : PE X o ta) : PG X (.Attribute o f pos) (gFld X.K ta f) := by
  refine ⟨fun pins s σ H v u Q I r h => ?_⟩
  show wpAny (model X.prog X.w) X.A (do
      let ov ← holding [u] (eval o X.env)
      standAt pos.atName
      holding [u, ov] (setAttr ov f u)
      release [u, ov] []) _ _ s
  refine wpAny_bind (wpAny_holding (thn (ha.run pins s σ H _ I h) fun ov s2 ⟨x, H2, I2, rx, a, C, dx, fs, ex, ea, c, n, l, q2⟩ => ?_))
  subst ex
  obtain rfl : ov = Value.ref a := rx
  refine wpAny_bind (wpAny_standAt (wpAny_bind (wpAny_holding (setattr_ok I2 ea c n l r fun s3 I3 => ?_))))
  exact wpAny_release ⟨σ, _, I3, q2⟩
end
section
variable {π : Pi} {c : Cc} {ξ : XK} {F : Fs} {n : Nat} {N fl : List Str} {ns : Ns} {X : Cx} {D : Ends} {σ : L2.St} {H : Hp}
theorem Rel.fslen {env : Env} {G : Hp} (R : Rel c env σ G H) {x : Addr} {fs : List (Str × V)} (hx : c.self = some x) (ho : H x = some (.ins c.selfC c.selfD fs)) (hz : c.fl.length < 1000) : fs.length < 1000 := by
  obtain ⟨h1, h2⟩ := R.fsok x fs hx ho
  have : (fs.map (·.1)).length ≤ c.fl.length := nodup_len h1 h2
  rw [List.length_map] at this
  omega
theorem Val2.sh {env : Env} {G : Hp} {v : V} {d : Vf.D} (r : Rep c.toKc G v d) : Val2 c env σ G H .sh v d := .inl ⟨rfl, r⟩
/-- self.f = e -/
theorem fset_read {i : Nat} {f : Str} {x : Addr} (hx : c.self = some x) (hi : c.n ≤ i) (hf : c.fl[i - c.n]? = some f) (nd : c.fl.Nodup) (hz : c.fl.length < 1000) (hc : L2.Cls c.K c.selfC ∧ NoAttr c.K c.selfC f) {e : E} (w : ts c ξ F (.fset i f e) D σ H) : sFld c.K (tVar 0) (tv c ξ F e) f D σ H := by
  obtain ⟨env, G, R, w⟩ := w
  simp only [evalS, PR.bind] at w
  refine ⟨env, G, R, w.mono fun p k G1 H1 v R1 g1 ok => ?_⟩
  obtain ⟨G2, R2, e2, v2, _, _⟩ := R1.ready ok
  obtain ⟨_, _, fs, ho⟩ := R2.sf x hx
  obtain ⟨R3, hl⟩ := R2.fset hx ho hi hf nd v2
  refine ⟨.ref x, R2.s0 x hx, x, _, _, fs, rfl, ho, hc.1, hc.2, R2.fslen hx ho hz, ?_⟩
  exact (show FlP c [i] σ G H D (.nx _) from k) σ G2 _ R3 (g1.g.trans e2) fun j hj => (hl j (by simpa using hj)).trans (g1.loc j)
/-- self.f, self.g = e -/
theorem fst2_read {i j : Nat} {f f2 : Str} {x : Addr} (hx : c.self = some x) (hi : c.n ≤ i) (hj : c.n ≤ j) (hf : c.fl[i - c.n]? = some f) (hf2 : c.fl[j - c.n]? = some f2) (nd : c.fl.Nodup) (hz : c.fl.length < 1000) (hc : L2.Cls c.K c.selfC ∧ NoAttr c.K c.selfC f) (hc2 : NoAttr c.K c.selfC f2) {e : E}
    (w : ts c ξ F (.fst2 i j e) D σ H) : tAsg (tv c ξ F e) (gTup c.K 2 (gCons (gFld c.K (tVar 0) f) (gCons (gFld c.K (tVar 0) f2) gNil))) D σ H := by
  obtain ⟨env, G, R, w⟩ := w
  simp only [evalS, PR.bind] at w
  refine T_sh R (w.mono fun p k G1 H1 v R1 g1 r1 => ?_)
  obtain ⟨q, e1, k⟩ := PR.of k
  obtain ⟨d1, d2⟩ := q
  have e2 : p.1.2 = .tup [d1, d2] := by
    unfold two at e1
    split at e1
    · cases e1; assumption
    · cases e1
  rw [e2] at r1
  cases r1 with
  | @tup t vs _ hs rr =>
  obtain ⟨u1, us1, rfl, q1, rr⟩ := rr.inv
  obtain ⟨u2, us2, rfl, q2, rr⟩ := rr.inv
  obtain rfl := rr.inv0
  obtain ⟨_, _, fs, ho⟩ := R1.sf x hx
  obtain ⟨R2, hl⟩ := R1.fset hx ho hi hf nd (Val2.sh q1)
  obtain ⟨_, _, fs2, ho2⟩ := R2.sf x hx
  obtain ⟨R3, hl2⟩ := R2.fset hx ho2 hj hf2 nd (Val2.sh q2)
  have k' : FlP c [i, j] σ G H D (.nx ((p.2.set i (some (.sh, d1))).set j (some (.sh, d2)))) := k
  refine ⟨t, [u1, u2], rfl, R1.ex.sqt hs, rfl, u1, [u2], rfl, .ref x, R1.s0 x hx, x, _, _, fs, rfl, ho, hc.1, hc.2, R1.fslen hx ho hz, ?_⟩
  refine ⟨u2, [], rfl, .ref x, R2.s0 x hx, x, _, _, fs2, rfl, ho2, hc.1, hc2, R2.fslen hx ho2 hz, rfl, ?_⟩
  exact k' σ G1 _ R3 g1.g fun m hm => by
    simp only [List.mem_cons, List.not_mem_nil, or_false, not_or] at hm
    exact (hl2 m hm.2).trans ((hl m hm.1).trans (g1.loc m))
end
end Vf
end
section
/-! runs of ascending numbers, kept in lists within a list -/
namespace Vf
open PySem L2 PyProof.Rows
def negS : Expr → Bool
  | .UnaryOp .USub (.Constant (.int 1) _ _) _ => true
  | _ => false
theorem negS_ok {e : Expr} (h : negS e = true) : ∃ j p q, e = .UnaryOp .USub (.Constant (.int 1) j p) q := by
  unfold negS at h; split at h <;> first | exact ⟨_, _, _, rfl⟩ | cases h
/-- for x in h: if TEST: f[-1].append(x) else: f.append([x]) -/
def spnS : Stmt → Option (Str × Str × Expr × (Str × Str) × Str × Str)
  | .For (.Name x _) (.Name h _) [.If test [.Expr (.Call (.Attribute (.Subscript (.Name f3 _) n3 _) m3 ap3) [.Name x3 _] [] cp3) _] [.Expr (.Call (.Attribute (.Name f4 _) m4 ap4) [.List [.Name x4 _] _] [] cp4) _] _] [] _ =>
    if m3 = "append" ∧ m4 = "append" ∧ negS n3 = true ∧ (ap3.endLine == cp3.line) = true ∧ (ap4.endLine == cp4.line) = true then some (x, h, test, (f3, x3), f4, x4) else none
  | _ => none
theorem spnS_ok {st : Stmt} {x h f3 x3 f4 x4 : Str} {test : Expr} (e : spnS st = some (x, h, test, (f3, x3), f4, x4)) :
    ∃ p1 p2 p3 p4 p5 p6 p7 p8 p9 p10 p11 p12 p13 ap3 cp3 ap4 cp4 j q1 q2, (ap3.endLine == cp3.line) = true ∧ (ap4.endLine == cp4.line) = true ∧
      st = .For (.Name x p1) (.Name h p2) [.If test [.Expr (.Call (.Attribute (.Subscript (.Name f3 p3) (.UnaryOp .USub (.Constant (.int 1) j q1) q2) p4) "append" ap3) [.Name x3 p5] [] cp3) p6] [.Expr (.Call (.Attribute (.Name f4 p7) "append" ap4) [.List [.Name x4 p8] p9] [] cp4) p10] p11] [] p12 ∧ p13 = p12 := by
  unfold spnS at e
  split at e
  · split at e
    · rename_i hh
      obtain ⟨rfl, rfl, hn, h1, h2⟩ := hh
      obtain ⟨j, p, q, rfl⟩ := negS_ok hn
      cases e
      exact ⟨_, _, _, _, _, _, _, _, _, _, _, _, _, _, _, _, _, _, _, _, h1, h2, rfl, rfl⟩
    · cases e
  · cases e
def mone : E := .un .neg (.con (.int 1))
/-- found != [] and found[-1][-1] == hour - 1 -/
def spnT (i x : Nat) : E := .and (.bi .ne (.var i) (.lst .nil)) (.bi .eq (.bi .idx (.bi .idx (.var i) mone) mone) (.bi .sub (.var x) (.con (.int 1))))
def chkSpn (π : Pi) (io : Nat → List Bool) (N fl : List Str) (ns : Ns) (i x h : Nat) (st : Stmt) : Bool :=
  match spnS st with
  | some (xn, hn, test, (f3, x3), f4, x4) => decide (f3 = f4 ∧ x3 = xn ∧ x4 = xn) && decide (N[i]? = some f3) && visB ns f3 && nmB f3 && decide (N[x]? = some xn) && locB ns xn && visB ns xn && nmB xn && decide (N[h]? = some hn) && visB ns hn && nmB hn && decide (i ≠ x ∧ i ≠ h ∧ x ≠ h) && chkE π io N fl ns (spnT i x) test
  | none => false
def rsD (rs : List (List Int)) : List D := rs.map fun l => D.lst (l.map .int)
def rsP (rs : List (List Int)) : List PyData := rs.map fun l => PyData.list (l.map .int)
theorem toP_ints : ∀ l : List Int, toPs (l.map D.int) = some (l.map PyData.int)
  | [] => rfl
  | x :: r => by rw [List.map_cons, toPs, toP, Option.bind_some, toP_ints r]; rfl
theorem toP_rs : ∀ rs : List (List Int), toPs (rsD rs) = some (rsP rs)
  | [] => rfl
  | x :: r => by
    show toPs (D.lst (x.map .int) :: rsD r) = _
    rw [toPs, toP, toP_ints, Option.map_some, Option.bind_some, toP_rs r]; rfl
theorem lay_ints : ∀ l : List Int, PyData.canLayAll0 (l.map PyData.int) = true ∧ PyData.depthAll (l.map PyData.int) = 0
  | [] => ⟨rfl, rfl⟩
  | x :: r => by
    obtain ⟨h1, h2⟩ := lay_ints r
    simp [PyData.canLayAll0, PyData.canLay0, PyData.depthAll, PyData.depth, h1, h2]
theorem lay_rs : ∀ rs : List (List Int), PyData.canLayAll0 (rsP rs) = true ∧ PyData.depthAll (rsP rs) ≤ 1
  | [] => ⟨rfl, by simp [rsP, PyData.depthAll]⟩
  | x :: r => by
    obtain ⟨h1, h2⟩ := lay_rs r
    obtain ⟨h3, h4⟩ := lay_ints x
    show PyData.canLayAll0 (PyData.list (x.map .int) :: rsP r) = true ∧ PyData.depthAll (PyData.list (x.map .int) :: rsP r) ≤ 1
    simp only [PyData.canLayAll0, PyData.canLay0, PyData.depthAll, PyData.depth, h1, h3, h4, Bool.and_self, true_and]
    omega
theorem shaped_rs (rs : List (List Int)) : SeqAt.shaped (.list (rsP rs)) = true := by
  obtain ⟨h1, h2⟩ := lay_rs rs
  show (PyData.canLay0 (.list (rsP rs)) && decide (PyData.depth (.list (rsP rs)) ≤ 64)) = true
  refine Bool.and_eq_true_iff.mpr ⟨h1, decide_eq_true ?_⟩
  have : PyData.depth (.list (rsP rs)) = PyData.depthAll (rsP rs) + 1 := by rw [PyData.depth]
  omega
theorem eqv_nil (rs : List (List Int)) : PyData.eqv (.list (rsP rs)) (.list []) = rs.isEmpty := by
  cases rs <;> simp [rsP, PyData.eqv, PyData.eqvAll]
def spnB (rs : List (List Int)) (h : Int) : Bool :=
  match rs.getLast? with
  | some l => decide (l.getLast? = some (h - 1))
  | none => false
theorem stepG_B (rs : List (List Int)) (h : Int) : stepG rs h = if spnB rs h = true then rs.dropLast ++ [rs.getLast?.getD [] ++ [h]] else rs ++ [[h]] := by
  unfold stepG spnB
  cases rs.getLast? with
  | none => rfl
  | some l => by_cases q : l.getLast? = some (h - 1) <;> simp [q]
theorem atI_m1 {α : Type} {xs : List α} {v : α} (h : xs.getLast? = some v) : atI xs (-1) = some v := by
  obtain ⟨ys, rfl⟩ := List.getLast?_eq_some_iff.mp h
  exact atI_last ys v
theorem dEq_int (a b : Int) : dEq (.int a) (.int b) = some (a == b) := by
  unfold dEq
  simp only [toP]
  rw [if_pos ⟨rfl, rfl⟩]
  rfl
section
variable {π : Pi} {c : Cc} {ξ : XK} {F : Fs} {n : Nat} {N fl : List Str} {ns : Ns} {X : Cx} {D : Ends} {σ : L2.St} {H : Hp} {io : Nat → List Bool}
theorem spnT_run {env : Env} {i x : Nat} {rs : List (List Int)} {h : Int} (h1 : getV env i = some (.sh, .lst (rsD rs))) (h2 : getV env x = some (.sh, .int h)) (hne : ∀ l ∈ rs, l ≠ []) : evalE F (spnT i x) env = .ok ((false, .bl (spnB rs h)), env) := by
  have e1 : evalE F (.bi .ne (.var i) (.lst .nil)) env = .ok ((false, .bl (!rs.isEmpty)), env) := by
    simp only [evalE, opd, h1, Vf.R.bind_ok, evalEs, Op.get, Vf.R.of_some]
    rw [chk_pos (by decide)]
    simp only [Vf.R.bind_ok, Op.get, Vf.R.of_some, bi1]
    have : dEq (.lst (rsD rs)) (.lst []) = some rs.isEmpty := by
      unfold dEq
      simp only [toP, toP_rs, toPs, Option.map_some]
      rw [if_pos ⟨shaped_rs rs, by decide⟩, eqv_nil]
    rw [this]
    rfl
  unfold spnT
  rw [evalE, e1, Vf.R.bind_ok]
  simp only [dtruth, Vf.R.of_some, Vf.R.bind_ok]
  cases hl : rs.getLast? with
  | none =>
    obtain rfl := List.getLast?_eq_none_iff.mp hl
    simp [spnB]
  | some l =>
    have hr : rs ≠ [] := fun z => by subst z; simp at hl
    have he : rs.isEmpty = false := by cases rs <;> simp_all
    have hlm : l ∈ rs := List.mem_of_getLast? hl
    obtain ⟨v, hv⟩ : ∃ v, l.getLast? = some v := by
      cases q : l.getLast? with
      | none => exact absurd (List.getLast?_eq_none_iff.mp q) (hne l hlm)
      | some v => exact ⟨v, rfl⟩
    rw [he, if_pos (by decide)]
    have m1 : evalE F mone env = .ok ((false, .int (-1)), env) := by
      unfold mone
      simp only [evalE, opd, Vf.R.bind_ok, Op.get, Vf.R.of_some, un1, vw, Cn.d]
    have om : opd mone (evalE F mone env) env = .ok (.va (.int (-1)), env) := by
      rw [m1]; rfl
    have i1 : evalE F (.bi .idx (.var i) mone) env = .ok ((false, .lst (l.map .int)), env) := by
      have ov : opd (.var i) (evalE F (.var i) env) env = .ok (.va (.lst (rsD rs)), env) := by simp only [opd, h1]
      rw [evalE, ov, Vf.R.bind_ok, om]
      simp only [Vf.R.bind_ok, Op.get, Vf.R.of_some, bi1]
      rw [atI_m1 (v := Vf.D.lst (l.map .int)) (by unfold rsD; rw [List.getLast?_map, hl]; rfl)]
      rfl
    have i2 : evalE F (.bi .idx (.bi .idx (.var i) mone) mone) env = .ok ((false, .int v), env) := by
      rw [evalE]
      rw [show opd (.bi .idx (.var i) mone) (evalE F (.bi .idx (.var i) mone) env) env = (evalE F (.bi .idx (.var i) mone) env >>= fun p => Vf.R.ok (Op.va p.1.2, p.2)) from rfl, i1]
      simp only [Vf.R.bind_ok]
      rw [om]
      simp only [Vf.R.bind_ok, Op.get, Vf.R.of_some, bi1]
      rw [atI_m1 (v := Vf.D.int v) (by rw [List.getLast?_map, hv]; rfl)]
      rfl
    have i3 : evalE F (.bi .sub (.var x) (.con (.int 1))) env = .ok ((false, .int (h - 1)), env) := by
      simp only [evalE, opd, h2, Vf.R.bind_ok, Op.get, Vf.R.of_some, bi1, vw, Cn.d]
    rw [evalE]
    rw [show opd (.bi .idx (.bi .idx (.var i) mone) mone) (evalE F (.bi .idx (.bi .idx (.var i) mone) mone) env) env = (evalE F (.bi .idx (.bi .idx (.var i) mone) mone) env >>= fun p => Vf.R.ok (Op.va p.1.2, p.2)) from rfl, i2]
    simp only [Vf.R.bind_ok]
    rw [show opd (.bi .sub (.var x) (.con (.int 1))) (evalE F (.bi .sub (.var x) (.con (.int 1))) env) env = (evalE F (.bi .sub (.var x) (.con (.int 1))) env >>= fun p => Vf.R.ok (Op.va p.1.2, p.2)) from rfl, i3]
    simp only [Vf.R.bind_ok, Op.get, Vf.R.of_some, bi1, dEq_int, vw]
    congr 3
    unfold spnB
    rw [hl]
    dsimp only
    rw [hv]
    by_cases z : v = h - 1
    · simp [z]
    · simp [z]
/-- the part that nobody writes, with more objects in it -/
def addH (G H' : Hp) (A : List Addr) : Hp := fun a => if a ∈ A then H' a else G a
theorem noOwn_sh {env : Env} (h : noOwn env = true) {i : Nat} {m : Md} {d : Vf.D} (e : getV env i = some (m, d)) : m = .sh := by
  unfold noOwn at h
  unfold getV at e
  cases q : env[i]? with
  | none => rw [q] at e; cases e
  | some o =>
    rw [q] at e
    have e' : o = some (m, d) := e
    subst e'
    have := List.all_eq_true.mp h _ (List.mem_of_getElem? q)
    cases m <;> first | rfl | cases this
theorem Rel.grow {env : Env} {G H' : Hp} {A : List Addr} {la : Addr} (R : Rel c env σ G H) (ho : noOwn env = true) (hA : ∀ a ∈ A, G a = none ∧ c.H0 a = none ∧ H' a ≠ none ∧ ∀ x, c.self = some x → a ≠ x) (fr : ∀ a o, H a = some o → a ≠ la → H' a = some o) (hla : H' la ≠ none) (gla : G la = none) (h0 : c.H0 la = none) (sla : ∀ x, c.self = some x → la ≠ x) :
    Rel c env σ (addH G H' A) H' ∧ Ex G (addH G H' A) := by
  have eg : Ex G (addH G H' A) := fun a o q => by
    unfold addH
    rw [if_neg (fun z => by rw [(hA a z).1] at q; cases q)]
    exact q
  have slf : ∀ x, c.self = some x → H' x = H x := fun x e => by
    obtain ⟨_, _, fs, h⟩ := R.sf x e
    rw [h, fr x _ h (fun z => sla x e z.symm)]
  have hl := loc_self (c := c) (σ := σ) slf
  refine ⟨⟨R.len, fun a o q => ?_, R.g0.trans eg, fun a ha => ?_, fun a o h1 h2 => fr a o (R.fr a o h1 h2) (fun z => by subst z; rw [h0] at h1; cases h1), fun a ha q => ?_, fun j m d e => ?_, fun j j' mi di mj dj l ne e1 n1 => absurd (noOwn_sh ho e1) n1, fun x e => ?_, R.s0, fun x fs e h => R.fsok x fs e (by rw [← slf x e]; exact h)⟩, eg⟩
  · unfold addH at q
    split at q
    · exact q
    · exact fr a o (R.ex a o q) (fun z => by subst z; rw [gla] at q; cases q)
  · unfold addH at ha
    split at ha
    · rename_i hm; exact .inr (hA a hm).2.1
    · exact R.gfr a ha
  · by_cases z : a = la
    · subst z; exact hla q
    · cases w : H a with
      | none => exact R.sH a ha w
      | some o => rw [fr a o w z] at q; cases q
  · obtain ⟨v, h1, h2⟩ := R.slot j m d e
    have := noOwn_sh ho e
    subst this
    exact ⟨v, by rw [hl]; exact h1, Rep.mono eg h2⟩
  · obtain ⟨h1, h2, fs, h3⟩ := R.sf x e
    refine ⟨?_, h2, fs, by rw [slf x e]; exact h3⟩
    unfold addH
    rw [if_neg (fun z => (hA x z).2.2.2 x e rfl)]
    exact h1
/-- the loop's state -/
structure SpI (H : Hp) (la : Addr) (n : Nat) (rs : List (List Int)) (ls : List Addr) (H' : Hp) : Prop where
  hl : H' la = some (.lst (ls.map V.ref))
  nd : ls.Nodup
  nw : ∀ a ∈ ls, H a = none
  len : ls.length = rs.length
  at_ : ∀ (k : Nat) (a : Addr) (r : List Int), ls[k]? = some a → rs[k]? = some r → H' a = some (.lst (r.map V.int))
  fr : ∀ a o, H a = some o → a ≠ la → H' a = some o
  ne : ∀ r ∈ rs, r ≠ []
  bl : rs.length ≤ n
  br : ∀ r ∈ rs, r.length ≤ n
theorem SpI.reps {k : Kc} {G' : Hp} : ∀ {rs : List (List Int)} {ls : List Addr}, ls.length = rs.length → (∀ (k : Nat) (a : Addr) (r : List Int), ls[k]? = some a → rs[k]? = some r → G' a = some (.lst (r.map V.int))) → Reps k G' (ls.map V.ref) (rsD rs)
  | [], [], _, _ => .nil
  | [], _ :: _, h, _ => by cases h
  | _ :: _, [], h, _ => by cases h
  | r :: rs, a :: ls, h, f => .cons (.lst (.inl (.inl (f 0 a r rfl rfl))) (Reps.ofInts r)) (SpI.reps (by simpa using h) fun j b q e1 e2 => f (j + 1) b q (by simpa using e1) (by simpa using e2))
def tSpn (c : Cc) (ξ : XK) (F : Fs) (i x h : Nat) : TS :=
  tFor (iList c.K (tVar h)) (gName x) (tIfS (tb1 c ξ F (spnT i x)) (tDrop (tBM c.K "list" rAppend (tOp (rIxL c.K) (tVar i) (tUn (rU fun i => .int (-i)) (tC (.int 1)))) (tCons (tVar x) tNil))) (tDrop (tBM c.K "list" rAppend (tVar i) (tCons (tLst (tCons (tVar x) tNil)) tNil))))
theorem ps_spn (g : Gd π c ξ F n N fl ns X) (hi : F.ino = io) (hp : PassesOwn (model X.prog X.w) X.A X.env X.xe) {i x h : Nat} {st : Stmt} (hc : chkSpn π io N fl ns i x h st = true) : PS X st (tSpn c ξ F i x h) ∧ Sl c x ∧ (i < c.n ∧ h < c.n) ∧ i ≠ x ∧ i ≠ h ∧ x ≠ h := by
  unfold chkSpn at hc
  split at hc
  · rename_i xn hn test f3 x3 f4 x4 e
    simp only [Bool.and_eq_true, decide_eq_true_eq] at hc
    obtain ⟨⟨⟨⟨⟨⟨⟨⟨⟨⟨⟨⟨⟨rfl, rfl, rfl⟩, h1⟩, h2⟩, h3⟩, h4⟩, h5⟩, h6⟩, h7⟩, h8⟩, h9⟩, h10⟩, h11⟩, h12⟩ := hc
    obtain ⟨p1, p2, p3, p4, p5, p6, p7, p8, p9, p10, p11, p12, p13, ap3, cp3, ap4, cp4, j, q1, q2, l1, l2, rfl, _⟩ := spnS_ok e
    have vr : ∀ {k : Nat} {y : Str} {pp : Pos}, N[k]? = some y → visB ns y = true → nmB y = true → PE X (.Name y pp) (tVar k) := fun {k y pp} q1 q2 q3 => pe_var (by rw [g.hN]; exact q1) (g.vis q2) (nmB_ok q3).1 (nmB_ok q3).2.1
    have lt : ∀ {k : Nat} {y : Str}, N[k]? = some y → k < c.n := fun {k y} q => by rw [← g.len]; exact (List.getElem?_eq_some_iff.mp q).1
    obtain ⟨k1, k2⟩ := g.loc h5
    refine ⟨?_, g.sl h4 (locB_no h5), ⟨lt h1, lt h8⟩, h11.1, h11.2.1, h11.2.2⟩
    unfold tSpn
    rw [← g.K]
    exact ps_for hp g.calm (pi_list (vr h8 h9 h10)) (pg_name (by rw [g.hN]; exact g.nd) (by rw [g.hN]; exact h4) k1 k2)
      (pss_one (ps_if (sndE (spnT i x) g hi h12).o.s.pt
        (pss_one (ps_expr (pe_bm PySem.F.plainAttrs_list PySem.F.slot_list_append PySem.F.type_list_append mt_append (pe_ix ix_list (vr h1 h2 h3) (pe_un un_neg pe_int) (fun _ _ => rfl)) (pa_cons (vr h4 h6 h7) pa_nil) rfl rfl l1 rfl rfl)))
        (pss_one (ps_expr (pe_bm PySem.F.plainAttrs_list PySem.F.slot_list_append PySem.F.type_list_append mt_append (vr h1 h2 h3) (pa_cons (pe_lst (pa_cons (vr h4 h6 h7) pa_nil)) pa_nil) rfl rfl l2 rfl rfl)))))
  · cases hc
theorem SpI.ext {la : Addr} {m : Nat} {rs : List (List Int)} {ls : List Addr} {H1 H2 : Hp} (I : SpI H la m rs ls H1) (e : Ex H1 H2) : SpI H la m rs ls H2 :=
  ⟨e _ _ I.hl, I.nd, I.nw, I.len, fun k a r q1 q2 => e _ _ (I.at_ k a r q1 q2), fun a o q z => e _ _ (I.fr a o q z), I.ne, I.bl, I.br⟩
theorem runs_succ {ns : List Int} {m : Nat} {h : Int} (e : ns[m]? = some h) : runsG [] (ns.take (m + 1)) = stepG (runsG [] (ns.take m)) h := by
  rw [List.take_add_one, e]
  simp [runsG, List.foldl_append]
theorem SpI.app {la p : Addr} {m : Nat} {rs : List (List Int)} {ls : List Addr} {H1 : Hp} {h : Int} (I : SpI H la m rs ls H1) (hla : H la ≠ none) (hp : H1 p = none) (hB : spnB rs h = false) :
    SpI H la (m + 1) (stepG rs h) (ls ++ [p]) (upd (upd H1 p (.lst [.int h])) la (.lst (ls.map V.ref ++ [.ref p]))) := by
  rw [stepG_B, hB, if_neg Bool.false_ne_true]
  have pla : p ≠ la := fun z => by subst z; rw [I.hl] at hp; cases hp
  have pn : p ∉ ls := fun z => by
    obtain ⟨k, hk⟩ := List.getElem?_of_mem z
    have hk2 : k < rs.length := by have := (List.getElem?_eq_some_iff.mp hk).1; rw [I.len] at this; exact this
    rw [I.at_ k p _ hk (List.getElem?_eq_getElem hk2)] at hp; cases hp
  have hHp : H p = none := by
    cases q : H p with
    | none => rfl
    | some o => rw [I.fr p o q pla] at hp; cases hp
  refine ⟨by rw [upd_same, List.map_append]; rfl, ?_, fun a ha => ?_, by simp [I.len], fun k a r q1 q2 => ?_, fun a o q z => ?_, fun r hr => ?_, by have := I.bl; simp; omega, fun r hr => ?_⟩
  · exact List.nodup_append.mpr ⟨I.nd, List.nodup_cons.mpr ⟨List.not_mem_nil, List.nodup_nil⟩, fun a ha b hb z => by subst z; rw [List.mem_singleton] at hb; subst hb; exact pn ha⟩
  · rcases List.mem_append.mp ha with ha | ha
    · exact I.nw a ha
    · rw [List.mem_singleton] at ha; subst ha; exact hHp
  · by_cases hk : k < ls.length
    · rw [List.getElem?_append_left hk] at q1
      rw [List.getElem?_append_left (by rw [← I.len]; exact hk)] at q2
      have := I.at_ k a r q1 q2
      rw [upd_ne (fun z => by subst z; exact hla (I.nw _ (List.mem_of_getElem? q1))), upd_ne (fun z => by subst z; rw [hp] at this; cases this)]
      exact this
    · rw [List.getElem?_append_right (by omega)] at q1
      rw [List.getElem?_append_right (by rw [← I.len]; omega), ← I.len] at q2
      have hz : k - ls.length = 0 := by
        have := (List.getElem?_eq_some_iff.mp q1).1
        simp at this; omega
      rw [hz] at q1 q2
      simp at q1 q2
      subst q1 q2
      rw [upd_ne pla, upd_same]; rfl
  · rw [upd_ne z, upd_ne (fun y => by subst y; rw [hHp] at q; cases q)]
    exact I.fr a o q z
  · rcases List.mem_append.mp hr with hr | hr
    · exact I.ne r hr
    · rw [List.mem_singleton] at hr; subst hr; exact fun z => nomatch z
  · rcases List.mem_append.mp hr with hr | hr
    · exact Nat.le_succ_of_le (I.br r hr)
    · rw [List.mem_singleton] at hr; subst hr; simp
theorem SpI.put {la al : Addr} {m : Nat} {rs : List (List Int)} {ls : List Addr} {H1 : Hp} {h : Int} {l : List Int} (I : SpI H la m rs ls H1) (hla : H la ≠ none) (hB : spnB rs h = true) (h1 : rs.getLast? = some l) (h2 : ls.getLast? = some al) :
    SpI H la (m + 1) (stepG rs h) ls (upd H1 al (.lst (l.map V.int ++ [.int h]))) := by
  rw [stepG_B, hB, if_pos rfl, h1]
  have hal : al ∈ ls := List.mem_of_getLast? h2
  have ala : al ≠ la := fun z => by subst z; exact hla (I.nw _ hal)
  have hr0 : rs ≠ [] := fun z => by subst z; cases h1
  have hrl : rs.length = rs.dropLast.length + 1 := by
    rw [List.length_dropLast]
    have : 0 < rs.length := List.length_pos_iff.mpr hr0
    omega
  have rl : ∀ k r, (rs.dropLast ++ [l ++ [h]])[k]? = some r → k < rs.length ∧ ((k + 1 < rs.length ∧ rs[k]? = some r) ∨ (k + 1 = rs.length ∧ r = l ++ [h])) := fun k r q => by
    by_cases hk : k < rs.dropLast.length
    · rw [List.getElem?_append_left hk, List.getElem?_dropLast] at q
      rw [if_pos (by rw [List.length_dropLast] at hk; exact hk)] at q
      exact ⟨by omega, .inl ⟨by omega, q⟩⟩
    · rw [List.getElem?_append_right (by omega)] at q
      have := (List.getElem?_eq_some_iff.mp q).1
      have hz : k - rs.dropLast.length = 0 := by simp at this; omega
      rw [hz] at q
      simp at q
      exact ⟨by omega, .inr ⟨by omega, q.symm⟩⟩
  have lal : ls[ls.length - 1]? = some al := by rw [← List.getLast?_eq_getElem?]; exact h2
  refine ⟨by rw [upd_ne (Ne.symm ala)]; exact I.hl, I.nd, I.nw, by rw [I.len, List.length_append, List.length_singleton]; exact hrl, fun k a r q1 q2 => ?_, fun a o q z => ?_, fun r hr => ?_, by have := I.bl; rw [List.length_append, List.length_singleton]; omega, fun r hr => ?_⟩
  · obtain ⟨hk, ⟨hk1, hk2⟩ | ⟨hk1, hk2⟩⟩ := rl k r q2
    · have hne : a ≠ al := fun z => by
        subst z
        have := (List.getElem?_inj (i := k) (j := ls.length - 1) (by rw [I.len]; exact hk) I.nd).mp (q1.trans lal.symm)
        have := I.len
        omega
      rw [upd_ne hne]
      exact I.at_ k a r q1 hk2
    · have : a = al := by
        have e : k = ls.length - 1 := by have := I.len; omega
        rw [e, lal] at q1
        exact (Option.some.inj q1).symm
      subst this
      rw [upd_same, hk2, List.map_append]; rfl
  · rw [upd_ne (fun y => by subst y; rw [I.nw _ hal] at q; cases q)]
    exact I.fr a o q z
  · rcases List.mem_append.mp hr with hr | hr
    · exact I.ne r ((List.dropLast_sublist rs).subset hr)
    · rw [List.mem_singleton] at hr; subst hr; simp
  · rcases List.mem_append.mp hr with hr | hr
    · exact Nat.le_succ_of_le (I.br r ((List.dropLast_sublist rs).subset hr))
    · rw [List.mem_singleton] at hr; subst hr
      have := I.br l (List.mem_of_getLast? h1)
      simp; omega
theorem pad_get {env : Env} {m j : Nat} {p : Md × Vf.D} (h : getV (env ++ List.replicate m none) j = some p) : getV env j = some p := by
  unfold getV at h ⊢
  by_cases q : j < env.length
  · rw [List.getElem?_append_left q] at h; exact h
  · rw [List.getElem?_append_right (by omega), List.getElem?_replicate] at h
    split at h <;> cases h
theorem spn_read {i x h : Nat} (sx : Sl c x) (hih : i < c.n ∧ h < c.n) (hd : i ≠ x ∧ i ≠ h ∧ x ≠ h) (w : ts c ξ F (.spans i x h) D σ H) : tSpn c ξ F i x h D σ H := by
  obtain ⟨env, G, R, w⟩ := w
  simp only [evalS, PR.bind] at w
  obtain ⟨ho, w⟩ := PR.chk w
  obtain ⟨l, e1, w⟩ := PR.of w
  have k : FlP c [i, x] σ G H D (.nx ((env.set i (some (.own, .lst l))).set x none)) := w
  obtain ⟨hs, ns, e2, e3, e4, e5, rfl⟩ : ∃ hs ns, getV env i = some (.own, .lst []) ∧ getV env h = some (.sh, .lst hs) ∧ intsD hs = some ns ∧ ns.length < 1000000 ∧ l = rsD (runsG [] ns) := by
    unfold spansOf at e1
    split at e1
    · rename_i hs z1 z2
      simp only [Option.bind_eq_some_iff] at e1
      obtain ⟨ns, q1, q2⟩ := e1
      split at q2
      · rename_i q3
        cases q2
        exact ⟨hs, ns, z1, z2, q1, q3, rfl⟩
      · cases q2
    · cases e1
  have lv : ∀ {k : Nat} {v : V}, k < c.n → loc c σ H k = some v → σ[k]? = some (some v) := fun {k v} hk q => by
    unfold loc at q
    rw [if_pos hk] at q
    cases z : σ[k]? with
    | none => rw [z] at q; cases q
    | some o => rw [z] at q; rw [show o = some v from q]
  obtain ⟨v1, l1, la, rfl, gla, h0la, vs, hla, rr⟩ := R.slot i _ _ e2
  obtain rfl := rr.inv0
  obtain ⟨v2, l2, r2⟩ := R.slot h _ _ e3
  have σi := lv hih.1 l1
  have σh := lv hih.2 l2
  cases (show Rep c.toKc G v2 (.lst hs) from r2) with
  | @lst ah vs2 _ hsq rr2 =>
  obtain rfl := rr2.ints e4
  have hlan : H la ≠ none := by rw [hla]; exact fun z => nomatch z
  have sla : ∀ y, c.self = some y → la ≠ y := fun y e z => by
    obtain ⟨_, _, fs, q⟩ := R.sf y e
    subst z; rw [hla] at q; cases q
  have R0 := R.drop i
  have len : σ.length = c.n := R.len
  have hiL : i < env.length := getV_lt e2
  have st0 : SpI H la 0 [] [] H := ⟨hla, List.nodup_nil, fun a h => by simp at h, rfl, fun k a r q => by simp at q, fun a o q _ => q, fun r h => by simp at h, Nat.le_refl _, fun r h => by simp at h⟩
  have sqk : ∀ {H1 : Hp}, (∀ a o, H a = some o → a ≠ la → H1 a = some o) → SqL c.K H1 ah (ns.map V.int) := fun {H1} fr => by
    rcases hsq with (q | ⟨o, q⟩) | q
    · exact .inl (.inl (fr _ _ (R.ex _ _ q) (fun z => by subst z; rw [gla] at q; cases q)))
    · exact .inl (.inr ⟨o, fr _ _ (R.ex _ _ q) (fun z => by subst z; rw [gla] at q; cases q)⟩)
    · exact .inr q
  have hsz : (1000000 : Nat) < sizeLine := by decide
  refine ⟨.ref ah, σh, ah, rfl, ⟨_, R.ex.sql hsq⟩, for_list (xs := ns.map V.int) (fun m σ' H' => (σ' = σ ∨ ∃ v, σ' = σ.set x (some v)) ∧ m ≤ ns.length ∧ ∃ ls, SpI H la m (runsG [] (ns.take m)) ls H')
    ⟨.inl rfl, Nat.zero_le _, [], st0⟩ (fun m σ' H' _ ⟨_, _, ls, I⟩ => sqk I.fr) (fun m v σ' H' hv ⟨hσ, hm, ls, I⟩ => ?_) (fun σ' H' ⟨hσ, hm, ls, I⟩ => ?_)⟩
  · obtain ⟨hh, hns, rfl⟩ : ∃ hh, ns[m]? = some hh ∧ v = .int hh := by
      rw [List.getElem?_map, Option.map_eq_some_iff] at hv
      obtain ⟨a, q1, q2⟩ := hv
      exact ⟨a, q1, q2.symm⟩
    have hm1 : m < ns.length := (List.getElem?_eq_some_iff.mp hns).1
    have e6 : σ'.set x (some (.int hh)) = σ.set x (some (.int hh)) := by
      rcases hσ with rfl | ⟨v, rfl⟩
      · rfl
      · rw [List.set_set]
    generalize hrs : runsG [] (ns.take m) = rs at I
    have next : ∀ {ls' H''}, SpI H la (m + 1) (stepG rs hh) ls' H'' → ((σ.set x (some (V.int hh)) = σ ∨ ∃ v, σ.set x (some (V.int hh)) = σ.set x (some v)) ∧ m + 1 ≤ ns.length ∧ ∃ ls, SpI H la (m + 1) (runsG [] (ns.take (m + 1))) ls H'') := fun {ls' H''} I' => ⟨.inr ⟨_, rfl⟩, hm1, ls', by rw [runs_succ hns, hrs]; exact I'⟩
    show tIfS _ _ _ _ (σ'.set x (some (.int hh))) H'
    rw [e6]
    -- the test, over all that stands, frozen for it
    have hA : ∀ a ∈ la :: ls, G a = none ∧ c.H0 a = none ∧ H' a ≠ none ∧ ∀ y, c.self = some y → a ≠ y := fun a ha => by
      rcases List.mem_cons.mp ha with rfl | ha
      · exact ⟨gla, h0la, by rw [I.hl]; exact (fun z => nomatch z), sla⟩
      · have hn := I.nw a ha
        obtain ⟨k, hk⟩ := List.getElem?_of_mem ha
        have hk2 : k < rs.length := by have := (List.getElem?_eq_some_iff.mp hk).1; rw [I.len] at this; exact this
        refine ⟨R.ex.none hn, R.h0 hn, by rw [I.at_ k a _ hk (List.getElem?_eq_getElem hk2)]; exact (fun z => nomatch z), fun y e z => ?_⟩
        obtain ⟨_, _, fs, q⟩ := R.sf y e
        subst z; rw [hn] at q; cases q
    obtain ⟨Ra0, ea⟩ := R0.grow ho hA I.fr (by rw [I.hl]; exact fun z => nomatch z) gla h0la sla
    have Ra := Ra0.weak (env' := env.set i none ++ List.replicate (x + 1) none) fun j p q => pad_get q
    obtain ⟨Rb, lb⟩ := Ra.store sx (.int hh)
    have Rc := Rb.setSh (i := x) lb (.int hh)
    have li : loc c (σ.set x (some (V.int hh))) H' i = some (.ref la) := by
      unfold loc
      rw [if_pos hih.1, List.getElem?_set_ne (Ne.symm hd.1), σi]; rfl
    have rep : Rep c.toKc (addH G H' (la :: ls)) (.ref la) (.lst (rsD rs)) := .lst (.inl (.inl (by unfold addH; rw [if_pos List.mem_cons_self]; exact I.hl))) (SpI.reps I.len fun k a r q1 q2 => by
      unfold addH
      rw [if_pos (List.mem_cons_of_mem _ (List.mem_of_getElem? q1))]
      exact I.at_ k a r q1 q2)
    have Rd := Rc.setSh (i := i) li rep
    have gi : getV (((((env.set i none ++ List.replicate (x + 1) none)).set x none).set x (some (.sh, .int hh))).set i (some (.sh, .lst (rsD rs)))) i = some (.sh, .lst (rsD rs)) := getV_same (by simp only [List.length_set]; rw [List.length_append, List.length_set]; omega)
    have gx : getV (((((env.set i none ++ List.replicate (x + 1) none)).set x none).set x (some (.sh, .int hh))).set i (some (.sh, .lst (rsD rs)))) x = some (.sh, .int hh) := by
      rw [getV_ne hd.1, getV_same (by simp only [List.length_set]; rw [List.length_append, List.length_replicate]; omega)]
    refine ⟨_, _, Rd, ?_⟩
    rw [spnT_run gi gx I.ne]
    refine ⟨spnB rs hh, rfl, fun G2 H2 R2 g2 => ?_⟩
    have own : ∀ j md d', getV (((((env.set i none ++ List.replicate (x + 1) none)).set x none).set x (some (.sh, .int hh))).set i (some (.sh, .lst (rsD rs)))) j = some (md, d') → md = .sh := fun j md d' q => by
      rw [getV_set] at q
      split at q
      · cases q; rfl
      · rw [getV_set] at q
        split at q
        · cases q; rfl
        · rw [getV_set] at q
          split at q
          · cases q
          · exact noOwn_sh ho (pad_get q)
    have eH : Ex H' H2 := fun a o q => g2.fr a o q fun j md d' q1 q2 => absurd (own j md d' q1) q2
    have I2 := I.ext eH
    cases hB : spnB rs hh with
    | true =>
      dsimp only
      rw [if_pos rfl]
      obtain ⟨r, hr⟩ : ∃ r, rs.getLast? = some r := by
        unfold spnB at hB
        split at hB
        · exact ⟨_, by assumption⟩
        · cases hB
      have hr' : rs[rs.length - 1]? = some r := by rw [← List.getLast?_eq_getElem?]; exact hr
      obtain ⟨al, hal⟩ : ∃ al, ls.getLast? = some al := by
        cases q : ls.getLast? with
        | none =>
          obtain rfl := List.getLast?_eq_none_iff.mp q
          have := I.len
          have : rs = [] := List.eq_nil_of_length_eq_zero (by simpa using this.symm)
          subst this; cases hr
        | some al => exact ⟨al, rfl⟩
      have hal' : ls[rs.length - 1]? = some al := by rw [← I.len, ← List.getLast?_eq_getElem?]; exact hal
      have Hal := I2.at_ _ _ _ hal' hr'
      refine ⟨.ref la, by rw [List.getElem?_set_ne (Ne.symm hd.1)]; exact σi, 1, rfl, la, ls.map V.ref, -1, .ref al, rfl, rfl, .inl (.inl I2.hl), atI_m1 (by rw [List.getLast?_map, hal]; rfl), .inl ⟨rfl, _, .inl (.inl Hal)⟩, ?_⟩
      refine ⟨.int hh, by rw [List.getElem?_set_self (by rw [len]; exact sx.1)], al, _, _, rfl, rfl, Hal, ?_, next (I2.put hlan hB hr hal)⟩
      have := I.br r (List.mem_of_getLast? hr)
      rw [List.length_map]; omega
    | false =>
      dsimp only
      rw [if_neg Bool.false_ne_true]
      refine ⟨.ref la, by rw [List.getElem?_set_ne (Ne.symm hd.1)]; exact σi, .inl ⟨rfl, _, .inl (.inl I2.hl)⟩, ?_⟩
      refine ⟨.int hh, by rw [List.getElem?_set_self (by rw [len]; exact sx.1)], (show 1 ≤ sizeLine by decide), fun p hp => ?_⟩
      have pla : p ≠ la := fun z => by subst z; rw [I2.hl] at hp; cases hp
      refine ⟨la, _, _, rfl, rfl, by rw [upd_ne (Ne.symm pla)]; exact I2.hl, ?_, next (I2.app hlan hp hB)⟩
      have := I.bl
      have := I.len
      rw [List.length_map]; omega
  · rw [List.length_map] at I
    rw [List.take_of_length_le (Nat.le_refl _)] at I
    have hA : ∀ a ∈ ls, G a = none ∧ c.H0 a = none ∧ H' a ≠ none ∧ ∀ y, c.self = some y → a ≠ y := fun a ha => by
      have hn := I.nw a ha
      obtain ⟨k, hk⟩ := List.getElem?_of_mem ha
      have hk2 : k < (runsG [] ns).length := by have := (List.getElem?_eq_some_iff.mp hk).1; rw [I.len] at this; exact this
      refine ⟨R.ex.none hn, R.h0 hn, by rw [I.at_ k a _ hk (List.getElem?_eq_getElem hk2)]; exact (fun z => nomatch z), fun y e z => ?_⟩
      obtain ⟨_, _, fs, q⟩ := R.sf y e
      subst z; rw [hn] at q; cases q
    obtain ⟨Ra, ea⟩ := R0.grow ho hA I.fr (by rw [I.hl]; exact fun z => nomatch z) gla h0la sla
    have Rb : Rel c ((env.set i none).set x none) σ' (addH G H' ls) H' := by
      rcases hσ with rfl | ⟨v, rfl⟩
      · exact Ra.drop x
      · exact (Ra.store sx v).1
    have sl : ∀ j, j ≠ x → σ'[j]? = σ[j]? := fun j hj => by
      rcases hσ with rfl | ⟨v, rfl⟩
      · rfl
      · rw [List.getElem?_set_ne (Ne.symm hj)]
    have li : loc c σ' H' i = some (.ref la) := by
      unfold loc
      rw [if_pos hih.1, sl i hd.1, σi]; rfl
    have own0 : ∀ j md d', getV ((env.set i none).set x none) j = some (md, d') → md = .sh := fun j md d' q => by
      rw [getV_set] at q
      split at q
      · cases q
      · exact noOwn_sh ho q
    have ok : ValOk c ((env.set i none).set x none) σ' (fun _ => none) (addH G H' ls) H' true (.ref la) (.lst (rsD (runsG [] ns))) := by
      unfold ValOk
      rw [if_pos rfl]
      refine ⟨la, rfl, rfl, ?_, h0la, ⟨_, I.hl, SpI.reps I.len fun k a r q1 q2 => ?_⟩, fun j md d' q1 q2 => absurd (own0 j md d' q1) q2⟩
      · unfold addH
        rw [if_neg (fun z => hlan (I.nw la z))]
        exact gla
      · unfold addH
        rw [if_pos (List.mem_of_getElem? q1)]
        exact I.at_ k a r q1 q2
    have Rc := Rb.setOwn (i := i) (.inl (by
      rw [getV_ne (Ne.symm hd.1), getV_same hiL])) li ok
    rw [List.set_comm _ _ (Ne.symm hd.1), List.set_set] at Rc
    exact k _ _ _ Rc ea fun j hj => by
      simp only [List.mem_cons, List.not_mem_nil, or_false, not_or] at hj
      unfold loc
      split
      · rw [sl j hj.2]
      · split
        · rename_i y e
          obtain ⟨_, _, fs, q⟩ := R.sf y e
          rw [q, I.fr y _ q (fun z => sla y e z.symm)]
        · rfl
end
end Vf
end
section
namespace Vf
open PySem L2
def swB (a b : Expr) : Bool := plain a && plain b && !([a, b].all (foldedForSure 8)) && !([a, b].all (constantsAlone 8))
def swB3 (a b e : Expr) : Bool := plain a && plain b && plain e && !([a, b, e].all (foldedForSure 8)) && !([a, b, e].all (constantsAlone 8))
def isStar : Expr → Bool
  | .Starred .. => true
  | _ => false
theorem noStar {e : Expr} (h : plain e = true) (z : isStar e = true) : False := by
  cases e <;> first | (cases h; done) | cases z
theorem kind_local {env : PySem.Env} {x : Str} (h : env.scope.names.lookup x = some .local) : env.kindOf x = some .local := h
theorem swapped2 {x y : Str} {px py pt pt2 : Pos} {kt k2 : Nat} {a b : Expr} {env : PySem.Env} (hk : env.scope.kind = .function) (hx : env.scope.names.lookup x = some .local) (hy : env.scope.names.lookup y = some .local) (hxy : x ≠ y) (hl : px.line = py.line) (h : swB a b = true) :
    swappedStores [.Tuple [.Name x px, .Name y py] kt pt] (.Tuple [a, b] k2 pt2) env = pure (some [x, y]) := by
  unfold swB at h
  simp only [Bool.and_eq_true, Bool.not_eq_true'] at h
  obtain ⟨⟨⟨ha, hb⟩, h1⟩, h2⟩ := h
  have hb1 : env.blockKind = .function := by unfold PySem.Env.blockKind; rw [hk]; rfl
  have kx := kind_local hx
  have ky := kind_local hy
  have hyx : (y == x) = false := beq_eq_false_iff_ne.mpr (Ne.symm hxy)
  have hxy' : (x == y) = false := beq_eq_false_iff_ne.mpr hxy
  unfold swappedStores
  simp [hb1, kx, ky, h1, h2, hl, Expr.pos, List.eraseDups, List.eraseDupsBy, List.eraseDupsBy.loop, hyx, hxy']
  intro z
  exact False.elim (z.elim (noStar ha) (noStar hb))
theorem swapped3 {x y z : Str} {px py pz pt pt2 : Pos} {kt k2 : Nat} {a b e : Expr} {env : PySem.Env} (hk : env.scope.kind = .function) (hx : env.scope.names.lookup x = some .local) (hy : env.scope.names.lookup y = some .local) (hz : env.scope.names.lookup z = some .local) (hxy : x ≠ y) (hxz : x ≠ z) (hyz : y ≠ z) (hl : px.line = py.line) (hl2 : px.line = pz.line) (h : swB3 a b e = true) :
    swappedStores [.Tuple [.Name x px, .Name y py, .Name z pz] kt pt] (.Tuple [a, b, e] k2 pt2) env = pure (some [x, y, z]) := by
  unfold swB3 at h
  simp only [Bool.and_eq_true, Bool.not_eq_true'] at h
  obtain ⟨⟨⟨⟨ha, hb⟩, he⟩, h1⟩, h2⟩ := h
  have hb1 : env.blockKind = .function := by unfold PySem.Env.blockKind; rw [hk]; rfl
  have kx := kind_local hx
  have ky := kind_local hy
  have kz := kind_local hz
  have hyx : (y == x) = false := beq_eq_false_iff_ne.mpr (Ne.symm hxy)
  have hxy' : (x == y) = false := beq_eq_false_iff_ne.mpr hxy
  have hzx : (z == x) = false := beq_eq_false_iff_ne.mpr (Ne.symm hxz)
  have hzy : (z == y) = false := beq_eq_false_iff_ne.mpr (Ne.symm hyz)
  unfold swappedStores
  simp [hb1, kx, ky, kz, h1, h2, ← hl, ← hl2, Expr.pos, List.eraseDups, List.eraseDupsBy, List.eraseDupsBy.loop, hyx, hxy', hzx, hzy]
  intro z
  exact False.elim (z.elim (noStar ha) fun z => z.elim (noStar hb) (noStar he))
end Vf
end
section
namespace Vf
open PySem L2 PyProof.Rows
/-! ### the shapes of statements -/
def fsetS : Stmt → Option (Str × Str × Expr)
  | .Assign [.Attribute (.Name x _) f _] v _ => some (x, f, v)
  | _ => none
def fst2S : Stmt → Option (Str × Str × Str × Str × Expr)
  | .Assign [.Tuple [.Attribute (.Name x _) f _, .Attribute (.Name y _) g _] _ _] v _ => some (x, f, y, g, v)
  | _ => none
def asgS : Stmt → Option (Expr × Expr)
  | .Assign [t] v _ => some (t, v)
  | _ => none
def setS : Stmt → Option (Str × Pos × Expr)
  | .Assign [.Name x p] v _ => some (x, p, v)
  | _ => none
def parS : Stmt → Option ((Str × Pos) × (Str × Pos) × Expr × Expr)
  | .Assign [.Tuple [.Name x px, .Name y py] _ _] (.Tuple [a, b] _ _) _ => some ((x, px), (y, py), a, b)
  | _ => none
def par3S : Stmt → Option ((Str × Pos) × (Str × Pos) × (Str × Pos) × Expr × Expr × Expr)
  | .Assign [.Tuple [.Name x px, .Name y py, .Name z pz] _ _] (.Tuple [a, b, e] _ _) _ => some ((x, px), (y, py), (z, pz), a, b, e)
  | _ => none
def augS : Stmt → Option (Str × Operator × Expr)
  | .AugAssign (.Name x _) op v _ => some (x, op, v)
  | _ => none
def subS : Stmt → Option (Expr × Expr × Expr)
  | .Assign [.Subscript y ix _] v _ => some (y, ix, v)
  | _ => none
def mcS : Stmt → Option (Expr × Str × Expr)
  | .Expr (.Call (.Attribute y m ap) [x] [] pos) _ => if (ap.endLine == pos.line) = true then some (y, m, x) else none
  | _ => none
def delS : Stmt → Option (Expr × Expr)
  | .Delete [.Subscript y ix _] _ => some (y, ix)
  | _ => none
def expS : Stmt → Option Expr
  | .Expr v _ => some v
  | _ => none
def retS : Stmt → Option Expr
  | .Return (some v) _ => some v
  | _ => none
def retNS : Stmt → Bool
  | .Return none _ => true
  | _ => false
def ifS : Stmt → Option (Expr × List Stmt × List Stmt)
  | .If t a b _ => some (t, a, b)
  | _ => none
def whS : Stmt → Option (Expr × List Stmt)
  | .While t a [] _ => some (t, a)
  | _ => none
def forS : Stmt → Option (Expr × Expr × List Stmt)
  | .For tg it b [] _ => some (tg, it, b)
  | _ => none
def brkS : Stmt → Bool
  | .Break _ => true
  | _ => false
def cntS : Stmt → Bool
  | .Continue _ => true
  | _ => false
def pasS : Stmt → Bool
  | .Pass _ => true
  | .Expr (.Constant (.str _) _ _) _ => true
  | _ => false
def lclB (ns : Ns) (x : Str) : Bool := match ns.lookup x with
  | some .local => !decide (x = ns.no)
  | _ => false
def noTup : Expr → Bool
  | .Tuple .. => false
  | _ => true
def isTupT : Expr → Bool
  | .Tuple .. => true
  | _ => false
def isLcE : E → Bool
  | .lc .. => true
  | _ => false
def augO : B2 → Operator → Bool
  | .add, .Add => true
  | .sub, .Sub => true
  | _, _ => false
def isVarE : E → Bool
  | .var _ => true
  | _ => false
/-- a list displayed in its name's own line -/
def lcLine (ns : Ns) (x : Str) (px : Pos) : Expr → Bool
  | .ListComp _ _ scope pos => (px.line == pos.line) && lclB ns x && !(scope.names.any fun (n, k) => n == x && (k == .local || k == .cell))
  | _ => false
mutual
def chkS (π : Pi) (io : Nat → List Bool) (N fl : List Str) (ns : Ns) : S → Stmt → Bool
  | .set i e, st => match setS st with
    | some (x, px, v) => decide (N[i]? = some x) && locB ns x && chkE π io N fl ns e v && (if isLcE e = true then lcLine ns x px v else plain v && !isLc v)
    | none => false
  | .setP p e, st => match asgS st with
    | some (tg, v) => isTupT tg && chkP N ns p tg && noTup v && plain v && !isLc v && chkE π io N fl ns e v
    | none => false
  | .par i j a b, st => match parS st with
    | some ((x, px), (y, py), u, v) => decide (N[i]? = some x) && decide (N[j]? = some y) && decide (i ≠ j) && decide (x ≠ y) && decide (px.line = py.line) && lclB ns x && lclB ns y && swB u v && chkE π io N fl ns a u && chkE π io N fl ns b v
    | none => false
  | .par3 i j l a b e, st => match par3S st with
    | some ((x, px), (y, py), (z, pz), u, v, w) => decide (N[i]? = some x) && decide (N[j]? = some y) && decide (N[l]? = some z) && decide (i ≠ j ∧ i ≠ l ∧ j ≠ l) && decide (x ≠ y ∧ x ≠ z ∧ y ≠ z) && decide (px.line = py.line ∧ px.line = pz.line) && lclB ns x && lclB ns y && lclB ns z && swB3 u v w && chkE π io N fl ns a u && chkE π io N fl ns b v && chkE π io N fl ns e w
    | none => false
  | .aug i o e, st => match augS st with
    | some (x, op, v) => decide (N[i]? = some x) && locB ns x && augO o op && chkE π io N fl ns e v
    | none => false
  | .fset i f e, st => match fsetS st with
    | some (x, g, v) => decide (f = g) && decide (N[0]? = some x) && visB ns x && nmB x && decide (N.length ≤ i) && decide (fl[i - N.length]? = some f) && decide (fl.Nodup) && decide (fl.length < 1000) && plain v && !isLc v && chkE π io N fl ns e v
    | none => false
  | .fst2 i j e, st => match fst2S st with
    | some (x, g, y, h, v) => decide (N[0]? = some x ∧ y = x) && visB ns x && nmB x && decide (N.length ≤ i ∧ N.length ≤ j) && decide (fl[i - N.length]? = some g ∧ fl[j - N.length]? = some h) && decide (fl.Nodup) && decide (fl.length < 1000) && noTup v && plain v && !isLc v && chkE π io N fl ns e v
    | none => false
  | .spans i x h, st => chkSpn π io N fl ns i x h st
  | .putL i k e, st => match subS st with
    | some (y, ix, v) => pfB N fl ns i y && chkE π io N fl ns k ix && chkE π io N fl ns e v && plain v && !isLc v
    | none => false
  | .putD i k e, st => match subS st with
    | some (y, ix, v) => pfB N fl ns i y && chkE π io N fl ns k ix && chkE π io N fl ns e v && plain v && !isLc v
    | none => false
  | .app i e, st => match mcS st with
    | some (y, m, x) => decide (m = "append") && pfB N fl ns i y && chkE π io N fl ns e x
    | none => false
  | .ext i e, st => match mcS st with
    | some (y, m, x) => decide (m = "extend") && pfB N fl ns i y && chkE π io N fl ns e x
    | none => false
  | .rem i e, st => match mcS st with
    | some (y, m, x) => decide (m = "remove") && pfB N fl ns i y && chkE π io N fl ns e x
    | none => false
  | .del i k, st => match delS st with
    | some (y, ix) => pfB N fl ns i y && chkE π io N fl ns k ix
    | none => false
  | .exp e, st => match expS st with
    | some v => plain v && !isLc v && chkE π io N fl ns e v
    | none => false
  | .ret e, st => match retS st with
    | some v => chkE π io N fl ns e v
    | none => false
  | .retN, st => retNS st
  | .cond t a b, st => match ifS st with
    | some (u, xs, ys) => chkE π io N fl ns t u && chkSs π io N fl ns a xs && chkSs π io N fl ns b ys
    | none => false
  | .whl t a, st => match whS st with
    | some (u, xs) => chkE π io N fl ns t u && chkSs π io N fl ns a xs
    | none => false
  | .forr k a b p body, st => match forS st with
    | some (tg, iter, xs) => plain iter && (match itA π ns k tg iter with
      | some (x, oy) => chkE π io N fl ns a x && (match oy with
        | none => isNop b
        | some y => chkE π io N fl ns b y)
      | none => false) && chkP N ns p tg && srcFree a (slotsP p ++ asg body) && chkSs π io N fl ns body xs
    | none => false
  | .brk, st => brkS st
  | .cnt, st => cntS st
  | .pas, st => pasS st
  | .nev, _ => true
  | .rai _ _, _ => false
  | .nil, _ => false
  | .seq _ _, _ => false
def chkSs (π : Pi) (io : Nat → List Bool) (N fl : List Str) (ns : Ns) : S → List Stmt → Bool
  | .nil, sts => sts.isEmpty
  | .seq a r, sts => match sts with
    | st :: rest => chkS π io N fl ns a st && chkSs π io N fl ns r rest
    | [] => false
  | _, _ => false
end
section
variable {st : Stmt}
theorem fsetS_ok {x f : Str} {v : Expr} (h : fsetS st = some (x, f, v)) : ∃ p q r, st = .Assign [.Attribute (.Name x p) f q] v r := by
  unfold fsetS at h; split at h <;> first | (cases h; exact ⟨_, _, _, rfl⟩) | cases h
theorem fst2S_ok {x f y g : Str} {v : Expr} (h : fst2S st = some (x, f, y, g, v)) : ∃ p q p2 q2 k r t, st = .Assign [.Tuple [.Attribute (.Name x p) f q, .Attribute (.Name y p2) g q2] k r] v t := by
  unfold fst2S at h; split at h <;> first | (cases h; exact ⟨_, _, _, _, _, _, _, rfl⟩) | cases h
theorem asgS_ok {t v : Expr} (h : asgS st = some (t, v)) : ∃ p, st = .Assign [t] v p := by
  unfold asgS at h; split at h <;> first | (cases h; exact ⟨_, rfl⟩) | cases h
theorem setS_ok {x : Str} {p : Pos} {v : Expr} (h : setS st = some (x, p, v)) : ∃ q, st = .Assign [.Name x p] v q := by
  unfold setS at h; split at h <;> first | (cases h; exact ⟨_, rfl⟩) | cases h
theorem parS_ok {x y : Str} {px py : Pos} {a b : Expr} (h : parS st = some ((x, px), (y, py), a, b)) : ∃ k p k2 p2 q, st = .Assign [.Tuple [.Name x px, .Name y py] k p] (.Tuple [a, b] k2 p2) q := by
  unfold parS at h; split at h <;> first | (cases h; exact ⟨_, _, _, _, _, rfl⟩) | cases h
theorem par3S_ok {x y z : Str} {px py pz : Pos} {a b e : Expr} (h : par3S st = some ((x, px), (y, py), (z, pz), a, b, e)) : ∃ k p k2 p2 q, st = .Assign [.Tuple [.Name x px, .Name y py, .Name z pz] k p] (.Tuple [a, b, e] k2 p2) q := by
  unfold par3S at h; split at h <;> first | (cases h; exact ⟨_, _, _, _, _, rfl⟩) | cases h
theorem augS_ok {x : Str} {op : Operator} {v : Expr} (h : augS st = some (x, op, v)) : ∃ p q, st = .AugAssign (.Name x p) op v q := by
  unfold augS at h; split at h <;> first | (cases h; exact ⟨_, _, rfl⟩) | cases h
theorem subS_ok {y ix v : Expr} (h : subS st = some (y, ix, v)) : ∃ p q, st = .Assign [.Subscript y ix p] v q := by
  unfold subS at h; split at h <;> first | (cases h; exact ⟨_, _, rfl⟩) | cases h
theorem mcS_ok {y x : Expr} {m : Str} (h : mcS st = some (y, m, x)) : ∃ ap p q, st = .Expr (.Call (.Attribute y m ap) [x] [] p) q ∧ (ap.endLine == p.line) = true := by
  unfold mcS at h
  split at h
  · split at h
    · rename_i hh; cases h; exact ⟨_, _, _, rfl, hh⟩
    · cases h
  · cases h
theorem delS_ok {y ix : Expr} (h : delS st = some (y, ix)) : ∃ p q, st = .Delete [.Subscript y ix p] q := by
  unfold delS at h; split at h <;> first | (cases h; exact ⟨_, _, rfl⟩) | cases h
theorem expS_ok {v : Expr} (h : expS st = some v) : ∃ p, st = .Expr v p := by
  unfold expS at h; split at h <;> first | (cases h; exact ⟨_, rfl⟩) | cases h
theorem retS_ok {v : Expr} (h : retS st = some v) : ∃ p, st = .Return (some v) p := by
  unfold retS at h; split at h <;> first | (cases h; exact ⟨_, rfl⟩) | cases h
theorem retNS_ok (h : retNS st = true) : ∃ p, st = .Return none p := by
  unfold retNS at h; split at h <;> first | exact ⟨_, rfl⟩ | cases h
theorem ifS_ok {t : Expr} {a b : List Stmt} (h : ifS st = some (t, a, b)) : ∃ p, st = .If t a b p := by
  unfold ifS at h; split at h <;> first | (cases h; exact ⟨_, rfl⟩) | cases h
theorem whS_ok {t : Expr} {a : List Stmt} (h : whS st = some (t, a)) : ∃ p, st = .While t a [] p := by
  unfold whS at h; split at h <;> first | (cases h; exact ⟨_, rfl⟩) | cases h
theorem forS_ok {t i : Expr} {a : List Stmt} (h : forS st = some (t, i, a)) : ∃ p, st = .For t i a [] p := by
  unfold forS at h; split at h <;> first | (cases h; exact ⟨_, rfl⟩) | cases h
theorem brkS_ok (h : brkS st = true) : ∃ p, st = .Break p := by
  unfold brkS at h; split at h <;> first | exact ⟨_, rfl⟩ | cases h
theorem cntS_ok (h : cntS st = true) : ∃ p, st = .Continue p := by
  unfold cntS at h; split at h <;> first | exact ⟨_, rfl⟩ | cases h
theorem pasS_ok (h : pasS st = true) : (∃ p, st = .Pass p) ∨ ∃ x j p q, st = .Expr (.Constant (.str x) j p) q := by
  unfold pasS at h; split at h <;> first | exact .inl ⟨_, rfl⟩ | exact .inr ⟨_, _, _, _, rfl⟩ | cases h
end
end Vf
end
section
namespace Vf
open PySem L2 PyProof.Rows
section
variable {π : Pi} {c : Cc} {ξ : XK} {F : Fs} {n : Nat} {N fl : List Str} {ns : Ns} {X : Cx} {io : Nat → List Bool}
theorem lclB_ok (g : Gd π c ξ F n N fl ns X) {x : Str} (h : lclB ns x = true) : X.env.scope.names.lookup x = some .local := by
  unfold lclB Ns.lookup at h
  rw [g.kd]
  split at h
  · assumption
  · cases h
theorem lclB_no {x : Str} (h : lclB ns x = true) : x ≠ ns.no := by
  unfold lclB at h
  split at h
  · simpa using h
  · cases h
theorem ns_lt (g : Gd π c ξ F n N fl ns X) {i : Nat} {x : Str} (h : N[i]? = some x) : i < c.n := by
  rw [← g.len]; exact (List.getElem?_eq_some_iff.mp h).1
theorem Gd.at_ (g : Gd π c ξ F n N fl ns X) {i : Nat} {x : Str} (h : N[i]? = some x) : X.N[i]? = some x := by rw [g.hN]; exact h
theorem Gd.ndX (g : Gd π c ξ F n N fl ns X) : X.N.Nodup := by rw [g.hN]; exact g.nd
theorem stm_lc (g : Gd π c ξ F n N fl ns X) (hi : F.ino = io) {i : Nat} {y : Str} {k : IK} {a b : E} {p : Pat} {cnd e : E} {own : List (Str × Nat)} {ast : Expr} {px q : Pos} (hy : N[i]? = some y) (hl : lcLine ns y px ast = true) (h : chkE π io N fl ns (.lc k a b p cnd e own) ast = true) :
    PS X (.Assign [.Name y px] ast q) (ts c ξ F (.set i (.lc k a b p cnd e own))) := by
  simp only [chkE] at h
  split at h <;> first | (cases h; done) | skip
  rename_i elt tg iter ifs scope hy'
  obtain ⟨pos, rfl⟩ := lcS1_ok hy'
  simp only [Bool.and_eq_true, decide_eq_true_eq] at h
  obtain ⟨⟨⟨⟨⟨⟨h1, h2⟩, h3⟩, h4⟩, h5⟩, h6⟩, h7⟩ := h
  have ok := blkB_ok g h3.1
  have hw := ownB_ok g h3.1 h3.2
  have hpi : PI X tg iter (ti c ξ F k a b) := by
    split at h2
    · rename_i x oy hx
      rw [Bool.and_eq_true] at h2
      have h22 := h2.2
      cases oy with
      | none => exact itA_ok g hx (sndE a g hi h2.1).o (fun y hy' => nomatch hy') fun _ => isNop_ok h22
      | some y0 =>
        have q := (sndE b g hi h22).o
        exact itA_ok g hx (sndE a g hi h2.1).o (fun y hy' => by cases hy'; exact ⟨q, chkE_nop h22⟩) fun hy' => nomatch hy'
    · cases h2
  have gb := fun s H C cl fp => g.blk scope ok.kind s H C cl fp
  have hcnd : ∀ (s : Shared) (H : Hp) (C : Addr) (cl : List (Str × Addr)) (fp : List Addr), PTs (X.blk s H scope (compEnvC scope cl C X.env) fp) ifs (tcnd c F cnd) := fun s H C cl fp => by
    cases ifs with
    | nil => rw [isNop_ok h6]; exact pts_nil
    | cons t r =>
      cases r with
      | nil =>
        have q := (sndE cnd (gb s H C cl fp) hi h6).o.s.pt
        have hn := chkE_nop h6
        have e1 : tcnd c F cnd = tb1 c E0 F cnd := by cases cnd <;> first | rfl | exact absurd rfl hn
        rw [e1]
        exact pts_one q
      | cons _ _ => cases h6
  have he : ∀ (s : Shared) (H : Hp) (C : Addr) (cl : List (Str × Addr)) (fp : List Addr), PE (X.blk s H scope (compEnvC scope cl C X.env) fp) elt (tv c E0 F e) := fun s H C cl fp => (sndE e (gb s H C cl fp) hi h7).o.s.pe
  have hp : ∀ (s : Shared) (H : Hp) (C : Addr) (cl : List (Str × Addr)) (fp : List Addr), PG (X.blk s H scope (compEnvC scope cl C X.env) fp) tg (gPat c.K p) := fun s H C cl fp => (chkP_ok (gb s H C cl fp) p h4).1
  have hn : ∀ i ∈ slotsP p, Sl c i := (chkP_ok (gb X.s_0 X.H_0 0 [] []) p h4).2
  simp only [lcLine, Bool.and_eq_true, Bool.not_eq_true'] at hl
  obtain ⟨⟨l1, l2⟩, l3⟩ := hl
  have hyl := lclB_ok g l2
  exact PS.imp (ps_setLc g.calm g.ndX (g.at_ hy) hyl (sw_true g.knd hyl l1 l3) hpi ok hp hcnd he (hash_plain h1 _)) fun D σ H w => set_read (t := tLc (ti c ξ F k a b) (gPat c.K p) (tcnd c F cnd) (tv c E0 F e) (own.map (·.2))) (g.sl hy (lclB_no l2)) (fun σ H Q w => lc_read hn hw h5 w) w
theorem asg_sole {tg v : Expr} {l : Nat} {env : PySem.Env} (h1 : isTupT tg = true) (h2 : noTup v = true) (hp : plain v = true) (hl : isLc v = false) : swapsWithSole [tg] v l env = pure false ∧ swappedStores [tg] v env = pure none ∧ (assignEach [tg] env).map (·.2) = [assign tg env] := by
  refine ⟨sw_plain hp hl _ _ _, ?_, ?_⟩
  · cases v <;> first | (cases h2; done) | (cases hp; done) | rfl | (cases tg <;> first | (cases h1; done) | rfl)
  · cases tg <;> first | (cases h1; done) | rfl
theorem asg_sub {o i : Expr} {env : PySem.Env} {pos : Pos} (h : plain i = true) (v : Value) : assign (.Subscript o i pos) env v = (do
      let ov ← holding [v] (eval o env)
      let iv ← holding [v, ov] (eval i env)
      standAt pos
      holding [v, ov, iv] (setItem ov iv v)
      release [v, ov, iv] []) := by
  cases i <;> first | rfl | (cases h; done)
theorem sole_plain {tg v : Expr} {l : Nat} {env : PySem.Env} (hp : plain v = true) (hl : isLc v = false) : swapsWithSole [tg] v l env = pure false := sw_plain hp hl (some tg) l env
theorem notLc {e : Bool} (h : (!e) = true) : e = false := by cases e <;> first | rfl | cases h
mutual
theorem sndS (g : Gd π c ξ F n N fl ns X) (hi : F.ino = io) (hp : PassesOwn (model X.prog X.w) X.A X.env X.xe) : ∀ (s : S) {st : Stmt}, chkS π io N fl ns s st = true → PS X st (ts c ξ F s)
  | .set i e, st, h => by
    simp only [chkS] at h
    split at h <;> first | (cases h; done) | skip
    rename_i x px v hs
    obtain ⟨q, rfl⟩ := setS_ok hs
    simp only [Bool.and_eq_true, decide_eq_true_eq] at h
    obtain ⟨⟨⟨h1, h2⟩, h3⟩, h4⟩ := h
    by_cases hl : isLcE e = true
    · rw [if_pos hl] at h4
      cases e <;> first | (cases hl; done) | exact stm_lc g hi h1 h4 h3
    · rw [if_neg hl, Bool.and_eq_true] at h4
      obtain ⟨k1, k2⟩ := g.loc h2
      exact PS.imp (ps_set g.ndX (g.at_ h1) k1 (sndE e g hi h3).o.s.pe (sw_plain h4.1 (notLc h4.2) _ _ _) k2) fun D σ H w => set_read (g.sl h1 (locB_no h2)) (fun σ H Q w => w) w
  | .setP p e, st, h => by
    simp only [chkS] at h
    split at h <;> first | (cases h; done) | skip
    rename_i tg v hs
    obtain ⟨q, rfl⟩ := asgS_ok hs
    simp only [Bool.and_eq_true] at h
    obtain ⟨⟨⟨⟨⟨h1, h2⟩, h3⟩, h4⟩, h5⟩, h6⟩ := h
    obtain ⟨a1, a2, a3⟩ := asg_sole (l := q.line) (env := X.env) h1 h3 h4 (notLc h5)
    obtain ⟨k1, k2⟩ := chkP_ok g p h2
    exact PS.imp (ps_asg (sndE e g hi h6).o.s.pe k1 a1 a2 a3) fun D σ H w => setP_read k2 w
  | .par i j a b, st, h => by
    simp only [chkS] at h
    split at h <;> first | (cases h; done) | skip
    rename_i x px y py u v hs
    obtain ⟨k, p, k2, p2, q, rfl⟩ := parS_ok hs
    simp only [Bool.and_eq_true, decide_eq_true_eq] at h
    obtain ⟨⟨⟨⟨⟨⟨⟨⟨⟨h1, h2⟩, h3⟩, h4⟩, h5⟩, h6⟩, h7⟩, h8⟩, h9⟩, h10⟩ := h
    have hx := lclB_ok g h6
    have hy := lclB_ok g h7
    have h8' := h8
    simp only [swB, Bool.and_eq_true] at h8'
    exact PS.imp (ps_par g.calm g.ndX (g.at_ h1) (g.at_ h2) h3 hx hy (pa_cons (sndE a g hi h9).o.s.pe (pa_cons (sndE b g hi h10).o.s.pe pa_nil (star_plain h8'.1.1.2 _ _)) (star_plain h8'.1.1.1 _ _)) (swapped2 g.knd hx hy h4 h5 h8)) fun D σ H w => par_read (g.sl h1 (lclB_no h6)) (g.sl h2 (lclB_no h7)) w
  | .par3 i j l a b e, st, h => by
    simp only [chkS] at h
    split at h <;> first | (cases h; done) | skip
    rename_i x px y py z pz u v w hs
    obtain ⟨k, p, k2, p2, q, rfl⟩ := par3S_ok hs
    simp only [Bool.and_eq_true, decide_eq_true_eq] at h
    obtain ⟨⟨⟨⟨⟨⟨⟨⟨⟨⟨⟨⟨h1, h2⟩, h3⟩, h4⟩, h5⟩, h6⟩, h7⟩, h8⟩, h9⟩, h10⟩, h11⟩, h12⟩, h13⟩ := h
    have hx := lclB_ok g h7
    have hy := lclB_ok g h8
    have hz := lclB_ok g h9
    have h10' := h10
    simp only [swB3, Bool.and_eq_true] at h10'
    exact PS.imp (ps_par3 g.calm g.ndX (g.at_ h1) (g.at_ h2) (g.at_ h3) h4.1 h4.2.1 h4.2.2 hx hy hz (pa_cons (sndE a g hi h11).o.s.pe (pa_cons (sndE b g hi h12).o.s.pe (pa_cons (sndE e g hi h13).o.s.pe pa_nil (star_plain h10'.1.1.2 _ _)) (star_plain h10'.1.1.1.2 _ _)) (star_plain h10'.1.1.1.1 _ _)) (swapped3 g.knd hx hy hz h5.1 h5.2.1 h5.2.2 h6.1 h6.2 h10)) fun D σ H w => par3_read (g.sl h1 (lclB_no h7)) (g.sl h2 (lclB_no h8)) (g.sl h3 (lclB_no h9)) w
  | .aug i o e, st, h => by
    simp only [chkS] at h
    split at h <;> first | (cases h; done) | skip
    rename_i x op v hs
    obtain ⟨p, q, rfl⟩ := augS_ok hs
    simp only [Bool.and_eq_true, decide_eq_true_eq] at h
    obtain ⟨⟨⟨h1, h2⟩, h3⟩, h4⟩ := h
    obtain ⟨k1, k2⟩ := g.loc h2
    cases o <;> cases op <;> first | (cases h3; done) | skip
    · exact PS.imp (ps_aug g.ndX (g.at_ h1) k1 (sndE e g hi h4).o.s.pe ip_add k2) fun D σ H w => aug_read (g.sl h1 (locB_no h2)) (f := fun i j => i + j) (fun x y w z => by cases z; rfl) w
    · exact PS.imp (ps_aug g.ndX (g.at_ h1) k1 (sndE e g hi h4).o.s.pe ip_sub k2) fun D σ H w => aug_read (g.sl h1 (locB_no h2)) (f := fun i j => i - j) (fun x y w z => by cases z; rfl) w
  | .fset i f e, st, h => by
    simp only [chkS] at h
    split at h <;> first | (cases h; done) | skip
    rename_i x g2 v hs
    obtain ⟨p, q, r, rfl⟩ := fsetS_ok hs
    simp only [Bool.and_eq_true, decide_eq_true_eq] at h
    obtain ⟨⟨⟨⟨⟨⟨⟨⟨⟨⟨rfl, h2⟩, h3⟩, h4⟩, h5⟩, h6⟩, h7⟩, h8⟩, h9⟩, h10⟩, h11⟩ := h
    have hm : f ∈ fl := List.mem_of_getElem? h6
    obtain ⟨y, hy⟩ := g.slf f hm
    rw [g.len] at h5 h6
    rw [← g.fld] at h6 h7 h8
    have pself : PE X (.Name x p) (tVar 0) := pe_var (by rw [g.hN]; exact h2) (g.vis h3) (nmB_ok h4).1 (nmB_ok h4).2.1
    refine PS.imp (ps_fld pself (sndE e g hi h11).o.s.pe (sw_plain h9 (notLc h10) _ _ _)) fun D σ H w => ?_
    rw [g.K]
    exact fset_read hy h5 h6 h7 h8 (g.selfc f hm) w
  | .fst2 i j e, st, h => by
    simp only [chkS] at h
    split at h <;> first | (cases h; done) | skip
    rename_i x f1 y f2 v hs
    obtain ⟨p, q, p2, q2, k, r, t, rfl⟩ := fst2S_ok hs
    simp only [Bool.and_eq_true, decide_eq_true_eq] at h
    obtain ⟨⟨⟨⟨⟨⟨⟨⟨⟨⟨⟨h1, rfl⟩, h3⟩, h4⟩, h5, h5'⟩, h6, h6'⟩, h7⟩, h8⟩, h9⟩, h10⟩, h11⟩, h12⟩ := h
    have hm := List.mem_of_getElem? h6
    have hm' := List.mem_of_getElem? h6'
    obtain ⟨z, hz⟩ := g.slf _ hm
    rw [g.len] at h5 h6 h5' h6'
    rw [← g.fld] at h6 h6' h7 h8
    have pself : ∀ p : Pos, PE X (.Name _ p) (tVar 0) := fun p => pe_var (by rw [g.hN]; exact h1) (g.vis h3) (nmB_ok h4).1 (nmB_ok h4).2.1
    obtain ⟨a1, a2, a3⟩ := asg_sole (l := t.line) (env := X.env) (tg := .Tuple [.Attribute (.Name _ p) f1 q, .Attribute (.Name _ p2) f2 q2] k r) rfl h9 h10 (notLc h11)
    refine PS.imp (ps_asg (sndE e g hi h12).o.s.pe (pg_tup (n := 2) g.calm (pgs_cons (pg_fld (pself p)) (pgs_cons (pg_fld (pself p2)) pgs_nil))) a1 a2 a3) fun D σ H w => ?_
    rw [g.K]
    exact fst2_read hz h5 h5' h6 h6' h7 h8 (g.selfc _ hm) (g.selfc _ hm').2 w
  | .spans i x h0, st, h => by
    simp only [chkS] at h
    obtain ⟨k1, k2, k3, k4, k5, k6⟩ := ps_spn g hi hp h
    exact PS.imp k1 fun D σ H w => spn_read k2 k3 ⟨k4, k5, k6⟩ w
  | .putL i k e, st, h => by
    simp only [chkS] at h
    split at h <;> first | (cases h; done) | skip
    rename_i y ix v hs
    obtain ⟨p, q, rfl⟩ := subS_ok hs
    simp only [Bool.and_eq_true] at h
    obtain ⟨⟨⟨⟨h1, h2⟩, h3⟩, h4⟩, h5⟩ := h
    have k1 := pfB_ok g h1
    exact PS.imp (ps_asg (sndE e g hi h3).o.s.pe (pg_sub k1.pe (sndE k g hi h2).o.s.pe set_list (asg_sub (sndE k g hi h2).o.p)) (sole_plain h4 (notLc h5))) fun D σ H w => putL_read w
  | .putD i k e, st, h => by
    simp only [chkS] at h
    split at h <;> first | (cases h; done) | skip
    rename_i y ix v hs
    obtain ⟨p, q, rfl⟩ := subS_ok hs
    simp only [Bool.and_eq_true] at h
    obtain ⟨⟨⟨⟨h1, h2⟩, h3⟩, h4⟩, h5⟩ := h
    have k1 := pfB_ok g h1
    exact PS.imp (ps_dput (by have := g.room.units; omega) k1.pe (sndE k g hi h2).o.s.pe (sndE e g hi h3).o.s.pe (sw_plain h4 (notLc h5) _ _ _)) fun D σ H w => putD_read w
  | .app i e, st, h => by
    simp only [chkS] at h
    split at h <;> first | (cases h; done) | skip
    rename_i y m x hs
    obtain ⟨ap, p, q, rfl, hl⟩ := mcS_ok hs
    simp only [Bool.and_eq_true, decide_eq_true_eq] at h
    obtain ⟨⟨rfl, h1⟩, h2⟩ := h
    have k1 := pfB_ok g h1
    have o := (sndE e g hi h2).o
    have hb := pe_bm PySem.F.plainAttrs_list PySem.F.slot_list_append PySem.F.type_list_append mt_append k1.pe (pa_cons o.s.pe pa_nil (star_plain o.p _ _)) (attr_plain k1.pl _ _) (by rw [star_plain o.p]; rfl) hl (star_plain o.p _ _) rfl
    rw [g.K] at hb
    exact PS.imp (ps_expr hb) fun D σ H w => app_read w
  | .ext i e, st, h => by
    simp only [chkS] at h
    split at h <;> first | (cases h; done) | skip
    rename_i y m x hs
    obtain ⟨ap, p, q, rfl, hl⟩ := mcS_ok hs
    simp only [Bool.and_eq_true, decide_eq_true_eq] at h
    obtain ⟨⟨rfl, h1⟩, h2⟩ := h
    have k1 := pfB_ok g h1
    have o := (sndE e g hi h2).o
    have hb := pe_bm PySem.F.plainAttrs_list PySem.F.slot_list_extend PySem.F.type_list_extend mt_extend k1.pe (pa_cons o.s.pe pa_nil (star_plain o.p _ _)) (attr_plain k1.pl _ _) (by rw [star_plain o.p]; rfl) hl (star_plain o.p _ _) rfl
    rw [g.K] at hb
    exact PS.imp (ps_expr hb) fun D σ H w => ext_read w
  | .rem i e, st, h => by
    simp only [chkS] at h
    split at h <;> first | (cases h; done) | skip
    rename_i y m x hs
    obtain ⟨ap, p, q, rfl, hl⟩ := mcS_ok hs
    simp only [Bool.and_eq_true, decide_eq_true_eq] at h
    obtain ⟨⟨rfl, h1⟩, h2⟩ := h
    have k1 := pfB_ok g h1
    have o := (sndE e g hi h2).o
    have hb := pe_bm PySem.F.plainAttrs_list PySem.F.slot_list_remove PySem.F.type_list_remove (mt_removeD (by have := g.room.un; omega)) k1.pe (pa_cons o.s.pe pa_nil (star_plain o.p _ _)) (attr_plain k1.pl _ _) (by rw [star_plain o.p]; rfl) hl (star_plain o.p _ _) rfl
    rw [g.K] at hb
    exact PS.imp (ps_expr hb) fun D σ H w => rem_read w
  | .del i k, st, h => by
    simp only [chkS] at h
    split at h <;> first | (cases h; done) | skip
    rename_i y ix hs
    obtain ⟨p, q, rfl⟩ := delS_ok hs
    simp only [Bool.and_eq_true] at h
    have k1 := pfB_ok g h.1
    exact PS.imp (ps_delL k1.pe (sndE k g hi h.2).o.s.pe) fun D σ H w => del_read w
  | .exp e, st, h => by
    simp only [chkS] at h
    split at h <;> first | (cases h; done) | skip
    rename_i v hs
    obtain ⟨p, rfl⟩ := expS_ok hs
    simp only [Bool.and_eq_true] at h
    exact PS.imp (ps_expr (sndE e g hi h.2).o.s.pe (sw_plain h.1.1 (notLc h.1.2) _ _ _)) fun D σ H w => exp_read w
  | .ret e, st, h => by
    simp only [chkS] at h
    split at h <;> first | (cases h; done) | skip
    rename_i v hs
    obtain ⟨p, rfl⟩ := retS_ok hs
    by_cases hv : ∃ i, e = .var i
    · obtain ⟨i, rfl⟩ := hv
      obtain ⟨_, k1, k2⟩ := plB_ok g (by simpa only [chkE] using h)
      exact PS.imp (ps_ret k1.pe) fun D σ H w => retV_read w
    · exact PS.imp (ps_ret (sndE e g hi h).o.s.pe) fun D σ H w => ret_read (fun i z => hv ⟨i, z⟩) w
  | .retN, st, h => by
    obtain ⟨p, rfl⟩ := retNS_ok (by simpa only [chkS] using h)
    exact PS.imp ps_retN fun D σ H w => retN_read w
  | .cond t a b, st, h => by
    simp only [chkS] at h
    split at h <;> first | (cases h; done) | skip
    rename_i u xs ys hs
    obtain ⟨p, rfl⟩ := ifS_ok hs
    simp only [Bool.and_eq_true] at h
    exact PS.imp (ps_if (sndE t g hi h.1.1).o.s.pt (sndSs g hi hp a h.1.2) (sndSs g hi hp b h.2)) fun D σ H w => cond_read w
  | .whl t a, st, h => by
    simp only [chkS] at h
    split at h <;> first | (cases h; done) | skip
    rename_i u xs hs
    obtain ⟨p, rfl⟩ := whS_ok hs
    simp only [Bool.and_eq_true] at h
    exact PS.imp (ps_while hp (sndE t g hi h.1).o.s.pt (sndSs g hi hp a h.2)) fun D σ H w => whl_read w
  | .forr k a b p body, st, h => by
    simp only [chkS] at h
    split at h <;> first | (cases h; done) | skip
    rename_i tg iter xs hs
    obtain ⟨q, rfl⟩ := forS_ok hs
    simp only [Bool.and_eq_true] at h
    obtain ⟨⟨⟨⟨h1, h2⟩, h3⟩, h4⟩, h5⟩ := h
    have hpi : PI X tg iter (ti c ξ F k a b) := by
      split at h2
      · rename_i x oy hx
        rw [Bool.and_eq_true] at h2
        have h22 := h2.2
        cases oy with
        | none => exact itA_ok g hx (sndE a g hi h2.1).o (fun y hy' => nomatch hy') fun _ => isNop_ok h22
        | some y0 =>
          have q := (sndE b g hi h22).o
          exact itA_ok g hx (sndE a g hi h2.1).o (fun y hy' => by cases hy'; exact ⟨q, chkE_nop h22⟩) fun hy' => nomatch hy'
      · cases h2
    obtain ⟨k1, k2⟩ := chkP_ok g p h3
    exact PS.imp (ps_for hp g.calm hpi k1 (sndSs g hi hp body h5) (hash_plain h1 _)) fun D σ H w => forr_read k2 h4 w
  | .brk, st, h => by
    obtain ⟨p, rfl⟩ := brkS_ok (by simpa only [chkS] using h)
    exact PS.imp ps_break fun D σ H w => brk_read w
  | .cnt, st, h => by
    obtain ⟨p, rfl⟩ := cntS_ok (by simpa only [chkS] using h)
    exact PS.imp ps_continue fun D σ H w => cnt_read w
  | .pas, st, h => by
    rcases pasS_ok (by simpa only [chkS] using h) with ⟨p, rfl⟩ | ⟨x, j, p, q, rfl⟩
    · exact PS.imp ps_pass fun D σ H w => pas_read w
    · exact PS.imp ps_doc fun D σ H w => pas_read w
  | .nev, st, h => PS.imp ps_never fun D σ H w => nev_read w
  | .rai _ _, st, h => by simp [chkS] at h
  | .nil, st, h => by simp [chkS] at h
  | .seq _ _, st, h => by simp [chkS] at h
theorem sndSs (g : Gd π c ξ F n N fl ns X) (hi : F.ino = io) (hp : PassesOwn (model X.prog X.w) X.A X.env X.xe) : ∀ (s : S) {sts : List Stmt}, chkSs π io N fl ns s sts = true → PSs X sts (ts c ξ F s)
  | .nil, sts, h => by
    simp only [chkSs, List.isEmpty_iff] at h
    subst h
    exact ss_nil
  | .seq a r, sts, h => by
    cases sts with
    | nil => simp [chkSs] at h
    | cons st rest =>
      simp only [chkSs, Bool.and_eq_true] at h
      exact ss_cons (sndS g hi hp a h.1) (sndSs g hi hp r h.2)
  | .set _ _, sts, h => by simp [chkSs] at h
  | .setP _ _, sts, h => by simp [chkSs] at h
  | .par _ _ _ _, sts, h => by simp [chkSs] at h
  | .par3 _ _ _ _ _ _, sts, h => by simp [chkSs] at h
  | .aug _ _ _, sts, h => by simp [chkSs] at h
  | .fset _ _ _, sts, h => by simp [chkSs] at h
  | .fst2 _ _ _, sts, h => by simp [chkSs] at h
  | .spans _ _ _, sts, h => by simp [chkSs] at h
  | .putL _ _ _, sts, h => by simp [chkSs] at h
  | .putD _ _ _, sts, h => by simp [chkSs] at h
  | .app _ _, sts, h => by simp [chkSs] at h
  | .ext _ _, sts, h => by simp [chkSs] at h
  | .rem _ _, sts, h => by simp [chkSs] at h
  | .del _ _, sts, h => by simp [chkSs] at h
  | .exp _, sts, h => by simp [chkSs] at h
  | .ret _, sts, h => by simp [chkSs] at h
  | .retN, sts, h => by simp [chkSs] at h
  | .cond _ _ _, sts, h => by simp [chkSs] at h
  | .whl _ _, sts, h => by simp [chkSs] at h
  | .forr _ _ _ _ _, sts, h => by simp [chkSs] at h
  | .brk, sts, h => by simp [chkSs] at h
  | .cnt, sts, h => by simp [chkSs] at h
  | .pas, sts, h => by simp [chkSs] at h
  | .nev, sts, h => by simp [chkSs] at h
  | .rai _ _, sts, h => by simp [chkSs] at h
end
end
end Vf
end
section
namespace Vf
open PySem L2 PyProof.Rows
section
variable {k : Kc} {G H : Hp}
theorem args_at : ∀ {fl : List Bool} {vs : List V} {ds : List D} {i : Nat} {b : Bool}, ArgsOk k G H fl vs ds → fl[i]? = some b →
    ∃ v d, vs[i]? = some v ∧ ds[i]? = some d ∧ (b = true → ∃ l, v = .ref l ∧ G l = none ∧ Own k G H l d ∧ l ∈ inAd fl vs) ∧ (b = false → Rep k G v d)
  | [], _, _, _, _, _, e => by simp at e
  | true :: fl, v :: vs, d :: ds, 0, b, h, e => by
    simp at e; subst e
    obtain ⟨⟨l, rfl, h1, h2⟩, _⟩ := h
    exact ⟨_, d, rfl, rfl, (fun _ => ⟨l, rfl, h1, h2, List.mem_cons_self⟩), fun z => nomatch z⟩
  | false :: fl, v :: vs, d :: ds, 0, b, h, e => by
    simp at e; subst e
    exact ⟨v, d, rfl, rfl, (fun z => nomatch z), fun _ => h.1⟩
  | true :: fl, v :: vs, d :: ds, i + 1, b, h, e => by
    obtain ⟨u, x, h1, h2, h3, h4⟩ := args_at (i := i) h.2 (by simpa using e)
    refine ⟨u, x, by simpa using h1, by simpa using h2, fun z => ?_, h4⟩
    obtain ⟨l, q1, q2, q3, q4⟩ := h3 z
    refine ⟨l, q1, q2, q3, ?_⟩
    obtain ⟨⟨l', rfl, _⟩, _⟩ := h
    exact List.mem_cons_of_mem _ q4
  | false :: fl, v :: vs, d :: ds, i + 1, b, h, e => by
    obtain ⟨u, x, h1, h2, h3, h4⟩ := args_at (i := i) h.2 (by simpa using e)
    exact ⟨u, x, by simpa using h1, by simpa using h2, h3, h4⟩
theorem args_dist : ∀ {fl : List Bool} {vs : List V} {ds : List D} {i j : Nat} {l : Addr}, ArgsOk k G H fl vs ds → (inAd fl vs).Nodup → i < j → fl[i]? = some true → fl[j]? = some true → vs[i]? = some (.ref l) → vs[j]? = some (.ref l) → False
  | [], _, _, _, _, _, _, _, _, e, _, _, _ => by simp at e
  | true :: fl, v :: vs, d :: ds, 0, j + 1, l, h, nd, _, e1, e2, e3, e4 => by
    simp at e3; subst e3
    obtain ⟨u, x, h1, h2, h3, _⟩ := args_at (i := j) h.2 (by simpa using e2)
    obtain ⟨l', q1, _, _, q4⟩ := h3 rfl
    rw [show vs[j]? = some (V.ref l) by simpa using e4] at h1
    cases h1; cases q1
    exact (List.nodup_cons.mp nd).1 q4
  | false :: fl, v :: vs, d :: ds, 0, j + 1, l, h, nd, _, e1, e2, e3, e4 => by simp at e1
  | true :: fl, v :: vs, d :: ds, i + 1, j + 1, l, h, nd, hij, e1, e2, e3, e4 => by
    obtain ⟨⟨l', rfl, _⟩, h⟩ := h
    exact args_dist (i := i) (j := j) h (List.nodup_cons.mp nd).2 (by omega) (by simpa using e1) (by simpa using e2) (by simpa using e3) (by simpa using e4)
  | false :: fl, v :: vs, d :: ds, i + 1, j + 1, l, h, nd, hij, e1, e2, e3, e4 => args_dist (i := i) (j := j) h.2 nd (by omega) (by simpa using e1) (by simpa using e2) (by simpa using e3) (by simpa using e4)
  | _ :: _, _ :: _, _ :: _, _, 0, _, _, _, hij, _, _, _, _ => by omega
theorem args_len : ∀ {fl : List Bool} {vs : List V} {ds : List D}, ArgsOk k G H fl vs ds → ds.length = fl.length
  | [], [], [], _ => rfl
  | true :: fl, v :: vs, d :: ds, h => by rw [List.length_cons, List.length_cons, args_len h.2]
  | false :: fl, v :: vs, d :: ds, h => by rw [List.length_cons, List.length_cons, args_len h.2]
theorem inAd_some : ∀ {fl : List Bool} {vs : List V} {ds : List D} {a : Addr}, ArgsOk k G H fl vs ds → a ∈ inAd fl vs → H a ≠ none
  | [], [], [], a, _, h => by simp [inAd] at h
  | true :: fl, v :: vs, d :: ds, a, h, m => by
    obtain ⟨⟨l, rfl, _, o⟩, h⟩ := h
    rcases List.mem_cons.mp m with rfl | m
    · exact o.some
    · exact inAd_some h m
  | false :: fl, v :: vs, d :: ds, a, h, m => inAd_some h.2 m
end
theorem env0_get {d : Def} {ds : List D} (h : ds.length = d.ino.length) {i : Nat} {m : Md} {x : D} (e : getV (env0 d ds) i = some (m, x)) : ∃ b, d.ino[i]? = some b ∧ ds[i]? = some x ∧ m = if b = true then .ino else .sh := by
  unfold getV env0 at e
  have hl : ((d.ino.zip ds).map fun p => some (if p.1 = true then Md.ino else Md.sh, p.2)).length = ds.length := by rw [List.length_map, List.length_zip]; omega
  by_cases hi : i < ds.length
  · rw [List.getElem?_append_left (by rw [hl]; exact hi), List.getElem?_map] at e
    have h1 : d.ino[i]? = some (d.ino[i]'(by omega)) := List.getElem?_eq_getElem _
    have h2 : ds[i]? = some (ds[i]'hi) := List.getElem?_eq_getElem _
    have h3 : (d.ino.zip ds)[i]? = some (d.ino[i]'(by omega), ds[i]'hi) := by rw [List.getElem?_zip_eq_some]; exact ⟨h1, h2⟩
    rw [h3] at e
    have e' : some (if (d.ino[i]'(by omega)) = true then Md.ino else Md.sh, ds[i]'hi) = some (m, x) := e
    cases e'
    exact ⟨_, h1, h2, rfl⟩
  · rw [List.getElem?_append_right (by rw [hl]; omega), List.getElem?_replicate] at e
    split at e <;> cases e
theorem start_get {N : List Str} {vs : List V} {i : Nat} {v : V} (h : vs[i]? = some v) : (L2.start N vs)[i]? = some (some v) := by
  unfold L2.start
  rw [List.getElem?_append_left (by rw [List.length_map]; exact (List.getElem?_eq_some_iff.mp h).1), List.getElem?_map, h]; rfl
theorem outs_ok {c : Cc} {e : Env} {σ' : L2.St} {G' H' : Hp} (R : Rel c e σ' G' H') : ∀ {fl : List Bool} {vs : List V} {i : Nat} {os : List D}, outs e fl i = some os → vs.length = fl.length → (∀ j, fl[j]? = some true → loc c σ' H' (i + j) = vs[j]?) → OutsOk c.toKc G' H' fl vs os
  | [], [], i, os, h, _, _ => by cases h; exact trivial
  | true :: fl, v :: vs, i, os, h, hl, hv => by
    simp only [outs] at h
    split at h
    · rename_i d hd
      simp only [Option.map_eq_some_iff] at h
      obtain ⟨os', h, rfl⟩ := h
      obtain ⟨v', q1, l, rfl, q2, q3, q4⟩ := R.slot i _ d hd
      have := hv 0 rfl
      rw [Nat.add_zero, q1] at this
      cases this
      refine ⟨⟨l, rfl, q2, q4⟩, outs_ok R h (by simpa using hl) fun j hj => ?_⟩
      have := hv (j + 1) (by simpa using hj)
      rw [show i + 1 + j = i + (j + 1) by omega, this]; simp
    · cases h
  | false :: fl, v :: vs, i, os, h, hl, hv => by
    simp only [outs] at h
    refine (show OutsOk c.toKc G' H' fl vs os from outs_ok R h (by simpa using hl) fun j hj => ?_)
    have := hv (j + 1) (by simpa using hj)
    rw [show i + 1 + j = i + (j + 1) by omega, this]; simp
theorem run_def {T : Tab} {j : Nat} {d : Def} (h : T.defs[j]? = some d) (n : Nat) (ds : List D) : (fsT T (n + 1)).run j ds = runDef (fsT T n) d ds := by
  cases n <;> simp [fsT, h]
theorem fs_ino {T : Tab} (n : Nat) : (fsT T n).ino = inoT T := by
  cases n with
  | zero => rfl
  | succ n => cases n <;> rfl
/-- the slots that the caller keeps stand as they came -/
def keepB (ino : List Bool) (s : S) : Bool := (List.range ino.length).all fun i => !(ino[i]? == some true) || !(asg s).contains i
theorem keepB_ok {ino : List Bool} {s : S} (h : keepB ino s = true) {i : Nat} (hi : ino[i]? = some true) : i ∉ asg s := by
  unfold keepB at h
  rw [List.all_eq_true] at h
  have := h i (List.mem_range.mpr (List.getElem?_eq_some_iff.mp hi).1)
  simpa [hi] using this
/-- what holds of the program around -/
structure Wd (π : Pi) (k : Kc) (F : Fs) (P : Program) (w : World) (mg : Str → Option Value) (base : Heap) (n : Nat) : Prop where
  ob : Ob π k F P w mg base n
  free : ∀ x ∈ π.free, mg x = none
  glos : ∀ x c, (x, c) ∈ π.glos → ∃ u, mg x = some u ∧ RelV (Cn.v c) u
  gbl : ∀ x id, (x, id) ∈ π.gbl → mg x = some (.builtin id)
  atts : ∀ j f, (j, f) ∈ π.atts → L2.Cls k.K (k.cl j) ∧ NoAttr k.K (k.cl j) f
  kcalls : ∀ f ks pm, (f, ks, pm) ∈ π.kws → ∀ nm, π.fns[f]? = some nm → ∃ a fd ps, mg nm = some (.ref a) ∧ PySem.W.keepIn k.K (.ref a) = true ∧ FnOk P w k.K mg base (L2.CX P w) n a fd ps (spF k F f) ∧ KBn k.K fd ps (pm.length - ks.length) ks (fun us ws => permL pm (us ++ ws)) (fun vs zs => permL pm (vs ++ zs))
  calls : ∀ f nm, π.fns[f]? = some nm → ∃ a fd ps, mg nm = some (.ref a) ∧ PySem.W.keepIn k.K (.ref a) = true ∧ FnOk P w k.K mg base (L2.CX P w) n a fd ps (spF k F f) ∧ Binds k.K fd ps []
section
variable {π : Pi} {k : Kc} {T : Tab} {P : Program} {w : World} {mg : Str → Option Value} {base : Heap} {n : Nat}
theorem def_ok (W : Wd π k (fsT T n) P w mg base n) {j : Nat} {d : Def} {x qual : Str} {st : Stmt} {f : Addr} {fd : FuncData} {N ps : List Str} (Fu : L2.FunD k.K x qual (defArgs st) (defBody st) (defScope st) [] [] f fd) (Sc : FnScope N ps (defScope st)) (hT : T.defs[j]? = some d) (hs : d.slots = N.length) (hio : d.ino.length = ps.length)
    (hk : keepB d.ino d.body = true) (hc : chkSs π (inoT T) N [] ⟨(defScope st).names, fun _ => true, ("" : Str)⟩ d.body (defBody st) = true) : FnOk P w k.K mg base (L2.CX P w) (n + 1) f fd ps (spF k (fsT T (n + 1)) j) := by
  have hino : inoT T j = d.ino := by unfold inoT; rw [hT]
  have hpl : ps.length ≤ N.length := by have := congrArg List.length Sc.pre; rw [List.length_take] at this; omega
  refine L2.FunD.ok (CX := L2.CX P w) Fu Sc (fun vs H Q E h => by rw [spF_len vs H Q E h, fs_ino, hino, hio]) fun cdv A outer s H vs Q E hr hsp => ?_
  obtain ⟨G, ds, eG, ha, nd, hsp⟩ := hsp
  rw [fs_ino, hino] at ha nd hsp
  rw [run_def hT] at hsp
  have hdl := args_len ha
  have hvl := ha.length
  let c : Cc := { K := k.K, cl := k.cl, n := N.length, G0 := G, H0 := H, S := inAd d.ino vs, self := none, selfC := 0, selfD := 0, fl := [] }
  have hck : c.toKc = k := rfl
  let X := cxOf (L2.CX P w) P w k.K mg base N qual (defScope st) f cdv A outer s H E
  have tk : Takes X (fun cls d _ H => E cls d H) := takes_of rfl rfl rfl rfl
  have g : Gd π c E (fsT T n) n N [] ⟨(defScope st).names, fun _ => true, ("" : Str)⟩ X :=
    { hN := rfl, len := rfl, nd := Sc.nd, kd := rfl, knd := Sc.kind, K := rfl, calm := rfl, room := hr, ob := W.ob, slf := (fun f h => absurd h List.not_mem_nil), fn := fun _ _ => rfl, pass := passes_call tk fun _ _ _ _ h => h,
      free := W.free, glos := W.glos, gbl := W.gbl, atts := W.atts, fld := rfl, selfc := (fun f h => absurd h List.not_mem_nil), self0 := (fun x z => nomatch (show (none : Option Addr) = some x from z)), kcalls := W.kcalls, calls := W.calls }
  refine ⟨_, sndSs g (fs_ino n) (passes_of rfl) d.body hc, env0 d ds, G, ?_, ?_⟩
  · have locA : ∀ i v, vs[i]? = some v → loc c (L2.start N vs) H i = some v := fun i v hv => by
      have : i < N.length := by have := (List.getElem?_eq_some_iff.mp hv).1; omega
      unfold loc
      rw [if_pos this, start_get hv]; rfl
    have key : ∀ i m x, getV (env0 d ds) i = some (m, x) → ∃ v, loc c (L2.start N vs) H i = some v ∧ vs[i]? = some v ∧ SlotOk c G H m v x ∧ (m ≠ .sh → d.ino[i]? = some true) := fun i m x e => by
      obtain ⟨b, h1, h2, rfl⟩ := env0_get hdl e
      obtain ⟨v, x', q1, q2, q3, q4⟩ := args_at ha h1
      rw [h2] at q2; cases q2
      refine ⟨v, locA i v q1, q1, ?_, fun z => ?_⟩
      · cases b with
        | true => obtain ⟨l, z1, z2, z3, z4⟩ := q3 rfl; exact ⟨l, z1, z2, z4, z3⟩
        | false => exact q4 rfl
      · cases b with
        | true => exact h1
        | false => exact absurd rfl z
    refine ⟨?_, eG, .refl _, fun a h => .inl h, fun a o h _ => h, fun a h => inAd_some ha h, fun i m x e => ?_, fun i j mi di mj dj l ne e1 n1 e2 n2 l1 l2 => ?_, (fun x (z : (none : Option Addr) = some x) => nomatch z), (fun x (z : (none : Option Addr) = some x) => nomatch z), (fun x fs (z : (none : Option Addr) = some x) => nomatch z)⟩
    · unfold L2.start
      rw [List.length_append, List.length_map, List.length_replicate]
      show _ = N.length
      omega
    · obtain ⟨v, h1, _, h3, _⟩ := key i m x e
      exact ⟨v, h1, h3⟩
    · obtain ⟨v, h1, h1', _, h3⟩ := key i mi di e1
      obtain ⟨u, h4, h4', _, h6⟩ := key j mj dj e2
      rw [l1] at h1; cases h1
      rw [l2] at h4; cases h4
      rcases Nat.lt_or_gt_of_ne ne with z | z
      · exact args_dist ha nd z (h3 n1) (h6 n2) h1' h4'
      · exact args_dist ha nd z (h6 n2) (h3 n1) h4' h1'
  · have hsp' : spR k d.ino vs G H Q E (evalS (fsT T n) d.body (env0 d ds) >>= fun f => match f with
        | .nx e => Vf.R.of (outs e d.ino 0) >>= fun o => .ok ((false, .non), o)
        | .rt m x e => Vf.R.of (outs e d.ino 0) >>= fun o => .ok ((m, x), o)
        | _ => .stk) := by
      unfold runDef at hsp
      rw [chk_pos hdl] at hsp
      exact hsp
    have oo : ∀ {e : Env} {σ' : L2.St} {G' H' : Hp} {os : List D}, Rel c e σ' G' H' → outs e d.ino 0 = some os → (∀ i, i ∉ asg d.body → loc c σ' H' i = loc c (L2.start N vs) H i) → OutsOk k G' H' d.ino vs os := fun {e σ' G' H' os} R ho hl => by
      refine outs_ok R ho hvl fun j hj => ?_
      rw [Nat.zero_add, hl j (keepB_ok hk hj)]
      obtain ⟨v, _, h1, _⟩ := args_at ha hj
      have : j < N.length := by have := (List.getElem?_eq_some_iff.mp h1).1; omega
      unfold loc
      rw [if_pos this, start_get h1, h1]; rfl
    cases he : evalS (fsT T n) d.body (env0 d ds) with
    | stk => rw [he] at hsp'; exact hsp'.elim
    | exc i x =>
      rw [he] at hsp'
      exact hsp'
    | ok fl =>
      rw [he, Vf.R.bind_ok] at hsp'
      cases fl with
      | nx e =>
        intro σ' G' H' R eg hl
        cases ho : outs e d.ino 0 with
        | none => simp only [ho] at hsp'; exact hsp'.elim
        | some os =>
          simp only [ho, Vf.R.of_some, Vf.R.bind_ok] at hsp'
          exact hsp' G' H' .non eg R.ex R.gfr (fun a o h z => R.fr a o h z) (oo R ho hl) (by unfold ResOk; rw [if_neg Bool.false_ne_true]; exact .non)
      | rt m x e =>
        intro σ' G' H' v R eg hl ok
        cases ho : outs e d.ino 0 with
        | none => simp only [ho] at hsp'; exact hsp'.elim
        | some os =>
          simp only [ho, Vf.R.of_some, Vf.R.bind_ok] at hsp'
          refine hsp' G' H' v eg R.ex R.gfr (fun a o h z => R.fr a o h z) (oo R ho hl) ?_
          unfold ValOk at ok
          unfold ResOk
          split
          · rename_i hm
            rw [if_pos hm] at ok
            obtain ⟨l, z1, _, z2, z3, z4, _⟩ := ok
            exact ⟨l, z1, z3, z2, z4⟩
          · rename_i hm
            rw [if_neg hm] at ok
            exact ok
      | bk e => exact hsp'.elim
      | ct e => exact hsp'.elim
theorem make_def {T : Tab} {j : Nat} {ci : Vf.Cls} (h : T.clss[j]? = some ci) (n : Nat) (ds : List D) : (fsT T (n + 2)).make j ds = runCls (fsT T n) j ci ds := by
  simp [fsT, h]
theorem envC_get {ci : Vf.Cls} {ds : List D} {i : Nat} {m : Md} {d : D} (e : getV (envC ci ds) i = some (m, d)) : m = .sh ∧ ∃ j, i = j + 1 ∧ ds[j]? = some d := by
  unfold getV envC at e
  cases i with
  | zero => simp at e
  | succ j =>
    rw [List.cons_append, List.getElem?_cons_succ] at e
    by_cases q : j < ds.length
    · rw [List.getElem?_append_left (by rw [List.length_map]; exact q), List.getElem?_map, List.getElem?_eq_getElem q] at e
      have e' : some (Md.sh, ds[j]) = some (m, d) := e
      cases e'
      exact ⟨rfl, j, rfl, List.getElem?_eq_getElem q⟩
    · rw [List.getElem?_append_right (by rw [List.length_map]; omega), List.getElem?_replicate] at e
      split at e <;> cases e
/-- own slots let go, one behind another -/
def frz1 (env : Env) (j : Nat) : Env := match getV env j with
  | some (.own, d) => env.set j (some (.sh, d))
  | _ => env
theorem frz1_get (env : Env) (j i : Nat) (m : Md) (d : D) (h : getV env i = some (m, d)) : getV (frz1 env j) i = some (if m = .own ∧ i = j then .sh else m, d) := by
  unfold frz1
  split
  · rename_i d' e
    by_cases hi : j = i
    · subst hi
      rw [e] at h; cases h
      rw [getV_same (getV_lt e), if_pos ⟨rfl, rfl⟩]
    · rw [getV_ne hi, h, if_neg (fun z => hi z.2.symm)]
  · rename_i z
    rw [h, if_neg (fun q => z d (by rw [← q.2, ← q.1]; exact h))]
theorem Rel.frz {c : Cc} {σ : L2.St} {H : Hp} : ∀ (l : List Nat) {env : Env} {G : Hp}, Rel c env σ G H → ∃ G' env', Rel c env' σ G' H ∧ Ex G G' ∧ ∀ i m d, getV env i = some (m, d) → getV env' i = some (if m = .own ∧ i ∈ l then .sh else m, d)
  | [], env, G, R => ⟨G, env, R, .refl _, fun i m d e => by rw [e, if_neg (fun z => by simp at z)]⟩
  | j :: l, env, G, R => by
    obtain ⟨G1, R1, e1⟩ : ∃ G1, Rel c (frz1 env j) σ G1 H ∧ Ex G G1 := by
      unfold frz1
      split
      · rename_i d e
        obtain ⟨G1, v, _, R1, e1, _, _⟩ := R.freezeSlot e
        exact ⟨G1, R1, e1⟩
      · exact ⟨G, R, .refl _⟩
    obtain ⟨G2, env2, R2, e2, k⟩ := Rel.frz l R1
    refine ⟨G2, env2, R2, e1.trans e2, fun i m d q => ?_⟩
    rw [k i _ d (frz1_get env j i m d q)]
    congr 2
    by_cases h1 : m = .own ∧ i = j
    · rw [if_pos h1, if_neg (fun z => nomatch z.1), if_pos ⟨h1.1, by rw [h1.2]; exact List.mem_cons_self⟩]
    · rw [if_neg h1]
      by_cases h2 : m = .own ∧ i ∈ l
      · rw [if_pos h2, if_pos ⟨h2.1, List.mem_cons_of_mem _ h2.2⟩]
      · rw [if_neg h2, if_neg (fun z => (List.mem_cons.mp z.2).elim (fun w => h1 ⟨z.1, w⟩) fun w => h2 ⟨z.1, w⟩)]
theorem fields_get {e : Env} : ∀ {fl : List Str} {i : Nat} {fs : List (Str × D)}, fieldsOf e i fl = some fs → fs.map (·.1) = fl ∧ ∀ (j : Nat) (f : Str) (d : D), fs[j]? = some (f, d) → ∃ m, getV e (i + j) = some (m, d)
  | [], i, fs, h => by cases h; exact ⟨rfl, fun j f d q => by simp at q⟩
  | g :: fl, i, fs, h => by
    simp only [fieldsOf, Option.bind_eq_some_iff, Option.map_eq_some_iff] at h
    obtain ⟨⟨m, d⟩, h1, fs', h2, rfl⟩ := h
    obtain ⟨q1, q2⟩ := fields_get h2
    refine ⟨by rw [List.map_cons, q1], fun j f d' q => ?_⟩
    cases j with
    | zero => simp at q; obtain ⟨rfl, rfl⟩ := q; exact ⟨m, h1⟩
    | succ j =>
      obtain ⟨m', q3⟩ := q2 j f d' (by simpa using q)
      exact ⟨m', by rw [← q3]; congr 1; omega⟩
/-- fields by their names, in another sequence -/
theorem fields_rep {k : Kc} {G : Hp} {fs : List (Str × V)} : ∀ {fds : List (Str × D)}, (∀ f d, (f, d) ∈ fds → ∃ v, fs.lookup f = some v ∧ Rep k G v d) → ∃ fs', RepF k G fs' fds ∧ fs'.map (·.1) = fds.map (·.1) ∧ ∀ f, f ∈ fds.map (·.1) → fs'.lookup f = fs.lookup f
  | [], _ => ⟨[], .nil, rfl, fun f h => by simp at h⟩
  | (f, d) :: fds, h => by
    obtain ⟨v, h1, h2⟩ := h f d List.mem_cons_self
    obtain ⟨fs', q1, q2, q3⟩ := fields_rep (k := k) (G := G) (fs := fs) (fds := fds) fun f d hm => h f d (List.mem_cons_of_mem _ hm)
    refine ⟨(f, v) :: fs', .cons h2 q1, by rw [List.map_cons, List.map_cons, q2], fun g hg => ?_⟩
    rw [List.lookup_cons]
    cases z : (g == f) with
    | true => rw [beq_iff_eq.mp z, h1]
    | false =>
      refine q3 g ((List.mem_cons.mp hg).resolve_left fun w => ?_)
      rw [w] at z; simp at z
theorem lookup_none {α : Type} {f : Str} : ∀ {l : List (Str × α)}, f ∉ l.map (·.1) → l.lookup f = none
  | [], _ => rfl
  | (g, v) :: l, h => by
    rw [List.map_cons, List.mem_cons, not_or] at h
    rw [List.lookup_cons, beq_eq_false_iff_ne.mpr h.1]
    exact lookup_none h.2
theorem cls_ok (W : Wd π k (fsT T n) P w mg base n) {j : Nat} {ci : Vf.Cls} {x qual : Str} {st : Stmt} {f : Addr} {fd : FuncData} {N ps : List Str} (Fu : L2.FunD k.K x qual (defArgs st) (defBody st) (defScope st) [] [] f fd) (Sc : FnScope N ps (defScope st)) (hT : T.clss[j]? = some ci) (hs : ci.slots = N.length) (hps : ps.length = ci.pars + 1)
    (h0 : N[0]? = some ("self" : Str)) (hfl : ∀ f ∈ ci.flds, L2.Cls k.K (k.cl j) ∧ NoAttr k.K (k.cl j) f) (hc : chkSs π (inoT T) N ci.flds ⟨(defScope st).names, fun _ => true, ("self" : Str)⟩ ci.body (defBody st) = true) : ∀ (hlen : ∀ vs H Q E, spI k (fsT T (n + 2)) j vs H Q E → vs.length = ps.length), FnOk P w k.K mg base (L2.CX P w) (n + 1) f fd ps (spI k (fsT T (n + 2)) j) := by
  intro hlen
  refine L2.FunD.ok (CX := L2.CX P w) Fu Sc hlen fun cdv A outer s H vs Q E hr hsp => ?_
  have hvl := hlen _ _ _ _ hsp
  obtain ⟨G, y, dx, us, ds, rfl, eG, gy, hy, ru, hsp⟩ := hsp
  rw [make_def hT] at hsp
  have hpl : ps.length ≤ N.length := by have := congrArg List.length Sc.pre; rw [List.length_take] at this; omega
  let c : Cc := { K := k.K, cl := k.cl, n := N.length, G0 := G, H0 := H, S := [y], self := some y, selfC := k.cl j, selfD := dx, fl := ci.flds }
  let X := cxOf (L2.CX P w) P w k.K mg base N qual (defScope st) f cdv A outer s H E
  have tk : Takes X (fun cls d _ H => E cls d H) := takes_of rfl rfl rfl rfl
  have g : Gd π c E (fsT T n) n N ci.flds ⟨(defScope st).names, fun _ => true, ("self" : Str)⟩ X :=
    { hN := rfl, len := rfl, nd := Sc.nd, kd := rfl, knd := Sc.kind, K := rfl, calm := rfl, room := hr, ob := W.ob, fn := fun _ _ => rfl, pass := passes_call tk fun _ _ _ _ h => h,
      free := W.free, glos := W.glos, gbl := W.gbl, atts := W.atts, fld := rfl, slf := fun _ _ => ⟨y, rfl⟩, selfc := hfl, self0 := fun _ _ => h0, kcalls := W.kcalls, calls := W.calls }
  refine ⟨_, sndSs g (fs_ino n) (passes_of rfl) ci.body hc, envC ci ds, G, ?_, ?_⟩
  · have locA : ∀ i v, (V.ref y :: us)[i]? = some v → loc c (L2.start N (V.ref y :: us)) H i = some v := fun i v hv => by
      have : i < N.length := by have := (List.getElem?_eq_some_iff.mp hv).1; omega
      unfold loc
      rw [if_pos this, start_get hv]; rfl
    refine ⟨?_, eG, .refl _, fun a h => .inl h, fun a o h _ => h, fun a h q => ?_, fun i m d e => ?_, fun i j' mi di mj dj l ne e1 n1 => absurd (envC_get e1).1 n1, fun x e => ?_, fun x e => ?_, fun x fs e h => ?_⟩
    · unfold L2.start
      rw [List.length_append, List.length_map, List.length_replicate]
      show _ = N.length
      omega
    · have : a = y := by simpa using (show a ∈ [y] from h)
      subst this; rw [hy] at q; cases q
    · obtain ⟨rfl, j', rfl, hd⟩ := envC_get e
      obtain ⟨v, h1, h2⟩ := ru.get hd
      exact ⟨v, locA (j' + 1) v (by simpa using h1), h2⟩
    · cases (show some y = some x from e)
      exact ⟨gy, List.mem_singleton.mpr rfl, [], hy⟩
    · cases (show some y = some x from e)
      exact start_get rfl
    · cases (show some y = some x from e)
      rw [hy] at h
      cases h
      exact ⟨List.nodup_nil, fun k hk => by simp at hk⟩
  · have hdl : ds.length = ci.pars := by
      have := ru.length
      rw [List.length_cons] at hvl
      omega
    have hsp' : spIR k y G H Q E (evalS (fsT T n) ci.body (envC ci ds) >>= fun f => match f with
        | .nx e => Vf.R.of (fieldsOf e ci.slots ci.flds) >>= fun fs => .ok (.obj j fs)
        | _ => .stk) := by
      unfold runCls at hsp
      rw [chk_pos hdl] at hsp
      exact hsp
    have ns : ∀ {a : Addr}, a ≠ y → a ∉ [y] := fun {a} h z => h (by simpa using z)
    cases he : evalS (fsT T n) ci.body (envC ci ds) with
    | stk => rw [he] at hsp'; exact hsp'.elim
    | exc i d =>
      rw [he] at hsp'
      intro G' H' v dx' y1 y2 y3 y4 y5 y6 y7
      exact (show ∀ (G' H' : Hp) (v : V) (dx : Addr), _ from hsp') G' H' v dx' y1 y2 y3 y4 y5 y6 fun a o q hn => y7 a o q (ns hn)
    | ok fl =>
      rw [he, Vf.R.bind_ok] at hsp'
      cases fl with
      | nx e =>
        intro σ' G' H' R eg hl
        cases hfo : fieldsOf e ci.slots ci.flds with
        | none => simp only [hfo] at hsp'; exact hsp'.elim
        | some fds =>
          simp only [hfo, Vf.R.of_some, Vf.R.bind_ok] at hsp'
          obtain ⟨q1, q2⟩ := fields_get hfo
          obtain ⟨G2, e2, R2, eg2, kf⟩ := R.frz ((List.range ci.flds.length).map fun i => ci.slots + i)
          obtain ⟨gx, _, fs, hx⟩ := R2.sf y rfl
          obtain ⟨ok1, ok2⟩ := R2.fsok y fs rfl hx
          have val : ∀ fn d, (fn, d) ∈ fds → ∃ v, fs.lookup fn = some v ∧ Rep k G2 v d := fun fn d hm => by
            obtain ⟨i, hi⟩ := List.getElem?_of_mem hm
            obtain ⟨m, hm⟩ := q2 i fn d hi
            have hfi : ci.flds[i]? = some fn := by rw [← q1, List.getElem?_map, hi]; rfl
            have hil := (List.getElem?_eq_some_iff.mp hfi).1
            have h3 := kf _ _ _ hm
            have hmem : ci.slots + i ∈ (List.range ci.flds.length).map fun i => ci.slots + i := List.mem_map.mpr ⟨i, List.mem_range.mpr hil, rfl⟩
            have noino : m ≠ .ino := fun z => by
              subst z
              obtain ⟨v, l1, a, rfl, _, hS, o⟩ := R.slot _ _ _ hm
              have ha : a = y := by simpa using (show a ∈ [y] from hS)
              subst ha
              obtain ⟨_, _, fs', hx'⟩ := R.sf a rfl
              rcases o.H with ⟨_, z⟩ | ⟨_, z⟩ <;> (rw [hx'] at z; cases z)
            have h4 : getV e2 (ci.slots + i) = some (.sh, d) := by
              rw [h3]
              cases m with
              | sh => rfl
              | own => rw [if_pos ⟨rfl, hmem⟩]
              | ino => exact absurd rfl noino
            obtain ⟨v, l1, r1⟩ := R2.slot _ _ _ h4
            unfold loc at l1
            rw [if_neg (by show ¬ ci.slots + i < N.length; omega)] at l1
            have l2 : (match H' y with
              | some (.ins _ _ fs) => (ci.flds[ci.slots + i - N.length]?).bind fun f => fs.lookup f
              | _ => none) = some v := l1
            rw [hx] at l2
            dsimp only at l2
            rw [hs, Nat.add_sub_cancel_left, hfi] at l2
            exact ⟨v, l2, r1⟩
          have eg3 : Ex G2 (upd G2 y (.ins (k.cl j) dx fs)) := Ex.new gx
          obtain ⟨fs', rf, n1, n2⟩ := fields_rep val
          refine (show ∀ G' H', Ex G G' → _ from hsp') (upd G2 y (.ins (k.cl j) dx fs)) H' ((eg.trans eg2).trans eg3) (fun a o q => ?_) (fun a ha => ?_) (fun a o q hn => R2.fr a o q (ns hn)) (by rw [hx]; exact fun z => nomatch z) (.obj (fs := fs) (fs' := fs') upd_same (fun fn => ?_) (RepF.mono eg3 rf))
          · by_cases z : a = y
            · subst z; rw [upd_same] at q; cases q; exact hx
            · rw [upd_ne z] at q; exact R2.ex a o q
          · by_cases z : a = y
            · exact .inr (.inr z)
            · rw [upd_ne z] at ha
              rcases R2.gfr a ha with h | h
              · exact .inl h
              · exact .inr (.inl h)
          · by_cases hm : fn ∈ ci.flds
            · exact (n2 fn (by rw [q1]; exact hm)).symm
            · rw [lookup_none (fun z => hm (ok2 fn z)), lookup_none (by rw [n1, q1]; exact hm)]
      | rt m x e => exact hsp'.elim
      | bk e => exact hsp'.elim
      | ct e => exact hsp'.elim
end
end Vf
end
section
namespace Vf
open PySem L2 PyProof.Rows
section
variable {π : Pi} {k : Kc} {T : Tab} {P : Program} {w : World} {mg : Str → Option Value} {base : Heap}
/-- what holds of one def, whatever the level -/
structure DefIn (π : Pi) (k : Kc) (T : Tab) (P : Program) (w : World) (mg : Str → Option Value) (base : Heap) (j : Nat) (nm : Str) (f : Addr) (fd : FuncData) (ps : List Str) : Prop where
  at_ : mg nm = some (.ref f)
  kp : PySem.W.keepIn k.K (.ref f) = true
  bd : Binds k.K fd ps []
  kb : ∀ ks pm, (j, ks, pm) ∈ π.kws → KBn k.K fd ps (pm.length - ks.length) ks (fun us ws => permL pm (us ++ ws)) (fun vs zs => permL pm (vs ++ zs))
  ok : ∀ n, Wd π k (fsT T n) P w mg base n → FnOk P w k.K mg base (L2.CX P w) (n + 1) f fd ps (spF k (fsT T (n + 1)) j)
/-- of an own method -/
structure MethIn (π : Pi) (k : Kc) (T : Tab) (P : Program) (w : World) (mg : Str → Option Value) (base : Heap) (j : Nat) (nm : Str) (i : Nat) (f : Addr) (fd : FuncData) (ps : List Str) : Prop where
  at_ : Meth k.K (k.cl j) nm f
  bd : Binds k.K fd ps []
  ok : ∀ n, Wd π k (fsT T n) P w mg base n → FnOk P w k.K mg base (L2.CX P w) (n + 1) f fd ps (spF k (fsT T (n + 1)) i)
/-- of a class -/
structure ClsIn (π : Pi) (k : Kc) (T : Tab) (P : Program) (w : World) (mg : Str → Option Value) (base : Heap) (j : Nat) (nm : Str) (f : Addr) (fd : FuncData) (ps : List Str) : Prop where
  at_ : mg nm = some (.ref (k.cl j))
  cx : ClsX k.K k.cl π.cls.length j
  mkr : Mk k.K (k.cl j) f
  bd : Binds k.K fd ps []
  kb : ∀ ks, (j, ks) ∈ π.mkws → KBn k.K fd ps 1 ks (fun us ws => us ++ ws) (fun vs zs => vs ++ zs)
  ok : ∀ n, Wd π k (fsT T n) P w mg base n → FnOk P w k.K mg base (L2.CX P w) (n + 1) f fd ps (spI k (fsT T (n + 2)) j)
theorem run0 {j : Nat} {vs : List V} {H : Hp} {Q : VK} {E : XK} (h : spF k (fsT T 0) j vs H Q E) : False := by
  obtain ⟨G, ds, _, _, _, h⟩ := h
  exact h
theorem mk_len {n j : Nat} {ci : Vf.Cls} (hT : T.clss[j]? = some ci) {vs : List V} {H : Hp} {Q : VK} {E : XK} (h : spI k (fsT T (n + 2)) j vs H Q E) : vs.length = ci.pars + 1 := by
  obtain ⟨G, y, dx, us, ds, rfl, eG, gy, hy, ru, hsp⟩ := h
  rw [make_def hT] at hsp
  unfold runCls chk at hsp
  split at hsp
  · rename_i h; rw [List.length_cons, ru.length, h]
  · exact hsp.elim
theorem fn0 {f : Addr} {fd : FuncData} {ps : List Str} {sp : Sp} (h : ∀ vs H Q E, sp vs H Q E → False) {n : Nat} : FnOk P w k.K mg base (L2.CX P w) n f fd ps sp :=
  ⟨fun vs H Q E z => (h _ _ _ _ z).elim, fun A outer s H args us vs Q E hr e0 hb r z => (h _ _ _ _ z).elim⟩
structure Tops (π : Pi) (k : Kc) (T : Tab) (P : Program) (w : World) (mg : Str → Option Value) (base : Heap) : Prop where
  free : ∀ x ∈ π.free, mg x = none
  glos : ∀ x c, (x, c) ∈ π.glos → ∃ u, mg x = some u ∧ RelV (Cn.v c) u
  gbl : ∀ x id, (x, id) ∈ π.gbl → mg x = some (.builtin id)
  atts : ∀ j f, (j, f) ∈ π.atts → L2.Cls k.K (k.cl j) ∧ NoAttr k.K (k.cl j) f
  eqx : ∀ j ∈ π.eqc, ∃ f, eqT T j = some f
  lnx : ∀ j ∈ π.lnc, ∃ f, lnT T j = some f
  defs : ∀ j nm, π.fns[j]? = some nm → ∃ f fd ps, DefIn π k T P w mg base j nm f fd ps
  clss : ∀ j nm, π.cls[j]? = some nm → ∃ f fd ps, ClsIn π k T P w mg base j nm f fd ps
  eqs : ∀ j i, eqT T j = some i → ∃ f fd ps, MethIn π k T P w mg base j "__eq__" i f fd ps
  lns : ∀ j i, lnT T j = some i → ∃ f fd ps, MethIn π k T P w mg base j "__len__" i f fd ps
theorem eqf_T (n : Nat) : (fsT T n).eqf = eqT T := by
  cases n with
  | zero => rfl
  | succ n => cases n <;> rfl
theorem lnf_T (n : Nat) : (fsT T n).lnf = lnT T := by
  cases n with
  | zero => rfl
  | succ n => cases n <;> rfl
theorem Tops.ob (t : Tops π k T P w mg base) {n : Nat} (on : n = 0 → (fsT T n).on = false)
    (mks : ∀ m, n = m + 1 → ∀ j nm f fd ps, ClsIn π k T P w mg base j nm f fd ps → FnOk P w k.K mg base (L2.CX P w) m f fd ps (spI k (fsT T n) j))
    (ms : ∀ m, n = m + 1 → ∀ j nm i f fd ps, MethIn π k T P w mg base j nm i f fd ps → FnOk P w k.K mg base (L2.CX P w) m f fd ps (spF k { fsT T n with run := (fsT T n).run1 } i)) : Ob π k (fsT T n) P w mg base n := by
  refine ⟨fun j hj => ?_, on, fun j nm h => ?_, fun j hj => ?_, fun j hj => ?_, fun j nm h m hm => ?_, fun j i h m hm => ?_, fun j i h m hm => ?_⟩
  · obtain ⟨f, fd, ps, C⟩ := t.clss j _ (List.getElem?_eq_getElem hj)
    exact C.cx
  · obtain ⟨f, fd, ps, C⟩ := t.clss j _ h
    exact C.at_
  · rw [eqf_T]; exact t.eqx j hj
  · rw [lnf_T]; exact t.lnx j hj
  · obtain ⟨f, fd, ps, C⟩ := t.clss j _ h
    exact ⟨f, fd, ps, C.at_, C.mkr, mks m hm _ _ _ _ _ C, C.bd, C.kb⟩
  · rw [eqf_T] at h
    obtain ⟨f, fd, ps, M⟩ := t.eqs j i h
    exact ⟨f, fd, ps, M.at_, ms m hm _ _ _ _ _ _ M, M.bd⟩
  · rw [lnf_T] at h
    obtain ⟨f, fd, ps, M⟩ := t.lns j i h
    exact ⟨f, fd, ps, M.at_, ms m hm _ _ _ _ _ _ M, M.bd⟩
theorem Tops.wd (t : Tops π k T P w mg base) {n : Nat} (o : Ob π k (fsT T n) P w mg base n) (d : ∀ j nm f fd ps, DefIn π k T P w mg base j nm f fd ps → FnOk P w k.K mg base (L2.CX P w) n f fd ps (spF k (fsT T n) j)) : Wd π k (fsT T n) P w mg base n := by
  refine ⟨o, t.free, t.glos, t.gbl, t.atts, fun f ks pm hk nm hf => ?_, fun f nm hf => ?_⟩
  · obtain ⟨a, fd, ps, D⟩ := t.defs f nm hf
    exact ⟨a, fd, ps, D.at_, D.kp, d _ _ _ _ _ D, D.kb ks pm hk⟩
  · obtain ⟨a, fd, ps, D⟩ := t.defs f nm hf
    exact ⟨a, fd, ps, D.at_, D.kp, d _ _ _ _ _ D, D.bd⟩
/-- the whole program, at every level -/
theorem prog_ok (t : Tops π k T P w mg base) : ∀ n, Wd π k (fsT T n) P w mg base n
  | 0 => t.wd (t.ob (fun _ => rfl) (fun m h => nomatch h) fun m h => nomatch h) fun j nm f fd ps D => fn0 fun vs H Q E z => run0 z
  | 1 => t.wd (t.ob (fun h => nomatch h) (fun m h j nm f fd ps C => fn0 fun vs H Q E z => by
      obtain ⟨G, y, dx, us, ds, _, _, _, _, _, z⟩ := z
      exact z) fun m h j nm i f fd ps M => fn0 fun vs H Q E z => by
      obtain ⟨G, ds, _, _, _, z⟩ := z
      exact z) fun j nm f fd ps D => D.ok 0 (prog_ok t 0)
  | n + 2 => t.wd (t.ob (fun h => nomatch h) (fun m h j nm f fd ps C => by cases h; exact C.ok n (prog_ok t n)) fun m h j nm i f fd ps M => by
      cases h
      have e : ∀ vs H Q E, spF k { fsT T (n + 2) with run := (fsT T (n + 2)).run1 } i vs H Q E → spF k (fsT T (n + 1)) i vs H Q E := fun vs H Q E z => by
        obtain ⟨G, ds, z1, z2, z3, z4⟩ := z
        rw [show ({ fsT T (n + 2) with run := (fsT T (n + 2)).run1 } : Fs).ino = (fsT T (n + 1)).ino from (fs_ino (n + 1)).symm] at z2 z3 z4
        exact ⟨G, ds, z1, z2, z3, z4⟩
      have F := M.ok n (prog_ok t n)
      exact ⟨fun vs H Q E z => F.len vs H Q E (e _ _ _ _ z), fun A outer s H args us vs Q E hr e0 hb r z => F.run A outer s H args us vs Q E hr e0 hb r (e _ _ _ _ z)⟩) fun j nm f fd ps D => D.ok (n + 1) (prog_ok t (n + 1))
end
end Vf
end
section
/-! what the machine tells of own classes, as one Boolean; a head's hook that holds it too -/
namespace Vf
open PySem L2 He
def clsOne (K : PySem.W.Frag) (l : List Addr) (a : Addr) : Bool :=
  decide (PySem.W.findIn K (.ref a) "__class__" = some (some (.builtin "object.__class__"))) && decide (PySem.W.specialIn K (.builtin "object.__class__") "__get__" = some (some (.builtin "getset_descriptor.__get__"))) && decide (PySem.W.takesIn K (.builtin "object.__class__") = some true) &&
  decide (PySem.W.mroIn K a (.type "object") = some true) && decide (PySem.W.subIn K (.ref a) (.type "object") = some true) && decide (PySem.W.findIn K (.ref a) "__ne__" = some (some (.builtin "object.__ne__"))) &&
  l.all (fun b => decide (PySem.W.kitOne K (.ref b) (.ref a) = some (decide (a = b)))) && tyNs.all (fun t => decide (PySem.W.kitOne K (.type t) (.ref a) = some false)) && tyNs.all (fun t => PySem.W.notFirst K a (.type t)) && l.all (fun b => PySem.W.notFirst K a (.ref b))
def clsAll (K : PySem.W.Frag) (cs : List Str) : Bool := decide (cs.map (ga K)).Nodup && (cs.map (ga K)).all (clsOne K (cs.map (ga K)))
theorem clsx_of {K : PySem.W.Frag} {cl : Nat → Addr} {cs : List Str} (hcl : ∀ j x, cs[j]? = some x → cl j = ga K x) (h : clsAll K cs = true) {k : Nat} {x : Str} (hk : cs[k]? = some x) (hc : L2.Cls K (ga K x)) : ClsX K cl cs.length k := by
  obtain ⟨nd, h⟩ := ba h
  have nd : (cs.map (ga K)).Nodup := of_decide_eq_true nd
  have at_ : ∀ j, j < cs.length → (cs.map (ga K))[j]? = some (cl j) := fun j hj => by
    rw [List.getElem?_map, List.getElem?_eq_getElem hj, Option.map_some, hcl j _ (List.getElem?_eq_getElem hj)]
  have mem : ∀ j, j < cs.length → cl j ∈ cs.map (ga K) := fun j hj => List.mem_of_getElem? (at_ j hj)
  have kl := (List.getElem?_eq_some_iff.mp hk).1
  have one := List.all_eq_true.mp h (cl k) (mem k kl)
  unfold clsOne at one
  simp only [Bool.and_eq_true, decide_eq_true_eq, List.all_eq_true] at one
  obtain ⟨⟨⟨⟨⟨⟨⟨⟨⟨h1, h2⟩, h3⟩, h4⟩, h5⟩, h6⟩, h7⟩, h8⟩, h9⟩, h10⟩ := one
  refine ⟨by rw [hcl k x hk]; exact hc, h1, h2, h3, h4, h5, h6, fun j hj => ?_, h8, h9, fun j hj => h10 _ (mem j hj)⟩
  rw [h7 _ (mem j hj)]
  congr 1
  by_cases e : k = j
  · subst e; simp
  · rw [decide_eq_false e]
    refine decide_eq_false fun z => e ?_
    have q1 := at_ k kl
    have q2 := at_ j hj
    rw [z] at q1
    exact (List.getElem?_inj (by rw [List.length_map]; exact kl) nd).mp (q1.trans q2.symm)
/-! ### what the top must have, as one Boolean -/
def cnB (K : PySem.W.Frag) (x : Str) : Cn → Bool
  | .int i => (Fa.int x i).ok K
  | .str z => (Fa.str x z).ok K
  | _ => false
def piB (π : Pi) (ms : List (Nat × Str)) (K : PySem.W.Frag) : Bool :=
  clsAll K π.cls && π.cls.all (fun x => (Fa.glo x).ok K && (Fa.cls x).ok K && (Fa.mkr x).ok K) && π.free.all (fun x => (Fa.free x).ok K) && π.glos.all (fun q => cnB K q.1 q.2) &&
  π.gbl.all (fun q => eqO (PySem.W.nsIn K mainGlobals q.1) (some (some (.builtin q.2)))) && π.fns.all (fun x => (Fa.glo x).ok K) &&
  π.atts.all (fun q => match π.cls[q.1]? with | some x => (Fa.noat x q.2).ok K | none => false) && ms.all (fun q => match π.cls[q.1]? with | some x => (Fa.meth x q.2).ok K | none => false)
def clK (π : Pi) (K : PySem.W.Frag) (j : Nat) : Addr := match π.cls[j]? with
  | some x => ga K x
  | none => 0
theorem clK_at {π : Pi} {K : PySem.W.Frag} {j : Nat} {x : Str} (h : π.cls[j]? = some x) : clK π K j = ga K x := by unfold clK; rw [h]
structure PiOk (π : Pi) (ms : List (Nat × Str)) (K : PySem.W.Frag) (mg : Str → Option Value) : Prop where
  clx : ∀ j x, π.cls[j]? = some x → ClsX K (clK π K) π.cls.length j ∧ mg x = some (.ref (clK π K j)) ∧ Mk K (clK π K j) (ma K (ga K x) "__init__")
  free : ∀ x ∈ π.free, mg x = none
  glos : ∀ x c, (x, c) ∈ π.glos → ∃ u, mg x = some u ∧ RelV (Cn.v c) u
  gbl : ∀ x id, (x, id) ∈ π.gbl → mg x = some (.builtin id)
  atts : ∀ j f, (j, f) ∈ π.atts → L2.Cls K (clK π K j) ∧ NoAttr K (clK π K j) f
  fns : ∀ x ∈ π.fns, mg x = some (.ref (ga K x))
  ms : ∀ j m, (j, m) ∈ ms → ∀ x, π.cls[j]? = some x → Meth K (clK π K j) m (ma K (ga K x) m)
theorem piB_ok {π : Pi} {ms : List (Nat × Str)} {K : PySem.W.Frag} {h : Heap} {mg : Str → Option Value} (X : K.In h) (G : h.Ns mainGlobals mg) (e : piB π ms K = true) : PiOk π ms K mg := by
  unfold piB at e
  obtain ⟨e, e8⟩ := ba e
  obtain ⟨e, e7⟩ := ba e
  obtain ⟨e, e6⟩ := ba e
  obtain ⟨e, e5⟩ := ba e
  obtain ⟨e, e4⟩ := ba e
  obtain ⟨e, e3⟩ := ba e
  obtain ⟨e1, e2⟩ := ba e
  have one : ∀ j x, π.cls[j]? = some x → L2.Cls K (ga K x) ∧ mg x = some (.ref (ga K x)) ∧ Mk K (ga K x) (ma K (ga K x) "__init__") := fun j x hx => by
    obtain ⟨q, q3⟩ := ba (List.all_eq_true.mp e2 x (List.mem_of_getElem? hx))
    obtain ⟨q1, q2⟩ := ba q
    exact ⟨He.cls_ok q2, He.glo_ok X G q1, He.mkr_ok q3⟩
  refine ⟨fun j x hx => ?_, fun x hx => He.free_ok X G (List.all_eq_true.mp e3 x hx), fun x c hx => ?_, fun x id hx => ?_, fun j f hx => ?_, fun x hx => He.glo_ok X G (List.all_eq_true.mp e6 x hx), fun j m hx x hc => ?_⟩
  · obtain ⟨q1, q2, q3⟩ := one j x hx
    rw [clK_at hx]
    exact ⟨clsx_of (fun j x h => clK_at h) e1 hx q1, q2, q3⟩
  · have := List.all_eq_true.mp e4 _ hx
    cases c with
    | int i => obtain ⟨t, h⟩ := He.int_ok X G this; exact ⟨_, h, ⟨t, rfl⟩⟩
    | str z => obtain ⟨t, h⟩ := He.str_ok X G this; exact ⟨_, h, ⟨t, rfl⟩⟩
    | non => cases this
    | bl b => cases this
  · exact PySem.W.mg_of X G (eqO_ok (List.all_eq_true.mp e5 _ hx))
  · have := List.all_eq_true.mp e7 _ hx
    dsimp only at this
    cases q : π.cls[j]? with
    | none => rw [q] at this; cases this
    | some x =>
      rw [q] at this
      rw [clK_at q]
      exact ⟨(one j x q).1, He.noat_ok this⟩
  · have := List.all_eq_true.mp e8 _ hx
    dsimp only at this
    rw [hc] at this
    rw [clK_at hc]
    exact He.meth_ok this
/-! ### the hook -/
def obsX (fa : List Fa) (fn : List DefD) (ex : PySem.W.Frag → Bool) (K : PySem.W.Frag) : AlD := ((obsD fa fn K).1 && ex K, (obsD fa fn K).2)
def SaysX (fa : List Fa) (fn : List DefD) (ex : PySem.W.Frag → Bool) (K : PySem.W.Frag) : Prop := obsX fa fn ex K = He.valD fn
def obsXG (n : Nat) (fa : List Fa) (fn : List DefD) (ex : PySem.W.Frag → Bool) (g : Addr → Option Obj) : AlD := obsX fa fn ex (frG g (asD g n))
def hookX (n : Nat) (fa : List Fa) (fn : List DefD) (ex : PySem.W.Frag → Bool) : PySem.W.Hook where
  α := AlD
  obs := fun s => obsXG n fa fn ex s.heap.get?
  val := fun _ => He.valD fn
  says := fun _ h => ∃ K : PySem.W.Frag, K.In h ∧ SaysX fa fn ex K
  of := fun _ _ e => ⟨_, frG_in, e⟩
  keeps := fun _ _ _ ⟨K, hK, c⟩ k => ⟨K, PySem.W.Frag.In.keeps hK k, c⟩
theorem obsXG_eq {n : Nat} {fa : List Fa} {fn : List DefD} {ex : PySem.W.Frag → Bool} {g : Addr → Option Obj} {s : Shared} (h : ∀ a, g a = s.heap.get? a) : obsXG n fa fn ex g = (hookX n fa fn ex).obs s := by
  have e : g = s.heap.get? := funext h
  rw [e] <;> rfl
theorem SaysX.d {fa : List Fa} {fn : List DefD} {ex : PySem.W.Frag → Bool} {K : PySem.W.Frag} (c : SaysX fa fn ex K) : SaysD fa fn K ∧ ex K = true := by
  have h1 : ((obsD fa fn K).1 && ex K) = true := congrArg (fun z : AlD => z.1) c
  have c2 : obsX fa fn ex K = He.valD fn := c
  have h2 : (obsX fa fn ex K).2 = (He.valD fn).2 := by rw [c2]
  obtain ⟨a, b⟩ := ba h1
  exact ⟨Prod.ext a h2, b⟩
theorem binds_of {K : PySem.W.Frag} {x qual : Str} {params : Arguments} {body : List Stmt} {scope : Scope} {f : Addr} {fd : FuncData} {ps ks : List Str} {n : Nat} {pm : List Nat} (F : FunD K x qual params body scope [] [] f fd)
    (h : ∀ (kV doc pmm : Value) (an : Option Addr) (cdv ct : Value) (us ws : List Value), us.length = n → ws.length = ks.length → bindArgs (PySem.W.fnOf x qual params body scope .none kV doc pmm an cdv ct) ⟨us, ks.zip ws⟩ = pure (ps.zip (permL pm (us ++ ws)))) :
    KBn K fd ps n ks (fun us ws => permL pm (us ++ ws)) (fun vs zs => permL pm (vs ++ zs)) := by
  obtain ⟨oc, od, dV, kV, doc, pmm, an, cdv, ct, osl, rfl, lk, hcd, hD, hK⟩ := F.ex
  refine ⟨fun s us ws _ l1 l2 => ?_, fun r1 r2 => ?_⟩
  · rcases hD with ⟨_, rfl⟩ | ⟨e, _⟩
    · exact .of_eq (h kV doc pmm an cdv ct us ws l1 l2)
    · exact absurd rfl e
  · have r := r1.append r2
    clear h
    induction pm with
    | nil => exact .nil
    | cons i pm ih =>
      unfold permL at ih ⊢
      rw [List.filterMap_cons, List.filterMap_cons]
      rename_i vs us zs ws
      cases e : (vs ++ zs)[i]? with
      | none =>
        have : (us ++ ws)[i]? = none := by
          rw [List.getElem?_eq_none_iff] at e ⊢
          rw [← r.length]; exact e
        rw [this]; exact ih
      | some v =>
        obtain ⟨u, h1, h2⟩ := r.get e
        rw [h1]
        exact .cons h2 ih
theorem binds_mk {K : PySem.W.Frag} {x qual : Str} {params : Arguments} {body : List Stmt} {scope : Scope} {f : Addr} {fd : FuncData} {ps ks : List Str} (F : FunD K x qual params body scope [] [] f fd)
    (h : ∀ (kV doc pmm : Value) (an : Option Addr) (cdv ct : Value) (us ws : List Value), us.length = 1 → ws.length = ks.length → bindArgs (PySem.W.fnOf x qual params body scope .none kV doc pmm an cdv ct) ⟨us, ks.zip ws⟩ = pure (ps.zip (us ++ ws))) :
    KBn K fd ps 1 ks (fun us ws => us ++ ws) (fun vs zs => vs ++ zs) := by
  obtain ⟨oc, od, dV, kV, doc, pmm, an, cdv, ct, osl, rfl, lk, hcd, hD, hK⟩ := F.ex
  refine ⟨fun s us ws _ l1 l2 => ?_, fun r1 r2 => r1.append r2⟩
  rcases hD with ⟨_, rfl⟩ | ⟨e, _⟩
  · exact .of_eq (h kV doc pmm an cdv ct us ws l1 l2)
  · exact absurd rfl e
/-- the body of a class -/
def defClassBody : Stmt → List Stmt
  | .ClassDef _ _ _ body _ _ _ _ _ _ _ => body
  | _ => []
end Vf
end
section
namespace Vf
open PySem L2
/-- a law's call, where its defs may raise on their way -/
theorem walk_ofX {l : PySem.W.OpenLaw} {n k : Nat} {q : Program} {loose : List Str} {XP : (Str → Option Value) → Heap → Prop} {YP : World → Heap → Prop} {d : DefRec} {x : Str}
    (hn : l.most = some n) (hn2 : n ≤ sizeLine) (hdf : d.params.defaults = []) (hr : Room k callerA)
    (F : ∀ (w : World) (mg : Str → Option Value) (fa : Addr) (h : Heap), YP w h → h.Ns mainGlobals mg → mg d.name = some (.ref fa) →
      ∃ (K : PySem.W.Frag) (fd : FuncData) (sp : Sp), K.In h ∧ (∀ (s : Shared) (u : Value), BindsTo s fd ⟨[u], []⟩ [(x, u)]) ∧
        (∀ (H : Hp) (a : Addr) (ns : List Int), ns.length ≤ n → SqL K H a (ns.map V.int) → sp [.ref a] H (fun v _ => v = .bl true) fun _ _ _ => False) ∧
        ∀ base : Heap, FnOk l.prog w K mg base (L2.CX l.prog w) k fa fd [x] sp) :
    PySem.W.WalkO q loose XP YP l.row.toRowW d [] (fun f vs => PySem.call f vs) := by
  refine Att.attach_call hn hdf fun w s₀ s₁ mg mb fa o pm cd doc a vs ns G Y ho hd hcd hmg hobj hints hlen hg => ?_
  obtain ⟨K, fd, sp, KX, hb, hsp, hF⟩ := F w mg fa _ Y G.T.g hmg
  refine law_call KX G.T.g G.T.b G.T.builtins G.T.nolimit hg hobj hints (Nat.le_trans hlen hn2) hr (fun base _ _ => hF base) hb (fun H _ hS => hsp H a ns hlen hS) fun H e s' z => ?_
  obtain ⟨_, _, _, _, _, _, _, _, _, _, _, _, z⟩ := z
  exact z
theorem reps_ints {k : Kc} {G : Hp} : ∀ ns : List Int, Reps k G (ns.map V.int) (ns.map D.int)
  | [] => .nil
  | n :: ns => .cons (.int n) (reps_ints ns)
theorem law_sp {k : Kc} {T : Tab} {N j : Nat} {H : Hp} {a : Addr} {ns : List Int} {os : List D} (hi : inoT T j = [false]) (hS : SqL k.K H a (ns.map V.int)) (h : call T N j [.lst (ns.map .int)] = .ok ((false, .bl true), os)) :
    spF k (fsT T N) j [.ref a] H (fun v _ => v = .bl true) fun _ _ _ => False := by
  refine ⟨H, [.lst (ns.map .int)], .refl _, ?_, ?_, ?_⟩
  · rw [fs_ino, hi]; exact ⟨.lst hS (reps_ints ns), trivial⟩
  · rw [fs_ino, hi]; exact List.nodup_nil
  · rw [show (fsT T N).run j [.lst (ns.map .int)] = .ok ((false, .bl true), os) from h]
    intro G' H' v _ _ _ _ _ r
    unfold ResOk at r
    rw [if_neg Bool.false_ne_true] at r
    cases r
    rfl
end Vf
end
section
namespace Pv
open Vf
open PySem hiding fresh Env
open L2
theorem ckP {p : Prop} {i : Decidable p} {α : Type} {r : Option α} (h : p) : @ck p i α r = r := if_pos h
theorem chkP {p : Prop} {i : Decidable p} {α : Type} {r : R α} (h : p) : @chk p i α r = r := if_pos h
theorem moF (d : D) : modeOf false d = .sh := by cases d <;> rfl
theorem moL (xs : List D) : modeOf true (.lst xs) = .own := rfl
theorem moD (xs : List (Key × D)) : modeOf true (.dic xs) = .own := rfl
theorem nd1 {α : Type} (a : α) : [a].Nodup = True := eq_true (by simp)
theorem nd2 {α : Type} (a b : α) : [a, b].Nodup = ¬ a = b := by simp
def sN (i : Int) : Str := (toString i : String)
theorem sz24 : sizeLine = 16777216 := rfl
theorem bindC {α β : Type} {x y : R α} {f : α → R β} (h : x = y) : (x >>= f) = (y >>= f) := by rw [h]
theorem iteC {α : Type} {c d : Prop} [Decidable c] [Decidable d] {x y : α} (h : c = d) : (if c then x else y) = (if d then x else y) := by
  subst h
  congr
theorem chkC {p q : Prop} [Decidable p] [Decidable q] {α : Type} {r : R α} (h : p = q) : chk p r = chk q r := by
  subst h
  congr
theorem chkT {i : Decidable True} {α : Type} {r : R α} : @chk True i α r = r := if_pos trivial
theorem chkF {α : Type} {r : R α} : chk False r = .stk := rfl
theorem ckT {i : Decidable True} {α : Type} {r : Option α} : @ck True i α r = r := if_pos trivial
theorem ckC {p q : Prop} [Decidable p] [Decidable q] {α : Type} {r : Option α} (h : p = q) : ck p r = ck q r := by
  subst h
  congr
theorem g0 {a : Option (Md × D)} {l : Env} : getV (a :: l) 0 = a := by cases a <;> rfl
theorem gS {a : Option (Md × D)} {l : Env} {n : Nat} : getV (a :: l) (n + 1) = getV l n := rfl
theorem s0 {a b : Option (Md × D)} {l : Env} : List.set (a :: l) 0 b = b :: l := rfl
theorem sS {a b : Option (Md × D)} {l : Env} {n : Nat} : List.set (a :: l) (n + 1) b = a :: List.set l n b := rfl
section
variable (i j : Int) (x y : Str) (xs ys : List D) (d d' : D) (b : Bool)
theorem b_le : bi1 .le (.int i) (.int j) = vw (.bl (decide (i ≤ j))) := rfl
theorem b_lt : bi1 .lt (.int i) (.int j) = vw (.bl (decide (i < j))) := rfl
theorem b_ge : bi1 .ge (.int i) (.int j) = vw (.bl (decide (j ≤ i))) := rfl
theorem b_gt : bi1 .gt (.int i) (.int j) = vw (.bl (decide (j < i))) := rfl
theorem b_add : bi1 .add (.int i) (.int j) = vw (.int (i + j)) := rfl
theorem b_sub : bi1 .sub (.int i) (.int j) = vw (.int (i - j)) := rfl
theorem b_adds : bi1 .add (.str x) (.str y) = ck (x.length + y.length ≤ sizeLine) (vw (.str (x ++ y))) := rfl
theorem b_addl : bi1 .add (.lst xs) (.lst ys) = ck (xs.length + ys.length ≤ sizeLine) (Vf.fresh (.lst (xs ++ ys))) := rfl
theorem b_mul : bi1 .mul (.int i) (.int j) = ck (i.natAbs < 2 ^ 64 ∨ j.natAbs < 2 ^ 64) (vw (.int (i * j))) := rfl
theorem b_fdiv : bi1 .fdiv (.int i) (.int j) = ck (j ≠ 0 ∧ j.natAbs < 1073741824) (vw (.int (i.fdiv j))) := rfl
theorem b_mod : bi1 .mod (.int i) (.int j) = ck (j ≠ 0) (vw (.int (i.fmod j))) := rfl
theorem b_gcd : bi1 .gcd (.int i) (.int j) = vw (.int (Int.gcd i j)) := rfl
theorem b_ixl : bi1 .idx (.lst xs) (.int i) = match atI xs i with | some d => vw d | none => none := rfl
theorem b_ixt : bi1 .idx (.tup xs) (.int i) = match atI xs i with | some d => vw d | none => none := rfl
theorem b_eq : bi1 .eq d (.int j) = match dEq d (.int j) with | some b => vw (.bl b) | none => none := rfl
theorem b_max : bi1 .max2 (.int i) (.int j) = vw (.int (if j > i then j else i)) := rfl
theorem b_min : bi1 .min2 (.int i) (.int j) = vw (.int (if j < i then j else i)) := rfl
theorem b_pow : bi1 .pow (.int i) (.int j) = ck (0 ≤ j ∧ j ≤ 1000 ∧ i.natAbs < 2 ^ 4096) (vw (.int (i ^ j.toNat))) := rfl
theorem b_eqd : bi1 .eq d d' = match dEq d d' with | some b => vw (.bl b) | none => none := rfl
theorem b_ned : bi1 .ne d d' = match dEq d d' with | some b => vw (.bl (!b)) | none => none := rfl
theorem u_str : un1 .str (.int i) = ck (i.natAbs.log2 < 1920) (vw (.str (sN i))) := rfl
theorem u_neg : un1 .neg (.int i) = vw (.int (-i)) := rfl
theorem u_lst : un1 .list (.lst xs) = Vf.fresh (.lst xs) := rfl
theorem u_tup : un1 .tuple (.lst xs) = vw (.tup xs) := rfl
theorem u_lrng : un1 .lrng (.int i) = ck (-(2 ^ 62) ≤ i ∧ i ≤ sizeLine) (Vf.fresh (.lst (rngD 0 i.toNat))) := rfl
theorem u_isn : un1 .isN d = vw (.bl (isNonD d)) := rfl
theorem u_lens : un1 .len (.str x) = ck (x.length ≤ sizeLine) (vw (.int x.length)) := rfl
theorem u_lenl : un1 .len (.lst xs) = vw (.int xs.length) := rfl
theorem u_lent : un1 .len (.tup xs) = vw (.int xs.length) := rfl
theorem u_int : un1 .int (.int i) = vw (.int i) := rfl
theorem u_intb : un1 .int (.bl b) = vw (.int (if b then 1 else 0)) := rfl
theorem u_abs : un1 .abs (.int i) = vw (.int (if i < 0 then -i else i)) := rfl
theorem e_ii : dEq (.int i) (.int j) = some (i == j) := rfl
theorem e_ss (hx : PyData.strOk x = true) (hy : PyData.strOk y = true) : dEq (.str x) (.str y) = some (x == y) := by
  show (if SeqAt.shaped (.str x) = true ∧ SeqAt.shaped (.str y) = true then some (PyData.eqv (.str x) (.str y)) else none) = _
  have e : ∀ {z : Str}, PyData.strOk z = true → SeqAt.shaped (.str z) = true := fun {z} h => by
    show (PyData.canLay0 (.str z) && decide (PyData.depth (.str z) ≤ 64)) = true
    rw [show PyData.canLay0 (.str z) = PyData.strOk z from rfl, h]; rfl
  rw [if_pos ⟨e hx, e hy⟩]; rfl
theorem e_bb (c : Bool) : dEq (.bl b) (.bl c) = some (b == c) := rfl
theorem t_bl : dtruth (.bl b) = some b := rfl
theorem t_int : dtruth (.int i) = some (i != 0) := rfl
theorem t_lst : dtruth (.lst xs) = some (!xs.isEmpty) := rfl
theorem t_tup : dtruth (.tup xs) = some (!xs.isEmpty) := rfl
theorem t_non : dtruth .non = some false := rfl
end
theorem fs_inoE {T : Tab} (n : Nat) : (fsT T n).ino = inoT T := by
  cases n with
  | zero => rfl
  | succ n => cases n <;> rfl
/-- ends well, as P says -/
def Ok {α : Type} (x : R α) (P : α → Prop) : Prop := ∃ a, x = .ok a ∧ P a
theorem Ok.bind0 {α β : Type} {x : R α} {f : α → R β} {P : β → Prop} {Q : α → Prop} (h : Ok x Q) (k : ∀ a, Q a → Ok (f a) P) : Ok (x >>= f) P := by
  obtain ⟨a, rfl, q⟩ := h
  exact k a q
theorem Ok.ret {α : Type} {a : α} {P : α → Prop} (h : P a) : Ok (.ok a) P := ⟨a, rfl, h⟩
theorem Ok.eq {α : Type} {x : R α} {a : α} (h : Ok x fun b => b = a) : x = .ok a := by
  obtain ⟨b, rfl, rfl⟩ := h; rfl
theorem Ok.of {α : Type} {x : R α} {a : α} {P : α → Prop} (h : x = .ok a) (p : P a) : Ok x P := ⟨a, h, p⟩
theorem Ok.imp {α : Type} {x : R α} {P Q : α → Prop} (h : Ok x P) (k : ∀ a, P a → Q a) : Ok x Q := by
  obtain ⟨a, e, p⟩ := h; exact ⟨a, e, k a p⟩
theorem bindA {α β γ : Type} {e : R β} {x : R α} {g : α → R β} {f : β → R γ} (h : e = (x >>= g)) : (e >>= f) = (x >>= fun a => g a >>= f) := by
  rw [h]
  cases x <;> rfl
theorem bindO {α β : Type} {e : R α} {a : α} {f : α → R β} (h : e = .ok a) : (e >>= f) = f a := by rw [h]; rfl
/-- what follows, kept out of sight: simp does not walk into an instance -/
class Kn (α β : Type) where
  f : α → R β
class KF where
  f : D → Vf.Env → R Fl
class KL where
  f : D → Vf.Env → R (Option D × Vf.Env)
class KW where
  c : Vf.Env → R (Bool × Vf.Env)
  b : Vf.Env → R Fl
def bindI {α β : Type} (x : R α) [k : Kn α β] : R β := x >>= k.f
def forI (env : Vf.Env) (s : Src) [k : KF] : R Fl := forR k.f env s
def lcI (env : Vf.Env) (s : Src) [k : KL] : R (List D × Vf.Env) := lcR k.f env s
def whlI (n : Nat) (env : Vf.Env) [k : KW] : R Fl := whlR k.c k.b n env
theorem toB {α β : Type} {x : R α} {f : α → R β} : (x >>= f) = @bindI α β x ⟨f⟩ := rfl
theorem toF {step : D → Vf.Env → R Fl} {env : Vf.Env} {s : Src} : forR step env s = @forI env s ⟨step⟩ := rfl
theorem toL {step : D → Vf.Env → R (Option D × Vf.Env)} {env : Vf.Env} {s : Src} : lcR step env s = @lcI env s ⟨step⟩ := rfl
theorem toW {c : Vf.Env → R (Bool × Vf.Env)} {b : Vf.Env → R Fl} {n : Nat} {env : Vf.Env} : whlR c b n env = @whlI n env ⟨c, b⟩ := rfl
theorem bI_ok {α β : Type} {a : α} {f : α → R β} : @bindI α β (.ok a) ⟨f⟩ = f a := rfl
theorem bI_as {α β γ : Type} {x : R α} {g : α → R β} {f : β → R γ} : @bindI β γ (@bindI α β x ⟨g⟩) ⟨f⟩ = @bindI α γ x ⟨fun a => g a >>= f⟩ := by
  cases x <;> rfl
theorem Ok.bind {α β : Type} {x : R α} {f : α → R β} {P : β → Prop} {Q : α → Prop} (h : Ok x Q) (k : ∀ a, Q a → Ok (f a) P) : Ok (@bindI α β x ⟨f⟩) P := Ok.bind0 h k
end Pv
end
section
namespace Pv
open Vf
open PySem hiding fresh Env
open L2
inductive All2 {α β : Type} (Q : α → β → Prop) : List α → List β → Prop
  | nil : All2 Q [] []
  | cons {a : α} {b : β} {l : List α} {r : List β} : Q a b → All2 Q l r → All2 Q (a :: l) (b :: r)
theorem lcG_pure {step : D → Vf.Env → R (Option D × Vf.Env)} {xs : List D} {g : D → Option D} {env : Vf.Env} (h : ∀ x ∈ xs, step x env = .ok (g x, env)) : ∀ k i, i + k = xs.length → lcG step (.items xs) k i env = .ok ((xs.drop i).filterMap g, env)
  | 0, i, e => by
    have : xs[i]? = none := List.getElem?_eq_none (by omega)
    simp only [lcG, nxtOf, this]
    rw [List.drop_eq_nil_of_le (by omega)]; rfl
  | k + 1, i, e => by
    have hi : i < xs.length := by omega
    have : xs[i]? = some xs[i] := List.getElem?_eq_getElem hi
    simp only [lcG, nxtOf, this]
    rw [h _ (List.getElem_mem hi), noexc_ok, R.bind_ok, lcG_pure h k (i + 1) (by omega), R.bind_ok, ← List.getElem_cons_drop hi]
    simp only [List.filterMap_cons]
    cases g xs[i] <;> rfl
theorem lc_pure {step : D → Vf.Env → R (Option D × Vf.Env)} {xs : List D} (g : D → Option D) {env : Vf.Env} (hl : xs.length ≤ sizeLine) (h : ∀ x ∈ xs, step x env = .ok (g x, env)) : lcR step env (.items xs) = .ok (xs.filterMap g, env) := by
  unfold lcR
  rw [chk_pos (show fuelOf (.items xs) ≤ sizeLine from hl), show fuelOf (.items xs) = xs.length from rfl, lcG_pure h _ 0 (by omega), List.drop_zero]
/-- with a state: I i holds ahead of item i -/
theorem lcG_inv {step : D → Vf.Env → R (Option D × Vf.Env)} {xs : List D} {I : Nat → Vf.Env → Prop} {Q : D → Option D → Prop} (h : ∀ i x env, xs[i]? = some x → I i env → ∃ o env', step x env = .ok (o, env') ∧ I (i + 1) env' ∧ Q x o) :
    ∀ k i env, i + k = xs.length → I i env → ∃ os env', lcG step (.items xs) k i env = .ok (os.filterMap id, env') ∧ I xs.length env' ∧ All2 Q (xs.drop i) os
  | 0, i, env, e, hI => by
    have : xs[i]? = none := List.getElem?_eq_none (by omega)
    refine ⟨[], env, ?_, ?_, ?_⟩
    · simp only [lcG, nxtOf, this, List.filterMap_nil]
    · rw [show xs.length = i by omega]; exact hI
    · rw [List.drop_eq_nil_of_le (by omega)]; exact .nil
  | k + 1, i, env, e, hI => by
    have hi : i < xs.length := by omega
    have e1 : xs[i]? = some xs[i] := List.getElem?_eq_getElem hi
    obtain ⟨o, env1, q1, q2, q3⟩ := h i _ env e1 hI
    obtain ⟨os, env2, z1, z2, z3⟩ := lcG_inv h k (i + 1) env1 (by omega) q2
    refine ⟨o :: os, env2, ?_, z2, ?_⟩
    · simp only [lcG, nxtOf, e1]
      rw [q1, noexc_ok, R.bind_ok, z1, R.bind_ok]
      cases o <;> rfl
    · rw [← List.getElem_cons_drop hi]; exact .cons q3 z3
theorem lc_inv {step : D → Vf.Env → R (Option D × Vf.Env)} {xs : List D} {env : Vf.Env} (I : Nat → Vf.Env → Prop) (Q : D → Option D → Prop) (hl : xs.length ≤ sizeLine) (h0 : I 0 env) (h : ∀ i x env, xs[i]? = some x → I i env → ∃ o env', step x env = .ok (o, env') ∧ I (i + 1) env' ∧ Q x o) :
    ∃ os env', lcR step env (.items xs) = .ok (os.filterMap id, env') ∧ I xs.length env' ∧ All2 Q xs os := by
  unfold lcR
  rw [chk_pos (show fuelOf (.items xs) ≤ sizeLine from hl)]
  obtain ⟨os, env', z1, z2, z3⟩ := lcG_inv h _ 0 env (by show 0 + xs.length = xs.length; omega) h0
  exact ⟨os, env', z1, z2, z3⟩
theorem forG_inv {step : D → Vf.Env → R Fl} {xs : List D} {I : Nat → Vf.Env → Prop} (h : ∀ i x env, xs[i]? = some x → I i env → ∃ env', (step x env = .ok (.nx env') ∨ step x env = .ok (.ct env')) ∧ I (i + 1) env') :
    ∀ k i env, i + k = xs.length → I i env → ∃ env', forG step (.items xs) k i env = .ok (.nx env') ∧ I xs.length env'
  | 0, i, env, e, hI => by
    have : xs[i]? = none := List.getElem?_eq_none (by omega)
    refine ⟨env, by simp only [forG, nxtOf, this], ?_⟩
    rw [show xs.length = i by omega]; exact hI
  | k + 1, i, env, e, hI => by
    have hi : i < xs.length := by omega
    have e1 : xs[i]? = some xs[i] := List.getElem?_eq_getElem hi
    obtain ⟨env1, q1, q2⟩ := h i _ env e1 hI
    obtain ⟨env2, z1, z2⟩ := forG_inv h k (i + 1) env1 (by omega) q2
    refine ⟨env2, ?_, z2⟩
    simp only [forG, nxtOf, e1]
    rcases q1 with q1 | q1 <;> rw [q1, R.bind_ok] <;> exact z1
theorem for_inv {step : D → Vf.Env → R Fl} {xs : List D} {env : Vf.Env} (I : Nat → Vf.Env → Prop) (h0 : I 0 env) (h : ∀ i x env, xs[i]? = some x → I i env → ∃ env', (step x env = .ok (.nx env') ∨ step x env = .ok (.ct env')) ∧ I (i + 1) env') :
    ∃ env', forR step env (.items xs) = .ok (.nx env') ∧ I xs.length env' :=
  forG_inv h _ 0 env (by show 0 + xs.length = xs.length; omega) h0
/-- over a slot's list, which stands still -/
theorem forG_slot {step : D → Vf.Env → R Fl} {xs : List D} {j : Nat} {I : Nat → Vf.Env → Prop} (hs : ∀ i env, I i env → ∃ m, getV env j = some (m, .lst xs)) (h : ∀ i x env, xs[i]? = some x → I i env → ∃ env', (step x env = .ok (.nx env') ∨ step x env = .ok (.ct env')) ∧ I (i + 1) env') :
    ∀ k f i env, i + k = xs.length → k ≤ f → I i env → ∃ env', forG step (.slot j) f i env = .ok (.nx env') ∧ I xs.length env'
  | 0, f, i, env, e, _, hI => by
    obtain ⟨m, e0⟩ := hs i env hI
    have : xs[i]? = none := List.getElem?_eq_none (by omega)
    refine ⟨env, ?_, ?_⟩
    · cases f <;> simp only [forG, nxtOf, e0, this]
    rw [show xs.length = i by omega]; exact hI
  | k + 1, 0, i, env, e, hk, hI => by omega
  | k + 1, f + 1, i, env, e, hk, hI => by
    obtain ⟨m, e0⟩ := hs i env hI
    have hi : i < xs.length := by omega
    have e1 : xs[i]? = some xs[i] := List.getElem?_eq_getElem hi
    obtain ⟨env1, q1, q2⟩ := h i _ env e1 hI
    obtain ⟨env2, z1, z2⟩ := forG_slot hs h k f (i + 1) env1 (by omega) (by omega) q2
    refine ⟨env2, ?_, z2⟩
    simp only [forG, nxtOf, e0, e1]
    rcases q1 with q1 | q1 <;> rw [q1, R.bind_ok] <;> exact z1
theorem for_slot {step : D → Vf.Env → R Fl} {xs : List D} {j : Nat} {env : Vf.Env} (I : Nat → Vf.Env → Prop) (hl : xs.length ≤ sizeLine) (hs : ∀ i env, I i env → ∃ m, getV env j = some (m, .lst xs)) (h0 : I 0 env) (h : ∀ i x env, xs[i]? = some x → I i env → ∃ env', (step x env = .ok (.nx env') ∨ step x env = .ok (.ct env')) ∧ I (i + 1) env') :
    ∃ env', forR step env (.slot j) = .ok (.nx env') ∧ I xs.length env' :=
  forG_slot hs h xs.length _ 0 env (by omega) hl h0
theorem whl_inv {c : Vf.Env → R (Bool × Vf.Env)} {b : Vf.Env → R Fl} (I : Nat → Vf.Env → Prop) (J : Vf.Env → Prop) (h0 : ∀ env, I 0 env → ∃ e1, c env = .ok (false, e1) ∧ J e1)
    (hs : ∀ m env, I (m + 1) env → ∃ e1 e2, c env = .ok (true, e1) ∧ (b e1 = .ok (.nx e2) ∨ b e1 = .ok (.ct e2)) ∧ I m e2) : ∀ m f env, m < f → I m env → ∃ e1, whlR c b f env = .ok (.nx e1) ∧ J e1
  | m, 0, env, h, _ => by omega
  | 0, f + 1, env, _, hI => by
    obtain ⟨e1, q1, q2⟩ := h0 env hI
    refine ⟨e1, ?_, q2⟩
    rw [whlR, q1, R.bind_ok, if_neg Bool.false_ne_true]
  | m + 1, f + 1, env, h, hI => by
    obtain ⟨e1, e2, q1, q2, q3⟩ := hs m env hI
    obtain ⟨e3, z1, z2⟩ := whl_inv I J h0 hs m f e2 (by omega) q3
    refine ⟨e3, ?_, z2⟩
    rw [whlR, q1, R.bind_ok, if_pos rfl]
    rcases q2 with q2 | q2 <;> rw [q2, R.bind_ok] <;> exact z1
theorem forO {step : D → Vf.Env → R Fl} {xs : List D} {env : Vf.Env} (I : Nat → Vf.Env → Prop) (h0 : I 0 env) (h : ∀ i x env, xs[i]? = some x → I i env → Ok (step x env) fun f => ∃ env', (f = .nx env' ∨ f = .ct env') ∧ I (i + 1) env') :
    Ok (@forI env (.items xs) ⟨step⟩) fun f => ∃ env', f = .nx env' ∧ I xs.length env' := by
  obtain ⟨e, h1, h2⟩ := for_inv (step := step) I h0 fun i x env hx hI => by
    obtain ⟨f, e, env', hf, hI'⟩ := h i x env hx hI
    exact ⟨env', by rcases hf with rfl | rfl <;> simp [e], hI'⟩
  exact ⟨_, h1, e, rfl, h2⟩
theorem forS {step : D → Vf.Env → R Fl} {xs : List D} {j : Nat} {env : Vf.Env} (I : Nat → Vf.Env → Prop) (hl : xs.length ≤ sizeLine) (hs : ∀ i env, I i env → ∃ m, getV env j = some (m, .lst xs)) (h0 : I 0 env) (h : ∀ i x env, xs[i]? = some x → I i env → Ok (step x env) fun f => ∃ env', (f = .nx env' ∨ f = .ct env') ∧ I (i + 1) env') :
    Ok (@forI env (.slot j) ⟨step⟩) fun f => ∃ env', f = .nx env' ∧ I xs.length env' := by
  obtain ⟨e, h1, h2⟩ := for_slot (step := step) I hl hs h0 fun i x env hx hI => by
    obtain ⟨f, e, env', hf, hI'⟩ := h i x env hx hI
    exact ⟨env', by rcases hf with rfl | rfl <;> simp [e], hI'⟩
  exact ⟨_, h1, e, rfl, h2⟩
theorem lcO {step : D → Vf.Env → R (Option D × Vf.Env)} {xs : List D} {env : Vf.Env} (I : Nat → Vf.Env → Prop) (Q : D → Option D → Prop) (hl : xs.length ≤ sizeLine) (h0 : I 0 env) (h : ∀ i x env, xs[i]? = some x → I i env → Ok (step x env) fun r => I (i + 1) r.2 ∧ Q x r.1) :
    Ok (@lcI env (.items xs) ⟨step⟩) fun r => ∃ os env', r = (os.filterMap id, env') ∧ I xs.length env' ∧ All2 Q xs os := by
  obtain ⟨os, e, h1, h2, h3⟩ := lc_inv (step := step) I Q hl h0 fun i x env hx hI => by
    obtain ⟨f, e, hI', hQ⟩ := h i x env hx hI
    exact ⟨f.1, f.2, e, hI', hQ⟩
  exact ⟨_, h1, os, e, rfl, h2, h3⟩
theorem lcP {step : D → Vf.Env → R (Option D × Vf.Env)} {xs : List D} (g : D → Option D) {env : Vf.Env} (hl : xs.length ≤ sizeLine) (h : ∀ x ∈ xs, Ok (step x env) fun r => r = (g x, env)) : Ok (@lcI env (.items xs) ⟨step⟩) fun r => r = (xs.filterMap g, env) :=
  ⟨_, lc_pure g hl fun x hx => (h x hx).eq, rfl⟩
theorem whlO {c : Vf.Env → R (Bool × Vf.Env)} {b : Vf.Env → R Fl} {env : Vf.Env} (I : Nat → Vf.Env → Prop) (J : Vf.Env → Prop) (m : Nat) (hm : m < whileFuel) (hI : I m env) (h0 : ∀ env, I 0 env → Ok (c env) fun p => p.1 = false ∧ J p.2)
    (hs : ∀ m env, I (m + 1) env → Ok (c env) fun p => p.1 = true ∧ Ok (b p.2) fun f => ∃ e2, (f = .nx e2 ∨ f = .ct e2) ∧ I m e2) : Ok (@whlI whileFuel env ⟨c, b⟩) fun f => ∃ e1, f = .nx e1 ∧ J e1 := by
  obtain ⟨e, h1, h2⟩ := whl_inv (c := c) (b := b) I J (fun env hI => by
    obtain ⟨⟨p, q⟩, e, e1, e2⟩ := h0 env hI
    cases e1
    exact ⟨q, e, e2⟩) (fun m env hI => by
    obtain ⟨⟨p, q⟩, e, e1, f, e2, e3, e4, e5⟩ := hs m env hI
    cases e1
    exact ⟨q, e3, e, by rcases e4 with rfl | rfl <;> simp [e2], e5⟩) m whileFuel env hm hI
  exact ⟨_, h1, e, rfl, h2⟩
theorem lcG_slot {step : D → Vf.Env → R (Option D × Vf.Env)} {xs : List D} {g : D → Option D} {env : Vf.Env} {j : Nat} {m : Md} (hs : getV env j = some (m, .lst xs)) (h : ∀ x ∈ xs, step x env = .ok (g x, env)) : ∀ k f i, i + k = xs.length → k ≤ f → lcG step (.slot j) f i env = .ok ((xs.drop i).filterMap g, env)
  | 0, f, i, e, _ => by
    have : xs[i]? = none := List.getElem?_eq_none (by omega)
    rw [List.drop_eq_nil_of_le (by omega)]
    cases f <;> simp only [lcG, nxtOf, hs, this] <;> rfl
  | k + 1, 0, i, e, hk => by omega
  | k + 1, f + 1, i, e, hk => by
    have hi : i < xs.length := by omega
    have e1 : xs[i]? = some xs[i] := List.getElem?_eq_getElem hi
    simp only [lcG, nxtOf, hs, e1]
    rw [h _ (List.getElem_mem hi), noexc_ok, R.bind_ok, lcG_slot hs h k f (i + 1) (by omega) (by omega), R.bind_ok, ← List.getElem_cons_drop hi]
    simp only [List.filterMap_cons]
    cases g xs[i] <;> rfl
theorem lcSP {step : D → Vf.Env → R (Option D × Vf.Env)} {xs : List D} (g : D → Option D) {env : Vf.Env} {j : Nat} {m : Md} (hs : getV env j = some (m, .lst xs)) (hl : xs.length ≤ sizeLine) (h : ∀ x ∈ xs, Ok (step x env) fun r => r = (g x, env)) : Ok (@lcI env (.slot j) ⟨step⟩) fun r => r = (xs.filterMap g, env) := by
  refine ⟨_, ?_, rfl⟩
  show lcR step env (.slot j) = _
  unfold lcR
  rw [chk_pos (show fuelOf (.slot j) ≤ sizeLine from Nat.le_refl _)]
  exact lcG_slot hs (fun x hx => (h x hx).eq) xs.length sizeLine 0 (by omega) hl
end Pv
end
section
namespace Pv
open Vf
open PySem hiding fresh Env
open L2
theorem iT1 (i : Int) : isT .int (.int i) = some true := rfl
theorem iT2 (i : Int) : isT .bool (.int i) = some false := rfl
theorem iT3 (b : Bool) : isT .bool (.bl b) = some true := rfl
theorem iT4 (x : Str) : isT .str (.str x) = some true := rfl
theorem iT5 (xs : List D) : isT .tuple (.tup xs) = some true := rfl
theorem iT6 (i : Int) : isT .tuple (.int i) = some false := rfl
theorem iT7 (x : Str) : isT .tuple (.str x) = some false := rfl
theorem iT8 (x : Str) : isT .bool (.str x) = some false := rfl
theorem iT9 (x : Str) : isT .int (.str x) = some false := rfl
theorem iT10 (b : Bool) : isT .int (.bl b) = some true := rfl
end Pv
end
section
namespace Gn
open PySem L2 Vf
def top (i : Nat) : Stmt := PySem.Challenge.pw_wheneverclear_k00_texts_of_books.main.body.getD i (.Pass ⟨0, 0, 0, 0⟩)
def meth (s : Stmt) (i : Nat) : Stmt := (defClassBody s).getD i (.Pass ⟨0, 0, 0, 0⟩)
def b0 : S := (.seq (.ret (.and (.ist (.var 0) .int) (.not (.ist (.var 0) .bool))))
    .nil)

def d0 : Def := ⟨1, [false], b0⟩ -- is_integer

def b1 : S := (.seq (.ret (.and (.call 0 (.cons (.var 0) .nil) []) (.ch .le .le (.var 1) (.var 0) (.var 2))))
    .nil)

def d1 : Def := ⟨3, [false, false, false], b1⟩ -- is_within

def b2 : S := (.seq (.ret (.and (.ist (.var 0) .tuple) (.bi .eq (.un .len (.var 0)) (.con (.int 2)))))
    .nil)

def d2 : Def := ⟨1, [false], b2⟩ -- is_pair

def b3 : S := (.seq (.cond (.or (.not (.call 2 (.cons (.var 0) .nil) [])) (.or (.not (.call 0 (.cons (.bi .idx (.var 0) (.con (.int 0))) .nil) [])) (.not (.call 0 (.cons (.bi .idx (.var 0) (.con (.int 1))) .nil) []))))
   (.seq (.ret (.con (.bl false)))
    .nil)
   .nil)
    (.seq (.setP (.tp2 (.nm 1) (.nm 2)) (.var 0))
    (.seq (.ret (.and (.bi .ge (.var 2) (.con (.int 1))) (.bi .eq (.bi .gcd (.var 1) (.var 2)) (.con (.int 1)))))
    .nil)))

def d3 : Def := ⟨3, [false], b3⟩ -- is_fraction

def b4 : S := (.seq (.cond (.or (.not (.ist (.var 0) .str)) (.not (.ch .le .le (.con (.int 1)) (.un .len (.var 0)) (.glo "MOST_LETTERS" (.int 6)))))
   (.seq (.ret (.con (.bl false)))
    .nil)
   .nil)
    (.seq (.ret (.un .all (.lc .val (.var 0) .nop (.nm 1) .nop (.bi .inn (.var 1) (.glo "LETTERS" (.str "abcdefghijklmnopqrstuvwxyz"))) [("sign", 1)])))
    .nil))

def d4 : Def := ⟨2, [false], b4⟩ -- is_name

def b5 : S := (.seq (.set 1 (.con (.int 1)))
    (.seq (.forr .val (.var 0) .nop (.tp2 (.nm 2) (.nm 3))
   (.seq (.set 1 (.bi .lcm (.var 1) (.var 3)))
    .nil))
    (.seq (.ret (.var 1))
    .nil)))

def d5 : Def := ⟨4, [false], b5⟩ -- shared_bottom

def b6 : S := (.seq (.ret (.prop 1 0 [("name", 2), ("top", 3), ("under", 4)]))
    .nil)

def d6 : Def := ⟨5, [false, false], b6⟩ -- tops_over

def b7 : S := (.seq (.set 1 (.mt1 .rmpre (.var 0) (.con (.str "-"))))
    (.seq (.cond (.or (.not (.mt0 .isdec (.var 1))) (.bi .gt (.un .len (.var 1)) (.glo "MOST_FIGURES" (.int 900))))
   (.seq (.ret (.con .non))
    .nil)
   .nil)
    (.seq (.set 2 (.un .int (.var 0)))
    (.seq (.ret (.ite (.bi .eq (.un .str (.var 2)) (.var 0)) (.var 2) (.con .non)))
    .nil))))

def d7 : Def := ⟨3, [false], b7⟩ -- integer_of

def b8 : S := (.seq (.setP (.tp3 (.nm 2) (.nm 3) (.nm 4)) (.mt1 .part (.var 0) (.con (.str "/"))))
    (.seq (.cond (.not (.var 3))
   (.seq (.set 4 (.con (.str "1")))
    .nil)
   (.seq (.cond (.bi .eq (.var 4) (.con (.str "1")))
   (.seq (.ret (.con .non))
    .nil)
   .nil)
    .nil))
    (.seq (.set 1 (.tup (.cons (.call 7 (.cons (.var 2) .nil) []) (.cons (.call 7 (.cons (.var 4) .nil) []) .nil))))
    (.seq (.ret (.ite (.call 3 (.cons (.var 1) .nil) []) (.var 1) (.con .non)))
    .nil))))

def d8 : Def := ⟨5, [false], b8⟩ -- fraction_of

def b9 : S := (.seq (.setP (.tp3 (.nm 3) (.nm 4) (.nm 5)) (.mt1 .part (.var 0) (.con (.str "-"))))
    (.seq (.set 1 (.call 7 (.cons (.var 3) .nil) []))
    (.seq (.set 2 (.ite (.var 4) (.call 7 (.cons (.var 5) .nil) []) (.var 1)))
    (.seq (.cond (.or (.un .isN (.var 1)) (.un .isN (.var 2)))
   (.seq (.ret (.con .non))
    .nil)
   .nil)
    (.seq (.cond (.and (.var 4) (.bi .le (.var 2) (.var 1)))
   (.seq (.ret (.con .non))
    .nil)
   .nil)
    (.seq (.ret (.tup (.cons (.var 1) (.cons (.var 2) .nil))))
    .nil))))))

def d9 : Def := ⟨6, [false], b9⟩ -- span_of

def b10 : S := (.seq (.set 2 (.lst .nil))
    (.seq (.forr .val (.var 0) .nop (.nm 3)
   (.seq (.set 4 (.call 9 (.cons (.var 3) .nil) []))
    (.seq (.set 5 (.ite (.var 2) (.bi .add (.bi .idx (.var 2) (.un .neg (.con (.int 1)))) (.con (.int 2))) (.con (.int 0))))
    (.seq (.cond (.or (.un .isN (.var 4)) (.or (.bi .lt (.bi .idx (.var 4) (.con (.int 0))) (.var 5)) (.bi .ge (.bi .idx (.var 4) (.con (.int 1))) (.var 1))))
   (.seq (.ret (.con .non))
    .nil)
   .nil)
    (.seq (.set 2 (.bi .add (.var 2) (.bi .lrng2 (.bi .idx (.var 4) (.con (.int 0))) (.bi .add (.bi .idx (.var 4) (.con (.int 1))) (.con (.int 1))))))
    .nil)))))
    (.seq (.ret (.un .tuple (.var 2)))
    .nil)))

def d10 : Def := ⟨6, [false, false], b10⟩ -- hours_of_spans

def b11 : S := (.seq (.set 1 (.mt1 .split (.var 0) (.con (.str " "))))
    (.seq (.cond (.or (.bi .ne (.un .len (.var 1)) (.con (.int 3))) (.bi .ne (.bi .idx (.var 1) (.con (.int 0))) (.con (.str "book"))))
   (.seq (.ret (.con .non))
    .nil)
   .nil)
    (.seq (.par 2 3 (.call 7 (.cons (.bi .idx (.var 1) (.con (.int 1))) .nil) []) (.call 7 (.cons (.bi .idx (.var 1) (.con (.int 2))) .nil) []))
    (.seq (.cond (.or (.not (.call 1 (.cons (.var 2) (.cons (.con (.int 1)) (.cons (.glo "MOST_HOURS" (.int 24)) .nil))) [])) (.not (.call 1 (.cons (.var 3) (.cons (.con (.int 1)) (.cons (.glo "MOST_TELESCOPES" (.int 4)) .nil))) [])))
   (.seq (.ret (.con .non))
    .nil)
   .nil)
    (.seq (.ret (.tup (.cons (.var 2) (.cons (.var 3) .nil))))
    .nil)))))

def d11 : Def := ⟨4, [false], b11⟩ -- _head_of

def b12 : S := (.seq (.set 2 (.mt1 .split (.var 0) (.con (.str " "))))
    (.seq (.cond (.or (.bi .lt (.un .len (.var 2)) (.con (.int 4))) (.or (.bi .ne (.bi .idx (.var 2) (.con (.int 0))) (.con (.str "kind"))) (.not (.call 4 (.cons (.bi .idx (.var 2) (.con (.int 1))) .nil) []))))
   (.seq (.ret (.con .non))
    .nil)
   .nil)
    (.seq (.set 3 (.call 8 (.cons (.bi .idx (.var 2) (.con (.int 2))) .nil) []))
    (.seq (.set 4 (.call 10 (.cons (.slc (.var 2) (.con (.int 3)) .nop) (.cons (.var 1) .nil)) []))
    (.seq (.cond (.or (.not (.call 13 (.cons (.var 3) .nil) [])) (.un .isN (.var 4)))
   (.seq (.ret (.con .non))
    .nil)
   .nil)
    (.seq (.ret (.tup (.cons (.bi .idx (.var 2) (.con (.int 1))) (.cons (.var 3) (.cons (.var 4) .nil)))))
    .nil))))))

def d12 : Def := ⟨5, [false, false], b12⟩ -- _kind_of

def b13 : S := (.seq (.ret (.and (.call 3 (.cons (.var 0) .nil) []) (.and (.ch .le .le (.con (.int 1)) (.bi .idx (.var 0) (.con (.int 0))) (.glo "MOST_WORTH" (.int 1000))) (.bi .le (.bi .idx (.var 0) (.con (.int 1))) (.glo "MOST_WORTH" (.int 1000))))))
    .nil)

def d13 : Def := ⟨1, [false], b13⟩ -- is_worth

def b14 : S := (.seq (.ret (.and (.ist (.var 1) .str) (.bi .inn (.var 1) (.att (.var 0) 0 "names"))))
    .nil)

def d14 : Def := ⟨2, [false, false], b14⟩ -- is_kind

def b15 : S := (.seq (.ret (.call 1 (.cons (.var 1) (.cons (.con (.int 0)) (.cons (.bi .sub (.att (.var 0) 0 "hours") (.con (.int 1))) .nil))) []))
    .nil)

def d15 : Def := ⟨2, [false, false], b15⟩ -- is_hour

def b16 : S := (.seq (.cond (.not (.call 14 (.cons (.var 0) (.cons (.var 1) .nil)) []))
   (.seq .nev
    .nil)
   .nil)
    .nil)

def d16 : Def := ⟨2, [false, false], b16⟩ -- check_kind

def b17 : S := (.seq (.cond (.not (.call 15 (.cons (.var 0) (.cons (.var 1) .nil)) []))
   (.seq .nev
    .nil)
   .nil)
    .nil)

def d17 : Def := ⟨2, [false, false], b17⟩ -- check_hour

def b18 : S := (.seq (.exp (.call 16 (.cons (.var 0) (.cons (.var 1) .nil)) []))
    (.seq (.ret (.bi .idx (.att (.var 0) 0 "worths") (.var 1)))
    .nil))

def d18 : Def := ⟨2, [false, false], b18⟩ -- worth

def b19 : S := (.seq (.exp (.call 16 (.cons (.var 0) (.cons (.var 1) .nil)) []))
    (.seq (.ret (.bi .idx (.att (.var 0) 0 "kind_hours") (.var 1)))
    .nil))

def d19 : Def := ⟨2, [false, false], b19⟩ -- hours_of

def b20 : S := (.seq (.exp (.call 17 (.cons (.var 0) (.cons (.var 1) .nil)) []))
    (.seq (.ret (.un .tuple (.un .sorted (.lc .val (.att (.var 0) 0 "names") .nop (.nm 2) (.bi .inn (.var 1) (.bi .idx (.att (.var 0) 0 "kind_hours") (.var 2))) (.var 2) [("name", 2)]))))
    .nil))

def d20 : Def := ⟨3, [false, false], b20⟩ -- up

def b21 : S := (.seq (.exp (.call 16 (.cons (.var 0) (.cons (.var 1) .nil)) []))
    (.seq (.exp (.call 17 (.cons (.var 0) (.cons (.var 2) .nil)) []))
    (.seq (.ret (.un .tuple (.lc .val (.bi .idx (.att (.var 0) 0 "kind_hours") (.var 1)) .nop (.nm 3) (.bi .gt (.var 3) (.var 2)) (.var 3) [("own", 3)])))
    .nil)))

def d21 : Def := ⟨4, [false, false, false], b21⟩ -- later

def b22 : S := (.seq (.set 2 (.ite (.bi .lt (.var 1) (.un .len (.var 0))) (.bi .idx (.var 0) (.var 1)) (.bi .add (.bi .add (.bi .mod (.un .sum (.slc (.var 0) .nop (.con (.int 1)))) (.con (.int 1000003))) (.bi .mul (.con (.int 1181)) (.var 1))) (.con (.int 521)))))
    (.seq (.set 3 (.bi .mul (.bi .mod (.un .int (.un .abs (.var 2))) (.bi .pow (.bi .pow (.con (.int 10)) (.con (.int 60))) (.con (.int 5)))) (.un .int (.bi .ge (.un .abs (.var 2)) (.bi .pow (.con (.int 10)) (.con (.int 18)))))))
    (.seq (.set 4 (.bi .mod (.un .int (.var 2)) (.con (.int 2305843009213693951))))
    (.seq (.ret (.lst (.cons (.var 3) (.cons (.bi .mod (.un .int (.bi .add (.bi .add (.bi .mul (.var 4) (.con (.int 70529))) (.bi .mul (.bi .mul (.con (.int 7211)) (.var 1)) (.var 1))) (.con (.int 401)))) (.con (.int 2305843009213693921))) (.cons (.con (.int 0)) .nil)))))
    .nil))))

def d22 : Def := ⟨5, [false, false], b22⟩ -- _law_pot

def b23 : S := (.seq (.cond (.bi .gt (.bi .idx (.var 0) (.con (.int 0))) (.con (.int 0)))
   (.seq (.set 4 (.bi .mod (.un .int (.bi .idx (.var 0) (.con (.int 0)))) (.var 1)))
    (.seq (.putL 0 (.con (.int 0)) (.bi .fdiv (.bi .idx (.var 0) (.con (.int 0))) (.var 1)))
    (.seq (.ret (.var 4))
    .nil)))
   .nil)
    (.seq (.putL 0 (.con (.int 2)) (.bi .add (.bi .idx (.var 0) (.con (.int 2))) (.con (.int 1))))
    (.seq (.set 2 (.bi .idx (.lst (.cons (.con (.int 2147483647)) (.cons (.con (.int 2147483629)) (.cons (.con (.int 2147483587)) (.cons (.con (.int 2147483579)) (.cons (.con (.int 2147483563)) .nil)))))) (.bi .mod (.un .int (.bi .idx (.var 0) (.con (.int 2)))) (.con (.int 5)))))
    (.seq (.set 3 (.bi .mod (.un .int (.bi .pow (.un .int (.bi .add (.bi .add (.bi .idx (.var 0) (.con (.int 1))) (.bi .mul (.bi .mul (.con (.int 97459)) (.bi .idx (.var 0) (.con (.int 2)))) (.bi .idx (.var 0) (.con (.int 2))))) (.con (.int 601)))) (.con (.int 3)))) (.var 2)))
    (.seq (.set 3 (.bi .mod (.un .int (.bi .mul (.var 3) (.bi .add (.bi .mod (.un .int (.var 3)) (.con (.int 10169))) (.bi .mul (.con (.int 167)) (.bi .idx (.var 0) (.con (.int 2))))))) (.con (.int 2305843009213693907))))
    (.seq (.ret (.bi .mod (.un .int (.bi .fdiv (.var 3) (.con (.int 167)))) (.var 1)))
    .nil))))))

def d23 : Def := ⟨5, [true, false], b23⟩ -- _law_take

def b24 : S := (.seq (.ret (.bi .idx (.var 1) (.call 23 (.cons (.var 0) (.cons (.un .len (.var 1)) .nil)) [])))
    .nil)

def d24 : Def := ⟨2, [true, false], b24⟩ -- _law_of

def b25 : S := (.seq (.par 4 5 (.un .list (.var 1)) (.lst .nil))
    (.seq (.forr .rng1 (.var 2) .nop (.nm 3)
   (.seq (.app 5 (.pop 4 (.call 23 (.cons (.var 0) (.cons (.un .len (.var 4)) .nil)) [])))
    .nil))
    (.seq (.ret (.var 5))
    .nil)))

def d25 : Def := ⟨6, [true, false, false], b25⟩ -- _law_some

def b26 : S := (.seq (.ret (.un .lrng (.bi .max2 (.con (.int 1)) (.bi .min2 (.var 1) (.un .len (.var 0))))))
    .nil)

def d26 : Def := ⟨2, [false, false], b26⟩ -- _law_cells

def b27 : S := (.seq (.ret (.bi .lt (.bi .mul (.bi .idx (.var 0) (.con (.int 0))) (.bi .idx (.var 1) (.con (.int 1)))) (.bi .mul (.bi .idx (.var 1) (.con (.int 0))) (.bi .idx (.var 0) (.con (.int 1))))))
    .nil)

def d27 : Def := ⟨2, [false, false], b27⟩ -- _law_frac_is_less

def b28 : S := (.seq (.ret (.ite (.bi .eq (.bi .idx (.var 0) (.con (.int 1))) (.con (.int 1))) (.un .str (.un .int (.bi .idx (.var 0) (.con (.int 0))))) (.bi .add (.bi .add (.un .str (.un .int (.bi .idx (.var 0) (.con (.int 0))))) (.con (.str "/"))) (.un .str (.un .int (.bi .idx (.var 0) (.con (.int 1))))))))
    .nil)

def d28 : Def := ⟨1, [false], b28⟩ -- _law_frac_text

def b29 : S := (.seq (.set 1 (.lst .nil))
    (.seq (.spans 1 2 0)
    (.seq (.ret (.lc .val (.var 1) .nop (.nm 3) .nop (.ite (.bi .eq (.un .len (.var 3)) (.con (.int 1))) (.un .str (.bi .idx (.var 3) (.con (.int 0)))) (.bi .add (.bi .add (.un .str (.bi .idx (.var 3) (.con (.int 0)))) (.con (.str "-"))) (.un .str (.bi .idx (.var 3) (.un .neg (.con (.int 1))))))) [("row", 3)]))
    .nil)))

def d29 : Def := ⟨4, [false], b29⟩ -- _law_book_spans

def b30 : S := (.seq (.ret (.mt1 .join (.con (.str " ")) (.bi .add (.lst (.cons (.con (.str "kind")) (.cons (.bi .idx (.var 0) (.con (.int 0))) (.cons (.call 28 (.cons (.bi .idx (.var 0) (.con (.int 1))) .nil) []) .nil)))) (.call 29 (.cons (.bi .idx (.var 0) (.con (.int 2))) .nil) []))))
    .nil)

def d30 : Def := ⟨1, [false], b30⟩ -- _law_book_line

def b31 : S := (.seq (.set 1 (.bi .add (.bi .add (.bi .add (.con (.str "book ")) (.un .str (.bi .idx (.var 0) (.con (.str "hours"))))) (.con (.str " "))) (.un .str (.bi .idx (.var 0) (.con (.str "telescopes"))))))
    (.seq (.ret (.mt1 .join (.con (.str "\n")) (.bi .add (.lst (.cons (.var 1) .nil)) (.lc .val (.bi .idx (.var 0) (.con (.str "kinds"))) .nop (.nm 2) .nop (.call 30 (.cons (.var 2) .nil) []) [("kind", 2)]))))
    .nil))

def d31 : Def := ⟨3, [false], b31⟩ -- _law_book_text

def b32 : S := (.seq (.ret (.lc .val (.bi .idx (.var 0) (.con (.str "kinds"))) .nop (.tp3 (.nm 1) (.nm 2) (.nm 3)) .nop (.var 1) [("name", 1), ("amount", 2), ("hours", 3)]))
    .nil)

def d32 : Def := ⟨4, [false], b32⟩ -- _law_book_names

def b33 : S := (.seq (.ret (.bi .idx (.lc .val (.bi .idx (.var 0) (.con (.str "kinds"))) .nop (.nm 2) (.bi .eq (.bi .idx (.var 2) (.con (.int 0))) (.var 1)) (.var 2) [("kind", 2)]) (.con (.int 0))))
    .nil)

def d33 : Def := ⟨3, [false, false], b33⟩ -- _law_book_kind

def b34 : S := (.seq (.ret (.bi .idx (.call 33 (.cons (.var 0) (.cons (.var 1) .nil)) []) (.con (.int 1))))
    .nil)

def d34 : Def := ⟨2, [false, false], b34⟩ -- _law_book_worth

def b35 : S := (.seq (.ret (.bi .idx (.call 33 (.cons (.var 0) (.cons (.var 1) .nil)) []) (.con (.int 2))))
    .nil)

def d35 : Def := ⟨2, [false, false], b35⟩ -- _law_book_hours

def b36 : S := (.seq (.ret (.lc .val (.call 35 (.cons (.var 0) (.cons (.var 1) .nil)) []) .nop (.nm 3) (.bi .gt (.var 3) (.var 2)) (.var 3) [("one", 3)]))
    .nil)

def d36 : Def := ⟨4, [false, false, false], b36⟩ -- _law_book_later

def b37 : S := (.seq (.ret (.un .sorted (.lc .val (.bi .idx (.var 0) (.con (.str "kinds"))) .nop (.tp3 (.nm 2) (.nm 3) (.nm 4)) (.bi .inn (.var 1) (.var 4)) (.var 2) [("name", 2), ("amount", 3), ("hours", 4)])))
    .nil)

def d37 : Def := ⟨5, [false, false], b37⟩ -- _law_book_up

def b38 : S := (.seq (.ret (.call 24 (.cons (.var 0) (.cons (.lst (.cons (.tup (.cons (.con (.int 1)) (.cons (.con (.int 1)) .nil))) (.cons (.tup (.cons (.con (.int 2)) (.cons (.con (.int 1)) .nil))) (.cons (.tup (.cons (.con (.int 3)) (.cons (.con (.int 1)) .nil))) (.cons (.tup (.cons (.con (.int 1)) (.cons (.con (.int 2)) .nil))) (.cons (.tup (.cons (.con (.int 3)) (.cons (.con (.int 2)) .nil))) (.cons (.tup (.cons (.con (.int 5)) (.cons (.con (.int 1)) .nil))) (.cons (.tup (.cons (.con (.int 2)) (.cons (.con (.int 3)) .nil))) (.cons (.tup (.cons (.con (.int 1)) (.cons (.con (.int 1)) .nil))) (.cons (.tup (.cons (.con (.int 7)) (.cons (.con (.int 3)) .nil))) .nil)))))))))) .nil)) []))
    .nil)

def d38 : Def := ⟨1, [true], b38⟩ -- _law_book_worth_drawn

def b39 : S := (.seq (.set 2 (.lc .val (.var 1) .nop (.nm 3) (.bi .gt (.call 23 (.cons (.var 0) (.cons (.con (.int 3)) .nil)) []) (.con (.int 0))) (.var 3) [("hour", 3)]))
    (.seq (.ret (.ite (.bi .ne (.var 2) (.lst .nil)) (.var 2) (.lst (.cons (.call 24 (.cons (.var 0) (.cons (.var 1) .nil)) []) .nil))))
    .nil))

def d39 : Def := ⟨4, [true, false], b39⟩ -- _law_book_some_hours

def b40 : S := (.seq (.set 4 (.lc .rng1 (.var 3) .nop (.nm 11) .nop (.call 38 (.cons (.var 0) .nil) []) [("lap", 11)]))
    (.seq (.par 7 8 (.lst .nil) (.call 39 (.cons (.var 0) (.cons (.un .lrng (.var 1)) .nil)) []))
    (.seq (.whl (.bi .ne (.var 4) (.lst .nil))
   (.seq (.set 9 (.bi .idx (.var 4) (.con (.int 0))))
    (.seq (.forr .val (.var 4) .nop (.nm 10)
   (.seq (.set 9 (.ite (.call 27 (.cons (.var 10) (.cons (.var 9) .nil)) []) (.var 10) (.var 9)))
    .nil))
    (.seq (.rem 4 (.var 9))
    (.seq (.app 7 (.tup (.cons (.var 9) (.cons (.var 8) .nil))))
    (.seq (.set 8 (.ite (.bi .gt (.call 23 (.cons (.var 0) (.cons (.con (.int 3)) .nil)) []) (.con (.int 0))) (.call 39 (.cons (.var 0) (.cons (.var 8) .nil)) []) (.var 8)))
    .nil))))))
    (.seq (.set 5 (.call 25 (.cons (.var 0) (.cons (.lst (.cons (.con (.str "a")) (.cons (.con (.str "b")) (.cons (.con (.str "c")) (.cons (.con (.str "d")) (.cons (.con (.str "moon")) (.cons (.con (.str "z")) (.cons (.con (.str "e")) (.cons (.con (.str "f")) .nil))))))))) (.cons (.var 3) .nil))) []))
    (.seq (.set 6 (.lc .zip (.hold (.var 5)) (.call 25 (.cons (.var 0) (.cons (.var 7) (.cons (.var 3) .nil))) []) (.tp2 (.nm 12) (.tp2 (.nm 10) (.nm 13))) .nop (.tup (.cons (.var 12) (.cons (.var 10) (.cons (.var 13) .nil)))) [("name", 12), ("amount", 10), ("its", 13)]))
    (.seq (.ret (.dic ["hours", "telescopes", "kinds"] (.cons (.var 1) (.cons (.var 2) (.cons (.var 6) .nil)))))
    .nil))))))

def d40 : Def := ⟨14, [true, false, false, false], b40⟩ -- _law_book_agreeing_drawn

def b41 : S := (.seq (.par 5 6 (.call 25 (.cons (.var 0) (.cons (.lst (.cons (.con (.str "a")) (.cons (.con (.str "b")) (.cons (.con (.str "c")) (.cons (.con (.str "d")) (.cons (.con (.str "moon")) (.cons (.con (.str "z")) (.cons (.con (.str "e")) (.cons (.con (.str "f")) .nil))))))))) (.cons (.var 3) .nil))) []) (.lst .nil))
    (.seq (.forr .val (.var 5) .nop (.nm 4)
   (.seq (.app 6 (.tup (.cons (.var 4) (.cons (.call 38 (.cons (.var 0) .nil) []) (.cons (.call 39 (.cons (.var 0) (.cons (.un .lrng (.var 1)) .nil)) []) .nil)))))
    .nil))
    (.seq (.ret (.dic ["hours", "telescopes", "kinds"] (.cons (.var 1) (.cons (.var 2) (.cons (.var 6) .nil)))))
    .nil)))

def d41 : Def := ⟨7, [true, false, false, false], b41⟩ -- _law_book_any_drawn

def b42 : S := (.seq (.par3 1 2 3 (.bi .add (.con (.int 2)) (.call 23 (.cons (.var 0) (.cons (.con (.int 5)) .nil)) [])) (.bi .add (.con (.int 1)) (.call 23 (.cons (.var 0) (.cons (.con (.int 3)) .nil)) [])) (.bi .add (.con (.int 1)) (.call 23 (.cons (.var 0) (.cons (.con (.int 4)) .nil)) [])))
    (.seq (.cond (.bi .eq (.call 23 (.cons (.var 0) (.cons (.con (.int 2)) .nil)) []) (.con (.int 0)))
   (.seq (.ret (.call 40 (.cons (.var 0) (.cons (.var 1) (.cons (.var 2) (.cons (.var 3) .nil)))) []))
    .nil)
   .nil)
    (.seq (.ret (.call 41 (.cons (.var 0) (.cons (.var 1) (.cons (.var 2) (.cons (.var 3) .nil)))) []))
    .nil)))

def d42 : Def := ⟨4, [true], b42⟩ -- _law_book_drawn

def b43 : S := (.seq (.cond (.ist (.var 1) .tuple)
   (.seq (.set 2 (.and (.ist (.var 0) .tuple) (.bi .eq (.un .len (.var 0)) (.un .len (.var 1)))))
    (.seq (.ret (.and (.var 2) (.un .all (.lc .zip (.var 0) (.var 1) (.tp2 (.nm 3) (.nm 4)) .nop (.call 43 (.cons (.var 3) (.cons (.var 4) .nil)) []) [("one", 3), ("other", 4)]))))
    .nil))
   .nil)
    (.seq (.cond (.ist (.var 1) .bool)
   (.seq (.ret (.and (.ist (.var 0) .bool) (.bi .eq (.var 0) (.var 1))))
    .nil)
   .nil)
    (.seq (.cond (.ist (.var 1) .int)
   (.seq (.ret (.and (.ist (.var 0) .int) (.and (.not (.ist (.var 0) .bool)) (.bi .eq (.var 0) (.var 1)))))
    .nil)
   .nil)
    (.seq (.ret (.ite (.ist (.var 1) .str) (.and (.ist (.var 0) .str) (.bi .eq (.var 0) (.var 1))) (.un .isN (.var 0))))
    .nil))))

def d43 : Def := ⟨5, [false, false], b43⟩ -- _law_is

def b44 : S := (.seq (.cond (.bi .eq (.call 23 (.cons (.var 0) (.cons (.con (.int 2)) .nil)) []) (.con (.int 0)))
   (.seq (.ret (.call 42 (.cons (.var 0) .nil) []))
    .nil)
   .nil)
    (.seq (.par 1 2 (.call 24 (.cons (.var 0) (.cons (.lst (.cons (.con (.int 1)) (.cons (.con (.int 7)) (.cons (.con (.int 24)) (.cons (.bi .add (.con (.int 1)) (.call 23 (.cons (.var 0) (.cons (.con (.int 24)) .nil)) [])) .nil))))) .nil)) []) (.call 24 (.cons (.var 0) (.cons (.lst (.cons (.con (.int 1)) (.cons (.con (.int 5)) (.cons (.con (.int 8)) .nil)))) .nil)) []))
    (.seq (.cond (.bi .eq (.call 23 (.cons (.var 0) (.cons (.con (.int 2)) .nil)) []) (.con (.int 0)))
   (.seq (.ret (.call 40 (.cons (.var 0) (.cons (.var 1) (.cons (.bi .add (.con (.int 1)) (.call 23 (.cons (.var 0) (.cons (.con (.int 4)) .nil)) [])) (.cons (.var 2) .nil)))) []))
    .nil)
   .nil)
    (.seq (.ret (.call 41 (.cons (.var 0) (.cons (.var 1) (.cons (.bi .add (.con (.int 1)) (.call 23 (.cons (.var 0) (.cons (.con (.int 4)) .nil)) [])) (.cons (.var 2) .nil)))) []))
    .nil))))

def d44 : Def := ⟨3, [true], b44⟩ -- _law_book_any

def b45 : S := (.seq (.forr .val (.call 32 (.cons (.var 0) .nil) []) .nop (.nm 2)
   (.seq (.set 3 (.un .tuple (.call 35 (.cons (.var 0) (.cons (.var 2) .nil)) [])))
    (.seq (.cond (.not (.call 43 (.cons (.call 18 (.cons (.var 1) (.cons (.var 2) .nil)) []) (.cons (.call 34 (.cons (.var 0) (.cons (.var 2) .nil)) []) .nil)) []))
   (.seq (.ret (.con (.bl false)))
    .nil)
   .nil)
    (.seq (.cond (.not (.call 43 (.cons (.callK 19 .nil (.cons (.var 2) (.cons (.var 1) .nil)) ["kind", "book"] [1, 0]) (.cons (.var 3) .nil)) []))
   (.seq (.ret (.con (.bl false)))
    .nil)
   .nil)
    (.seq (.forr .val (.tup (.cons (.con (.int 0)) (.cons (.bi .fdiv (.bi .idx (.var 0) (.con (.str "hours"))) (.con (.int 2))) (.cons (.bi .sub (.bi .idx (.var 0) (.con (.str "hours"))) (.con (.int 1))) .nil)))) .nop (.nm 4)
   (.seq (.cond (.not (.call 43 (.cons (.callK 21 .nil (.cons (.var 4) (.cons (.var 2) (.cons (.var 1) .nil))) ["hour", "kind", "book"] [2, 1, 0]) (.cons (.un .tuple (.call 36 (.cons (.var 0) (.cons (.var 2) (.cons (.var 4) .nil))) [])) .nil)) []))
   (.seq (.ret (.con (.bl false)))
    .nil)
   .nil)
    .nil))
    .nil)))))
    (.seq (.ret (.un .all (.lc .rng1 (.bi .idx (.var 0) (.con (.str "hours"))) .nop (.nm 4) .nop (.call 43 (.cons (.callK 20 .nil (.cons (.var 4) (.cons (.var 1) .nil)) ["hour", "book"] [1, 0]) (.cons (.un .tuple (.call 37 (.cons (.var 0) (.cons (.var 4) .nil)) [])) .nil)) []) [("hour", 4)])))
    .nil))

def d45 : Def := ⟨5, [false, false], b45⟩ -- _law_are_kinds_right

def b46 : S := (.seq (.forr .rng1 (.con (.int 3)) .nop (.nm 1)
   (.seq (.set 2 (.call 44 (.cons (.var 0) .nil) []))
    (.seq (.set 3 (.call 31 (.cons (.var 2) .nil) []))
    (.seq (.par 7 8 (.mk 0 (.cons (.var 3) .nil) ["text"]) (.mk 0 (.cons (.var 3) .nil) []))
    (.seq (.set 4 (.tup (.cons (.var 3) (.cons (.bi .idx (.var 2) (.con (.str "hours"))) (.cons (.bi .idx (.var 2) (.con (.str "telescopes"))) (.cons (.un .tuple (.call 32 (.cons (.var 2) .nil) [])) (.cons (.un .len (.bi .idx (.var 2) (.con (.str "kinds")))) .nil)))))))
    (.seq (.cond (.not (.call 43 (.cons (.tup (.cons (.att (.var 7) 0 "text") (.cons (.att (.var 7) 0 "hours") (.cons (.att (.var 7) 0 "telescopes") (.cons (.att (.var 7) 0 "names") (.cons (.leno 0 (.var 7)) .nil)))))) (.cons (.var 4) .nil)) []))
   (.seq (.ret (.con (.bl false)))
    .nil)
   .nil)
    (.seq (.cond (.or (.not (.cmo false 0 1 (.var 7) (.var 8))) (.or (.cmo true 0 1 (.var 7) (.var 8)) (.or (.cmo false 0 1 (.var 7) (.var 3)) (.or (.not (.cmo true 0 1 (.var 7) (.con (.int 0)))) (.cmo false 0 1 (.var 7) (.tup (.cons (.var 3) .nil)))))))
   (.seq (.ret (.con (.bl false)))
    .nil)
   .nil)
    (.seq (.set 5 (.mt1 .split (.var 3) (.con (.str "\n"))))
    (.seq (.set 6 (.mk 0 (.cons (.mt1 .join (.con (.str "\n")) (.bi .add (.lst (.cons (.bi .add (.bi .add (.bi .add (.con (.str "book ")) (.un .str (.bi .idx (.var 2) (.con (.str "hours"))))) (.con (.str " "))) (.un .str (.bi .add (.bi .mod (.bi .idx (.var 2) (.con (.str "telescopes"))) (.con (.int 4))) (.con (.int 1))))) .nil)) (.slc (.var 5) (.con (.int 1)) .nop))) .nil) []))
    (.seq (.cond (.or (.cmo false 0 1 (.var 6) (.var 7)) (.or (.not (.cmo true 0 1 (.var 6) (.var 7))) (.not (.call 45 (.cons (.var 2) (.cons (.var 7) .nil)) []))))
   (.seq (.ret (.con (.bl false)))
    .nil)
   .nil)
    .nil))))))))))
    (.seq (.ret (.con (.bl true)))
    .nil))

def d46 : Def := ⟨9, [true], b46⟩ -- _law_right

def b47 : S := (.seq (.ret (.un .all (.lc .val (.call 26 (.cons (.var 0) (.cons (.con (.int 2)) .nil)) []) .nop (.nm 1) .nop (.cal1 46 (.call 22 (.cons (.var 0) (.cons (.var 1) .nil)) [])) [("at", 1)])))
    .nil)

def d47 : Def := ⟨2, [false], b47⟩ -- law

def b48 : S := (.seq (.ret (.and (.ist (.var 1) (.cls 0 1)) (.bi .eq (.att (.var 0) 0 "text") (.att (.var 1) 0 "text"))))
    .nil)

def d48 : Def := ⟨2, [false, false], b48⟩ -- Book.__eq__

def b49 : S := (.seq (.ret (.un .len (.att (.var 0) 0 "names")))
    .nil)

def d49 : Def := ⟨1, [false], b49⟩ -- Book.__len__

def bi0 : S := (.seq (.cond (.not (.ist (.var 1) .str))
   (.seq .nev
    .nil)
   .nil)
    (.seq (.set 2 (.mt1 .split (.var 1) (.con (.str "\n"))))
    (.seq (.set 3 (.call 11 (.cons (.bi .idx (.var 2) (.con (.int 0))) .nil) []))
    (.seq (.cond (.un .isN (.var 3))
   (.seq .nev
    .nil)
   .nil)
    (.seq (.fset 10 "text" (.mt1 .join (.con (.str "\n")) (.var 2)))
    (.seq (.fst2 11 12 (.var 3))
    (.seq (.fset 13 "worths" (.dic [] .nil))
    (.seq (.fset 14 "kind_hours" (.dic [] .nil))
    (.seq (.forr .enumK (.slc (.var 2) (.con (.int 1)) .nop) (.con (.int 2)) (.tp2 (.nm 4) (.nm 5))
   (.seq (.set 6 (.call 12 (.cons (.var 5) (.cons (.fld 11 "hours") .nil)) []))
    (.seq (.cond (.or (.un .isN (.var 6)) (.or (.bi .inn (.bi .idx (.var 6) (.con (.int 0))) (.fld 13 "worths")) (.bi .eq (.un .len (.fld 13 "worths")) (.glo "MOST_KINDS" (.int 8)))))
   (.seq .nev
    .nil)
   .nil)
    (.seq (.setP (.tp3 (.nm 7) (.nm 8) (.nm 9)) (.var 6))
    (.seq (.putD 13 (.var 7) (.var 8))
    (.seq (.putD 14 (.var 7) (.var 9))
    .nil))))))
    (.seq (.cond (.not (.fld 13 "worths"))
   (.seq .nev
    .nil)
   .nil)
    (.seq (.fset 15 "names" (.un .dkeys (.fld 13 "worths")))
    (.seq (.fset 16 "bottom" (.call 5 (.cons (.un .lvals (.fld 13 "worths")) .nil) []))
    (.seq (.fset 17 "weights" (.call 6 (.cons (.fld 16 "bottom") (.cons (.fld 13 "worths") .nil)) []))
    .nil)))))))))))))

def ci0 : Vf.Cls := ⟨10, 1, ["text", "hours", "telescopes", "worths", "kind_hours", "names", "bottom", "weights"], bi0, some 48, some 49⟩ -- Book

def T : Tab := ⟨[d0, d1, d2, d3, d4, d5, d6, d7, d8, d9, d10, d11, d12, d13, d14, d15, d16, d17, d18, d19, d20, d21, d22, d23, d24, d25, d26, d27, d28, d29, d30, d31, d32, d33, d34, d35, d36, d37, d38, d39, d40, d41, d42, d43, d44, d45, d46, d47, d48, d49], [ci0]⟩
def π : Pi := ⟨[Str.ofString "is_integer", Str.ofString "is_within", Str.ofString "is_pair", Str.ofString "is_fraction", Str.ofString "is_name", Str.ofString "shared_bottom", Str.ofString "tops_over", Str.ofString "integer_of", Str.ofString "fraction_of", Str.ofString "span_of", Str.ofString "hours_of_spans", Str.ofString "_head_of", Str.ofString "_kind_of", Str.ofString "is_worth", Str.ofString "is_kind", Str.ofString "is_hour", Str.ofString "check_kind", Str.ofString "check_hour", Str.ofString "worth", Str.ofString "hours_of", Str.ofString "up", Str.ofString "later", Str.ofString "_law_pot", Str.ofString "_law_take", Str.ofString "_law_of", Str.ofString "_law_some", Str.ofString "_law_cells", Str.ofString "_law_frac_is_less", Str.ofString "_law_frac_text", Str.ofString "_law_book_spans", Str.ofString "_law_book_line", Str.ofString "_law_book_text", Str.ofString "_law_book_names", Str.ofString "_law_book_kind", Str.ofString "_law_book_worth", Str.ofString "_law_book_hours", Str.ofString "_law_book_later", Str.ofString "_law_book_up", Str.ofString "_law_book_worth_drawn", Str.ofString "_law_book_some_hours", Str.ofString "_law_book_agreeing_drawn", Str.ofString "_law_book_any_drawn", Str.ofString "_law_book_drawn", Str.ofString "_law_is", Str.ofString "_law_book_any", Str.ofString "_law_are_kinds_right", Str.ofString "_law_right", Str.ofString "law"], ["Book"], ["abs", "all", "bool", "enumerate", "int", "isinstance", "len", "list", "max", "min", "range", "sorted", "str", "sum", "tuple", "zip"], [("LETTERS", (.str "abcdefghijklmnopqrstuvwxyz")), ("MOST_FIGURES", (.int 900)), ("MOST_HOURS", (.int 24)), ("MOST_KINDS", (.int 8)), ("MOST_LETTERS", (.int 6)), ("MOST_TELESCOPES", (.int 4)), ("MOST_WORTH", (.int 1000))], [("gcd", "math.gcd"), ("lcm", "math.lcm")], [(0, "bottom"), (0, "hours"), (0, "kind_hours"), (0, "names"), (0, "telescopes"), (0, "text"), (0, "weights"), (0, "worths")], [(20, ["hour", "book"], [1, 0]), (21, ["hour", "kind", "book"], [2, 1, 0]), (19, ["kind", "book"], [1, 0])], [(0, ["text"])], [0], [0]⟩
theorem c0 : chkSs π (inoT T) ["value"] [] ⟨(defScope (top 10)).names, fun _ => true, ("" : Str)⟩ b0 (defBody (top 10)) = true := by decide +kernel -- is_integer
theorem c1 : chkSs π (inoT T) ["value", "low", "high"] [] ⟨(defScope (top 11)).names, fun _ => true, ("" : Str)⟩ b1 (defBody (top 11)) = true := by decide +kernel -- is_within
theorem c2 : chkSs π (inoT T) ["value"] [] ⟨(defScope (top 12)).names, fun _ => true, ("" : Str)⟩ b2 (defBody (top 12)) = true := by decide +kernel -- is_pair
theorem c3 : chkSs π (inoT T) ["value", "top", "bottom"] [] ⟨(defScope (top 13)).names, fun _ => true, ("" : Str)⟩ b3 (defBody (top 13)) = true := by decide +kernel -- is_fraction
theorem c4 : chkSs π (inoT T) ["value", "sign"] [] ⟨(defScope (top 14)).names, fun _ => true, ("" : Str)⟩ b4 (defBody (top 14)) = true := by decide +kernel -- is_name
theorem c5 : chkSs π (inoT T) ["fractions", "bottom", "_", "under"] [] ⟨(defScope (top 15)).names, fun _ => true, ("" : Str)⟩ b5 (defBody (top 15)) = true := by decide +kernel -- shared_bottom
theorem c6 : chkSs π (inoT T) ["bottom", "fractions", "name", "top", "under"] [] ⟨(defScope (top 16)).names, fun _ => true, ("" : Str)⟩ b6 (defBody (top 16)) = true := by decide +kernel -- tops_over
theorem c7 : chkSs π (inoT T) ["word", "figures", "number"] [] ⟨(defScope (top 17)).names, fun _ => true, ("" : Str)⟩ b7 (defBody (top 17)) = true := by decide +kernel -- integer_of
theorem c8 : chkSs π (inoT T) ["word", "fraction", "top", "slash", "bottom"] [] ⟨(defScope (top 18)).names, fun _ => true, ("" : Str)⟩ b8 (defBody (top 18)) = true := by decide +kernel -- fraction_of
theorem c9 : chkSs π (inoT T) ["word", "first", "last", "low", "dash", "high"] [] ⟨(defScope (top 19)).names, fun _ => true, ("" : Str)⟩ b9 (defBody (top 19)) = true := by decide +kernel -- span_of
theorem c10 : chkSs π (inoT T) ["words", "hours", "told", "word", "span", "free"] [] ⟨(defScope (top 20)).names, fun _ => true, ("" : Str)⟩ b10 (defBody (top 20)) = true := by decide +kernel -- hours_of_spans
theorem c11 : chkSs π (inoT T) ["line", "words", "hours", "telescopes"] [] ⟨(defScope (top 27)).names, fun _ => true, ("" : Str)⟩ b11 (defBody (top 27)) = true := by decide +kernel -- _head_of
theorem c12 : chkSs π (inoT T) ["line", "hours", "words", "amount", "told"] [] ⟨(defScope (top 28)).names, fun _ => true, ("" : Str)⟩ b12 (defBody (top 28)) = true := by decide +kernel -- _kind_of
theorem c13 : chkSs π (inoT T) ["value"] [] ⟨(defScope (top 29)).names, fun _ => true, ("" : Str)⟩ b13 (defBody (top 29)) = true := by decide +kernel -- is_worth
theorem c14 : chkSs π (inoT T) ["book", "value"] [] ⟨(defScope (top 30)).names, fun _ => true, ("" : Str)⟩ b14 (defBody (top 30)) = true := by decide +kernel -- is_kind
theorem c15 : chkSs π (inoT T) ["book", "value"] [] ⟨(defScope (top 31)).names, fun _ => true, ("" : Str)⟩ b15 (defBody (top 31)) = true := by decide +kernel -- is_hour
theorem c16 : chkSs π (inoT T) ["book", "kind"] [] ⟨(defScope (top 32)).names, fun _ => true, ("" : Str)⟩ b16 (defBody (top 32)) = true := by decide +kernel -- check_kind
theorem c17 : chkSs π (inoT T) ["book", "hour"] [] ⟨(defScope (top 33)).names, fun _ => true, ("" : Str)⟩ b17 (defBody (top 33)) = true := by decide +kernel -- check_hour
theorem c18 : chkSs π (inoT T) ["book", "kind"] [] ⟨(defScope (top 34)).names, fun _ => true, ("" : Str)⟩ b18 (defBody (top 34)) = true := by decide +kernel -- worth
theorem c19 : chkSs π (inoT T) ["book", "kind"] [] ⟨(defScope (top 35)).names, fun _ => true, ("" : Str)⟩ b19 (defBody (top 35)) = true := by decide +kernel -- hours_of
theorem c20 : chkSs π (inoT T) ["book", "hour", "name"] [] ⟨(defScope (top 36)).names, fun _ => true, ("" : Str)⟩ b20 (defBody (top 36)) = true := by decide +kernel -- up
theorem c21 : chkSs π (inoT T) ["book", "kind", "hour", "own"] [] ⟨(defScope (top 37)).names, fun _ => true, ("" : Str)⟩ b21 (defBody (top 37)) = true := by decide +kernel -- later
theorem c22 : chkSs π (inoT T) ["script", "at", "cell", "own", "small"] [] ⟨(defScope (top 39)).names, fun _ => true, ("" : Str)⟩ b22 (defBody (top 39)) = true := by decide +kernel -- _law_pot
theorem c23 : chkSs π (inoT T) ["pot", "upto", "prime", "blend", "digit"] [] ⟨(defScope (top 40)).names, fun _ => true, ("" : Str)⟩ b23 (defBody (top 40)) = true := by decide +kernel -- _law_take
theorem c24 : chkSs π (inoT T) ["pot", "some"] [] ⟨(defScope (top 41)).names, fun _ => true, ("" : Str)⟩ b24 (defBody (top 41)) = true := by decide +kernel -- _law_of
theorem c25 : chkSs π (inoT T) ["pot", "pool", "many", "lap", "rests", "found"] [] ⟨(defScope (top 42)).names, fun _ => true, ("" : Str)⟩ b25 (defBody (top 42)) = true := by decide +kernel -- _law_some
theorem c26 : chkSs π (inoT T) ["script", "most"] [] ⟨(defScope (top 43)).names, fun _ => true, ("" : Str)⟩ b26 (defBody (top 43)) = true := by decide +kernel -- _law_cells
theorem c27 : chkSs π (inoT T) ["one", "other"] [] ⟨(defScope (top 44)).names, fun _ => true, ("" : Str)⟩ b27 (defBody (top 44)) = true := by decide +kernel -- _law_frac_is_less
theorem c28 : chkSs π (inoT T) ["one"] [] ⟨(defScope (top 45)).names, fun _ => true, ("" : Str)⟩ b28 (defBody (top 45)) = true := by decide +kernel -- _law_frac_text
theorem c29 : chkSs π (inoT T) ["hours", "found", "hour", "row"] [] ⟨(defScope (top 46)).names, fun _ => true, ("" : Str)⟩ b29 (defBody (top 46)) = true := by decide +kernel -- _law_book_spans
theorem c30 : chkSs π (inoT T) ["kind"] [] ⟨(defScope (top 47)).names, fun _ => true, ("" : Str)⟩ b30 (defBody (top 47)) = true := by decide +kernel -- _law_book_line
theorem c31 : chkSs π (inoT T) ["own", "head", "kind"] [] ⟨(defScope (top 48)).names, fun _ => true, ("" : Str)⟩ b31 (defBody (top 48)) = true := by decide +kernel -- _law_book_text
theorem c32 : chkSs π (inoT T) ["own", "name", "amount", "hours"] [] ⟨(defScope (top 49)).names, fun _ => true, ("" : Str)⟩ b32 (defBody (top 49)) = true := by decide +kernel -- _law_book_names
theorem c33 : chkSs π (inoT T) ["own", "name", "kind"] [] ⟨(defScope (top 50)).names, fun _ => true, ("" : Str)⟩ b33 (defBody (top 50)) = true := by decide +kernel -- _law_book_kind
theorem c34 : chkSs π (inoT T) ["own", "name"] [] ⟨(defScope (top 51)).names, fun _ => true, ("" : Str)⟩ b34 (defBody (top 51)) = true := by decide +kernel -- _law_book_worth
theorem c35 : chkSs π (inoT T) ["own", "name"] [] ⟨(defScope (top 52)).names, fun _ => true, ("" : Str)⟩ b35 (defBody (top 52)) = true := by decide +kernel -- _law_book_hours
theorem c36 : chkSs π (inoT T) ["own", "name", "hour", "one"] [] ⟨(defScope (top 53)).names, fun _ => true, ("" : Str)⟩ b36 (defBody (top 53)) = true := by decide +kernel -- _law_book_later
theorem c37 : chkSs π (inoT T) ["own", "hour", "name", "amount", "hours"] [] ⟨(defScope (top 54)).names, fun _ => true, ("" : Str)⟩ b37 (defBody (top 54)) = true := by decide +kernel -- _law_book_up
theorem c38 : chkSs π (inoT T) ["pot"] [] ⟨(defScope (top 55)).names, fun _ => true, ("" : Str)⟩ b38 (defBody (top 55)) = true := by decide +kernel -- _law_book_worth_drawn
theorem c39 : chkSs π (inoT T) ["pot", "hours", "found", "hour"] [] ⟨(defScope (top 56)).names, fun _ => true, ("" : Str)⟩ b39 (defBody (top 56)) = true := by decide +kernel -- _law_book_some_hours
theorem c40 : chkSs π (inoT T) ["pot", "hours", "telescopes", "many", "amounts", "names", "kinds", "rows", "here", "least", "amount", "lap", "name", "its"] [] ⟨(defScope (top 57)).names, fun _ => true, ("" : Str)⟩ b40 (defBody (top 57)) = true := by decide +kernel -- _law_book_agreeing_drawn
theorem c41 : chkSs π (inoT T) ["pot", "hours", "telescopes", "many", "name", "names", "kinds"] [] ⟨(defScope (top 58)).names, fun _ => true, ("" : Str)⟩ b41 (defBody (top 58)) = true := by decide +kernel -- _law_book_any_drawn
theorem c42 : chkSs π (inoT T) ["pot", "hours", "telescopes", "many"] [] ⟨(defScope (top 59)).names, fun _ => true, ("" : Str)⟩ b42 (defBody (top 59)) = true := by decide +kernel -- _law_book_drawn
theorem c43 : chkSs π (inoT T) ["told", "due", "is_fit", "one", "other"] [] ⟨(defScope (top 60)).names, fun _ => true, ("" : Str)⟩ b43 (defBody (top 60)) = true := by decide +kernel -- _law_is
theorem c44 : chkSs π (inoT T) ["pot", "hours", "many"] [] ⟨(defScope (top 61)).names, fun _ => true, ("" : Str)⟩ b44 (defBody (top 61)) = true := by decide +kernel -- _law_book_any
theorem c45 : chkSs π (inoT T) ["own", "book", "name", "due", "hour"] [] ⟨(defScope (top 62)).names, fun _ => true, ("" : Str)⟩ b45 (defBody (top 62)) = true := by decide +kernel -- _law_are_kinds_right
theorem c46 : chkSs π (inoT T) ["pot", "lap", "own", "text", "due", "rows", "other", "book", "again"] [] ⟨(defScope (top 63)).names, fun _ => true, ("" : Str)⟩ b46 (defBody (top 63)) = true := by decide +kernel -- _law_right
theorem c47 : chkSs π (inoT T) ["script", "at"] [] ⟨(defScope (top 64)).names, fun _ => true, ("" : Str)⟩ b47 (defBody (top 64)) = true := by decide +kernel -- law
theorem c48 : chkSs π (inoT T) ["self", "other"] [] ⟨(defScope (meth (top 26) 1)).names, fun _ => true, ("" : Str)⟩ b48 (defBody (meth (top 26) 1)) = true := by decide +kernel -- Book.__eq__
theorem c49 : chkSs π (inoT T) ["self"] [] ⟨(defScope (meth (top 26) 2)).names, fun _ => true, ("" : Str)⟩ b49 (defBody (meth (top 26) 2)) = true := by decide +kernel -- Book.__len__
theorem ck0 : chkSs π (inoT T) ["self", "text", "lines", "head", "number", "line", "kind", "name", "amount", "hours"] ["text", "hours", "telescopes", "worths", "kind_hours", "names", "bottom", "weights"] ⟨(defScope (meth (top 26) 0)).names, fun _ => true, ("self" : Str)⟩ bi0 (defBody (meth (top 26) 0)) = true := by decide +kernel -- Book
end Gn
end
section
namespace Hd
open PySem PySem.Spec PyProof.Rows L2 Gn
def f0 : He.DefD := ⟨("is_integer", none), "is_integer", "is_integer", defArgs (top 10), defBody (top 10), defScope (top 10), [], []⟩
def f1 : He.DefD := ⟨("is_within", none), "is_within", "is_within", defArgs (top 11), defBody (top 11), defScope (top 11), [], []⟩
def f2 : He.DefD := ⟨("is_pair", none), "is_pair", "is_pair", defArgs (top 12), defBody (top 12), defScope (top 12), [], []⟩
def f3 : He.DefD := ⟨("is_fraction", none), "is_fraction", "is_fraction", defArgs (top 13), defBody (top 13), defScope (top 13), [], []⟩
def f4 : He.DefD := ⟨("is_name", none), "is_name", "is_name", defArgs (top 14), defBody (top 14), defScope (top 14), [], []⟩
def f5 : He.DefD := ⟨("shared_bottom", none), "shared_bottom", "shared_bottom", defArgs (top 15), defBody (top 15), defScope (top 15), [], []⟩
def f6 : He.DefD := ⟨("tops_over", none), "tops_over", "tops_over", defArgs (top 16), defBody (top 16), defScope (top 16), [], []⟩
def f7 : He.DefD := ⟨("integer_of", none), "integer_of", "integer_of", defArgs (top 17), defBody (top 17), defScope (top 17), [], []⟩
def f8 : He.DefD := ⟨("fraction_of", none), "fraction_of", "fraction_of", defArgs (top 18), defBody (top 18), defScope (top 18), [], []⟩
def f9 : He.DefD := ⟨("span_of", none), "span_of", "span_of", defArgs (top 19), defBody (top 19), defScope (top 19), [], []⟩
def f10 : He.DefD := ⟨("hours_of_spans", none), "hours_of_spans", "hours_of_spans", defArgs (top 20), defBody (top 20), defScope (top 20), [], []⟩
def f11 : He.DefD := ⟨("_head_of", none), "_head_of", "_head_of", defArgs (top 27), defBody (top 27), defScope (top 27), [], []⟩
def f12 : He.DefD := ⟨("_kind_of", none), "_kind_of", "_kind_of", defArgs (top 28), defBody (top 28), defScope (top 28), [], []⟩
def f13 : He.DefD := ⟨("is_worth", none), "is_worth", "is_worth", defArgs (top 29), defBody (top 29), defScope (top 29), [], []⟩
def f14 : He.DefD := ⟨("is_kind", none), "is_kind", "is_kind", defArgs (top 30), defBody (top 30), defScope (top 30), [], []⟩
def f15 : He.DefD := ⟨("is_hour", none), "is_hour", "is_hour", defArgs (top 31), defBody (top 31), defScope (top 31), [], []⟩
def f16 : He.DefD := ⟨("check_kind", none), "check_kind", "check_kind", defArgs (top 32), defBody (top 32), defScope (top 32), [], []⟩
def f17 : He.DefD := ⟨("check_hour", none), "check_hour", "check_hour", defArgs (top 33), defBody (top 33), defScope (top 33), [], []⟩
def f18 : He.DefD := ⟨("worth", none), "worth", "worth", defArgs (top 34), defBody (top 34), defScope (top 34), [], []⟩
def f19 : He.DefD := ⟨("hours_of", none), "hours_of", "hours_of", defArgs (top 35), defBody (top 35), defScope (top 35), [], []⟩
def f20 : He.DefD := ⟨("up", none), "up", "up", defArgs (top 36), defBody (top 36), defScope (top 36), [], []⟩
def f21 : He.DefD := ⟨("later", none), "later", "later", defArgs (top 37), defBody (top 37), defScope (top 37), [], []⟩
def f22 : He.DefD := ⟨("_law_pot", none), "_law_pot", "_law_pot", defArgs (top 39), defBody (top 39), defScope (top 39), [], []⟩
def f23 : He.DefD := ⟨("_law_take", none), "_law_take", "_law_take", defArgs (top 40), defBody (top 40), defScope (top 40), [], []⟩
def f24 : He.DefD := ⟨("_law_of", none), "_law_of", "_law_of", defArgs (top 41), defBody (top 41), defScope (top 41), [], []⟩
def f25 : He.DefD := ⟨("_law_some", none), "_law_some", "_law_some", defArgs (top 42), defBody (top 42), defScope (top 42), [], []⟩
def f26 : He.DefD := ⟨("_law_cells", none), "_law_cells", "_law_cells", defArgs (top 43), defBody (top 43), defScope (top 43), [], []⟩
def f27 : He.DefD := ⟨("_law_frac_is_less", none), "_law_frac_is_less", "_law_frac_is_less", defArgs (top 44), defBody (top 44), defScope (top 44), [], []⟩
def f28 : He.DefD := ⟨("_law_frac_text", none), "_law_frac_text", "_law_frac_text", defArgs (top 45), defBody (top 45), defScope (top 45), [], []⟩
def f29 : He.DefD := ⟨("_law_book_spans", none), "_law_book_spans", "_law_book_spans", defArgs (top 46), defBody (top 46), defScope (top 46), [], []⟩
def f30 : He.DefD := ⟨("_law_book_line", none), "_law_book_line", "_law_book_line", defArgs (top 47), defBody (top 47), defScope (top 47), [], []⟩
def f31 : He.DefD := ⟨("_law_book_text", none), "_law_book_text", "_law_book_text", defArgs (top 48), defBody (top 48), defScope (top 48), [], []⟩
def f32 : He.DefD := ⟨("_law_book_names", none), "_law_book_names", "_law_book_names", defArgs (top 49), defBody (top 49), defScope (top 49), [], []⟩
def f33 : He.DefD := ⟨("_law_book_kind", none), "_law_book_kind", "_law_book_kind", defArgs (top 50), defBody (top 50), defScope (top 50), [], []⟩
def f34 : He.DefD := ⟨("_law_book_worth", none), "_law_book_worth", "_law_book_worth", defArgs (top 51), defBody (top 51), defScope (top 51), [], []⟩
def f35 : He.DefD := ⟨("_law_book_hours", none), "_law_book_hours", "_law_book_hours", defArgs (top 52), defBody (top 52), defScope (top 52), [], []⟩
def f36 : He.DefD := ⟨("_law_book_later", none), "_law_book_later", "_law_book_later", defArgs (top 53), defBody (top 53), defScope (top 53), [], []⟩
def f37 : He.DefD := ⟨("_law_book_up", none), "_law_book_up", "_law_book_up", defArgs (top 54), defBody (top 54), defScope (top 54), [], []⟩
def f38 : He.DefD := ⟨("_law_book_worth_drawn", none), "_law_book_worth_drawn", "_law_book_worth_drawn", defArgs (top 55), defBody (top 55), defScope (top 55), [], []⟩
def f39 : He.DefD := ⟨("_law_book_some_hours", none), "_law_book_some_hours", "_law_book_some_hours", defArgs (top 56), defBody (top 56), defScope (top 56), [], []⟩
def f40 : He.DefD := ⟨("_law_book_agreeing_drawn", none), "_law_book_agreeing_drawn", "_law_book_agreeing_drawn", defArgs (top 57), defBody (top 57), defScope (top 57), [], []⟩
def f41 : He.DefD := ⟨("_law_book_any_drawn", none), "_law_book_any_drawn", "_law_book_any_drawn", defArgs (top 58), defBody (top 58), defScope (top 58), [], []⟩
def f42 : He.DefD := ⟨("_law_book_drawn", none), "_law_book_drawn", "_law_book_drawn", defArgs (top 59), defBody (top 59), defScope (top 59), [], []⟩
def f43 : He.DefD := ⟨("_law_is", none), "_law_is", "_law_is", defArgs (top 60), defBody (top 60), defScope (top 60), [], []⟩
def f44 : He.DefD := ⟨("_law_book_any", none), "_law_book_any", "_law_book_any", defArgs (top 61), defBody (top 61), defScope (top 61), [], []⟩
def f45 : He.DefD := ⟨("_law_are_kinds_right", none), "_law_are_kinds_right", "_law_are_kinds_right", defArgs (top 62), defBody (top 62), defScope (top 62), [], []⟩
def f46 : He.DefD := ⟨("_law_right", none), "_law_right", "_law_right", defArgs (top 63), defBody (top 63), defScope (top 63), [], []⟩
def f47 : He.DefD := ⟨("law", none), "law", "law", defArgs (top 64), defBody (top 64), defScope (top 64), [], []⟩
def f48 : He.DefD := ⟨("Book", some "__eq__"), "__eq__", "Book.__eq__", defArgs (meth (top 26) 1), defBody (meth (top 26) 1), defScope (meth (top 26) 1), [], []⟩
def f49 : He.DefD := ⟨("Book", some "__len__"), "__len__", "Book.__len__", defArgs (meth (top 26) 2), defBody (meth (top 26) 2), defScope (meth (top 26) 2), [], []⟩
def f50 : He.DefD := ⟨("Book", some "__init__"), "__init__", "Book.__init__", defArgs (meth (top 26) 0), defBody (meth (top 26) 0), defScope (meth (top 26) 0), [], []⟩
def fn : List He.DefD := [f0, f1, f2, f3, f4, f5, f6, f7, f8, f9, f10, f11, f12, f13, f14, f15, f16, f17, f18, f19, f20, f21, f22, f23, f24, f25, f26, f27, f28, f29, f30, f31, f32, f33, f34, f35, f36, f37, f38, f39, f40, f41, f42, f43, f44, f45, f46, f47, f48, f49, f50]
def ms : List (Nat × Str) := [(0, "__eq__"), (0, "__len__")]
def ex : PySem.W.Frag → Bool := Vf.piB Gn.π ms
def loose : List PySem.Str := ([PySem.Str.ofString "gcd", PySem.Str.ofString "lcm", PySem.Str.ofString "NightError", PySem.Str.ofString "BadBook", PySem.Str.ofString "NoKind", PySem.Str.ofString "NoHour", PySem.Str.ofString "LETTERS", PySem.Str.ofString "MOST_LETTERS", PySem.Str.ofString "MOST_FIGURES", PySem.Str.ofString "is_integer", PySem.Str.ofString "is_within", PySem.Str.ofString "is_pair", PySem.Str.ofString "is_fraction", PySem.Str.ofString "is_name", PySem.Str.ofString "shared_bottom", PySem.Str.ofString "tops_over", PySem.Str.ofString "integer_of", PySem.Str.ofString "fraction_of", PySem.Str.ofString "span_of", PySem.Str.ofString "hours_of_spans", PySem.Str.ofString "MOST_HOURS", PySem.Str.ofString "MOST_TELESCOPES", PySem.Str.ofString "MOST_KINDS", PySem.Str.ofString "MOST_WORTH", PySem.Str.ofString "Book", PySem.Str.ofString "_head_of", PySem.Str.ofString "_kind_of", PySem.Str.ofString "is_worth", PySem.Str.ofString "is_kind", PySem.Str.ofString "is_hour"] : List PySem.Str) ++ ([PySem.Str.ofString "check_kind", PySem.Str.ofString "check_hour", PySem.Str.ofString "worth", PySem.Str.ofString "hours_of", PySem.Str.ofString "up", PySem.Str.ofString "later", PySem.Str.ofString "_law_pot", PySem.Str.ofString "_law_take", PySem.Str.ofString "_law_of", PySem.Str.ofString "_law_some", PySem.Str.ofString "_law_cells", PySem.Str.ofString "_law_frac_is_less", PySem.Str.ofString "_law_frac_text", PySem.Str.ofString "_law_book_spans", PySem.Str.ofString "_law_book_line", PySem.Str.ofString "_law_book_text", PySem.Str.ofString "_law_book_names", PySem.Str.ofString "_law_book_kind", PySem.Str.ofString "_law_book_worth", PySem.Str.ofString "_law_book_hours", PySem.Str.ofString "_law_book_later", PySem.Str.ofString "_law_book_up", PySem.Str.ofString "_law_book_worth_drawn", PySem.Str.ofString "_law_book_some_hours", PySem.Str.ofString "_law_book_agreeing_drawn", PySem.Str.ofString "_law_book_any_drawn", PySem.Str.ofString "_law_book_drawn", PySem.Str.ofString "_law_is", PySem.Str.ofString "_law_book_any", PySem.Str.ofString "_law_are_kinds_right"] : List PySem.Str) ++ ([PySem.Str.ofString "_law_right"] : List PySem.Str)
abbrev R : PySem.W.OpenRow := PySem.W.OpenLaw.row PySem.Challenge.rw_wheneverclear_k00_texts_of_books
abbrev hk : PySem.W.Hook := Vf.hookX 4 [] fn ex
def ob (s : PySem.W.SharedT) : He.AlD := Vf.obsXG 4 [] fn ex (HandSHeadRun.getT s)
theorem ob_eq (s : PySem.W.SharedT) : ob s = hk.obs s.abs := Vf.obsXG_eq (HandSHeadRun.getT_eq s)
abbrev qv : Program := PySem.W.view R.prog [0, 64]
theorem run (w : World) : HandSHeadRun.RunEqI R qv hk ob 3000 loose w := by
  unfold HandSHeadRun.RunEqI
  kernel_rfl
end Hd
end
section
namespace Asm
open PySem PySem.Spec PyProof.Rows L2 Vf Gn
section
variable {P : Program} {w : World} {K : PySem.W.Frag} {h : Heap} {mg : Str → Option Value} {base : Heap}
theorem in0 (o : PiOk Gn.π Hd.ms K mg) (c : He.SaysD [] Hd.fn K) : ∃ f fd ps, DefIn Gn.π ⟨K, clK Gn.π K⟩ Gn.T P w mg base 0 "is_integer" f fd ps := by
  obtain ⟨fd, F⟩ := c.def_ 0 (d := Hd.f0) rfl
  exact ⟨_, fd, ["value"], o.fns _ (List.mem_of_getElem? (i := 0) rfl), F.kp, FunD.bindsN (ps := ["value"]) F (fun _ _ _ _ _ _ us hl => match us, hl with | [_], _ => rfl), fun ks pm hm => absurd (List.mem_map.mpr ⟨_, hm, rfl⟩ : 0 ∈ Gn.π.kws.map (·.1)) (by decide), fun n W => def_ok (j := 0) (d := Gn.d0) (st := Gn.top 10) (N := ["value"]) (ps := ["value"]) W F ⟨rfl, rfl, rfl, by decide +kernel, rfl, by decide +kernel, by decide +kernel⟩ (by kernel_rfl) rfl rfl (by decide +kernel) c0⟩
theorem in1 (o : PiOk Gn.π Hd.ms K mg) (c : He.SaysD [] Hd.fn K) : ∃ f fd ps, DefIn Gn.π ⟨K, clK Gn.π K⟩ Gn.T P w mg base 1 "is_within" f fd ps := by
  obtain ⟨fd, F⟩ := c.def_ 1 (d := Hd.f1) rfl
  exact ⟨_, fd, ["value", "low", "high"], o.fns _ (List.mem_of_getElem? (i := 1) rfl), F.kp, FunD.bindsN (ps := ["value", "low", "high"]) F (fun _ _ _ _ _ _ us hl => match us, hl with | [_, _, _], _ => rfl), fun ks pm hm => absurd (List.mem_map.mpr ⟨_, hm, rfl⟩ : 1 ∈ Gn.π.kws.map (·.1)) (by decide), fun n W => def_ok (j := 1) (d := Gn.d1) (st := Gn.top 11) (N := ["value", "low", "high"]) (ps := ["value", "low", "high"]) W F ⟨rfl, rfl, rfl, by decide +kernel, rfl, by decide +kernel, by decide +kernel⟩ (by kernel_rfl) rfl rfl (by decide +kernel) c1⟩
theorem in2 (o : PiOk Gn.π Hd.ms K mg) (c : He.SaysD [] Hd.fn K) : ∃ f fd ps, DefIn Gn.π ⟨K, clK Gn.π K⟩ Gn.T P w mg base 2 "is_pair" f fd ps := by
  obtain ⟨fd, F⟩ := c.def_ 2 (d := Hd.f2) rfl
  exact ⟨_, fd, ["value"], o.fns _ (List.mem_of_getElem? (i := 2) rfl), F.kp, FunD.bindsN (ps := ["value"]) F (fun _ _ _ _ _ _ us hl => match us, hl with | [_], _ => rfl), fun ks pm hm => absurd (List.mem_map.mpr ⟨_, hm, rfl⟩ : 2 ∈ Gn.π.kws.map (·.1)) (by decide), fun n W => def_ok (j := 2) (d := Gn.d2) (st := Gn.top 12) (N := ["value"]) (ps := ["value"]) W F ⟨rfl, rfl, rfl, by decide +kernel, rfl, by decide +kernel, by decide +kernel⟩ (by kernel_rfl) rfl rfl (by decide +kernel) c2⟩
theorem in3 (o : PiOk Gn.π Hd.ms K mg) (c : He.SaysD [] Hd.fn K) : ∃ f fd ps, DefIn Gn.π ⟨K, clK Gn.π K⟩ Gn.T P w mg base 3 "is_fraction" f fd ps := by
  obtain ⟨fd, F⟩ := c.def_ 3 (d := Hd.f3) rfl
  exact ⟨_, fd, ["value"], o.fns _ (List.mem_of_getElem? (i := 3) rfl), F.kp, FunD.bindsN (ps := ["value"]) F (fun _ _ _ _ _ _ us hl => match us, hl with | [_], _ => rfl), fun ks pm hm => absurd (List.mem_map.mpr ⟨_, hm, rfl⟩ : 3 ∈ Gn.π.kws.map (·.1)) (by decide), fun n W => def_ok (j := 3) (d := Gn.d3) (st := Gn.top 13) (N := ["value", "top", "bottom"]) (ps := ["value"]) W F ⟨rfl, rfl, rfl, by decide +kernel, rfl, by decide +kernel, by decide +kernel⟩ (by kernel_rfl) rfl rfl (by decide +kernel) c3⟩
theorem in4 (o : PiOk Gn.π Hd.ms K mg) (c : He.SaysD [] Hd.fn K) : ∃ f fd ps, DefIn Gn.π ⟨K, clK Gn.π K⟩ Gn.T P w mg base 4 "is_name" f fd ps := by
  obtain ⟨fd, F⟩ := c.def_ 4 (d := Hd.f4) rfl
  exact ⟨_, fd, ["value"], o.fns _ (List.mem_of_getElem? (i := 4) rfl), F.kp, FunD.bindsN (ps := ["value"]) F (fun _ _ _ _ _ _ us hl => match us, hl with | [_], _ => rfl), fun ks pm hm => absurd (List.mem_map.mpr ⟨_, hm, rfl⟩ : 4 ∈ Gn.π.kws.map (·.1)) (by decide), fun n W => def_ok (j := 4) (d := Gn.d4) (st := Gn.top 14) (N := ["value", "sign"]) (ps := ["value"]) W F ⟨rfl, rfl, rfl, by decide +kernel, rfl, by decide +kernel, by decide +kernel⟩ (by kernel_rfl) rfl rfl (by decide +kernel) c4⟩
theorem in5 (o : PiOk Gn.π Hd.ms K mg) (c : He.SaysD [] Hd.fn K) : ∃ f fd ps, DefIn Gn.π ⟨K, clK Gn.π K⟩ Gn.T P w mg base 5 "shared_bottom" f fd ps := by
  obtain ⟨fd, F⟩ := c.def_ 5 (d := Hd.f5) rfl
  exact ⟨_, fd, ["fractions"], o.fns _ (List.mem_of_getElem? (i := 5) rfl), F.kp, FunD.bindsN (ps := ["fractions"]) F (fun _ _ _ _ _ _ us hl => match us, hl with | [_], _ => rfl), fun ks pm hm => absurd (List.mem_map.mpr ⟨_, hm, rfl⟩ : 5 ∈ Gn.π.kws.map (·.1)) (by decide), fun n W => def_ok (j := 5) (d := Gn.d5) (st := Gn.top 15) (N := ["fractions", "bottom", "_", "under"]) (ps := ["fractions"]) W F ⟨rfl, rfl, rfl, by decide +kernel, rfl, by decide +kernel, by decide +kernel⟩ (by kernel_rfl) rfl rfl (by decide +kernel) c5⟩
theorem in6 (o : PiOk Gn.π Hd.ms K mg) (c : He.SaysD [] Hd.fn K) : ∃ f fd ps, DefIn Gn.π ⟨K, clK Gn.π K⟩ Gn.T P w mg base 6 "tops_over" f fd ps := by
  obtain ⟨fd, F⟩ := c.def_ 6 (d := Hd.f6) rfl
  exact ⟨_, fd, ["bottom", "fractions"], o.fns _ (List.mem_of_getElem? (i := 6) rfl), F.kp, FunD.bindsN (ps := ["bottom", "fractions"]) F (fun _ _ _ _ _ _ us hl => match us, hl with | [_, _], _ => rfl), fun ks pm hm => absurd (List.mem_map.mpr ⟨_, hm, rfl⟩ : 6 ∈ Gn.π.kws.map (·.1)) (by decide), fun n W => def_ok (j := 6) (d := Gn.d6) (st := Gn.top 16) (N := ["bottom", "fractions", "name", "top", "under"]) (ps := ["bottom", "fractions"]) W F ⟨rfl, rfl, rfl, by decide +kernel, rfl, by decide +kernel, by decide +kernel⟩ (by kernel_rfl) rfl rfl (by decide +kernel) c6⟩
theorem in7 (o : PiOk Gn.π Hd.ms K mg) (c : He.SaysD [] Hd.fn K) : ∃ f fd ps, DefIn Gn.π ⟨K, clK Gn.π K⟩ Gn.T P w mg base 7 "integer_of" f fd ps := by
  obtain ⟨fd, F⟩ := c.def_ 7 (d := Hd.f7) rfl
  exact ⟨_, fd, ["word"], o.fns _ (List.mem_of_getElem? (i := 7) rfl), F.kp, FunD.bindsN (ps := ["word"]) F (fun _ _ _ _ _ _ us hl => match us, hl with | [_], _ => rfl), fun ks pm hm => absurd (List.mem_map.mpr ⟨_, hm, rfl⟩ : 7 ∈ Gn.π.kws.map (·.1)) (by decide), fun n W => def_ok (j := 7) (d := Gn.d7) (st := Gn.top 17) (N := ["word", "figures", "number"]) (ps := ["word"]) W F ⟨rfl, rfl, rfl, by decide +kernel, rfl, by decide +kernel, by decide +kernel⟩ (by kernel_rfl) rfl rfl (by decide +kernel) c7⟩
theorem in8 (o : PiOk Gn.π Hd.ms K mg) (c : He.SaysD [] Hd.fn K) : ∃ f fd ps, DefIn Gn.π ⟨K, clK Gn.π K⟩ Gn.T P w mg base 8 "fraction_of" f fd ps := by
  obtain ⟨fd, F⟩ := c.def_ 8 (d := Hd.f8) rfl
  exact ⟨_, fd, ["word"], o.fns _ (List.mem_of_getElem? (i := 8) rfl), F.kp, FunD.bindsN (ps := ["word"]) F (fun _ _ _ _ _ _ us hl => match us, hl with | [_], _ => rfl), fun ks pm hm => absurd (List.mem_map.mpr ⟨_, hm, rfl⟩ : 8 ∈ Gn.π.kws.map (·.1)) (by decide), fun n W => def_ok (j := 8) (d := Gn.d8) (st := Gn.top 18) (N := ["word", "fraction", "top", "slash", "bottom"]) (ps := ["word"]) W F ⟨rfl, rfl, rfl, by decide +kernel, rfl, by decide +kernel, by decide +kernel⟩ (by kernel_rfl) rfl rfl (by decide +kernel) c8⟩
theorem in9 (o : PiOk Gn.π Hd.ms K mg) (c : He.SaysD [] Hd.fn K) : ∃ f fd ps, DefIn Gn.π ⟨K, clK Gn.π K⟩ Gn.T P w mg base 9 "span_of" f fd ps := by
  obtain ⟨fd, F⟩ := c.def_ 9 (d := Hd.f9) rfl
  exact ⟨_, fd, ["word"], o.fns _ (List.mem_of_getElem? (i := 9) rfl), F.kp, FunD.bindsN (ps := ["word"]) F (fun _ _ _ _ _ _ us hl => match us, hl with | [_], _ => rfl), fun ks pm hm => absurd (List.mem_map.mpr ⟨_, hm, rfl⟩ : 9 ∈ Gn.π.kws.map (·.1)) (by decide), fun n W => def_ok (j := 9) (d := Gn.d9) (st := Gn.top 19) (N := ["word", "first", "last", "low", "dash", "high"]) (ps := ["word"]) W F ⟨rfl, rfl, rfl, by decide +kernel, rfl, by decide +kernel, by decide +kernel⟩ (by kernel_rfl) rfl rfl (by decide +kernel) c9⟩
theorem in10 (o : PiOk Gn.π Hd.ms K mg) (c : He.SaysD [] Hd.fn K) : ∃ f fd ps, DefIn Gn.π ⟨K, clK Gn.π K⟩ Gn.T P w mg base 10 "hours_of_spans" f fd ps := by
  obtain ⟨fd, F⟩ := c.def_ 10 (d := Hd.f10) rfl
  exact ⟨_, fd, ["words", "hours"], o.fns _ (List.mem_of_getElem? (i := 10) rfl), F.kp, FunD.bindsN (ps := ["words", "hours"]) F (fun _ _ _ _ _ _ us hl => match us, hl with | [_, _], _ => rfl), fun ks pm hm => absurd (List.mem_map.mpr ⟨_, hm, rfl⟩ : 10 ∈ Gn.π.kws.map (·.1)) (by decide), fun n W => def_ok (j := 10) (d := Gn.d10) (st := Gn.top 20) (N := ["words", "hours", "told", "word", "span", "free"]) (ps := ["words", "hours"]) W F ⟨rfl, rfl, rfl, by decide +kernel, rfl, by decide +kernel, by decide +kernel⟩ (by kernel_rfl) rfl rfl (by decide +kernel) c10⟩
theorem in11 (o : PiOk Gn.π Hd.ms K mg) (c : He.SaysD [] Hd.fn K) : ∃ f fd ps, DefIn Gn.π ⟨K, clK Gn.π K⟩ Gn.T P w mg base 11 "_head_of" f fd ps := by
  obtain ⟨fd, F⟩ := c.def_ 11 (d := Hd.f11) rfl
  exact ⟨_, fd, ["line"], o.fns _ (List.mem_of_getElem? (i := 11) rfl), F.kp, FunD.bindsN (ps := ["line"]) F (fun _ _ _ _ _ _ us hl => match us, hl with | [_], _ => rfl), fun ks pm hm => absurd (List.mem_map.mpr ⟨_, hm, rfl⟩ : 11 ∈ Gn.π.kws.map (·.1)) (by decide), fun n W => def_ok (j := 11) (d := Gn.d11) (st := Gn.top 27) (N := ["line", "words", "hours", "telescopes"]) (ps := ["line"]) W F ⟨rfl, rfl, rfl, by decide +kernel, rfl, by decide +kernel, by decide +kernel⟩ (by kernel_rfl) rfl rfl (by decide +kernel) c11⟩
theorem in12 (o : PiOk Gn.π Hd.ms K mg) (c : He.SaysD [] Hd.fn K) : ∃ f fd ps, DefIn Gn.π ⟨K, clK Gn.π K⟩ Gn.T P w mg base 12 "_kind_of" f fd ps := by
  obtain ⟨fd, F⟩ := c.def_ 12 (d := Hd.f12) rfl
  exact ⟨_, fd, ["line", "hours"], o.fns _ (List.mem_of_getElem? (i := 12) rfl), F.kp, FunD.bindsN (ps := ["line", "hours"]) F (fun _ _ _ _ _ _ us hl => match us, hl with | [_, _], _ => rfl), fun ks pm hm => absurd (List.mem_map.mpr ⟨_, hm, rfl⟩ : 12 ∈ Gn.π.kws.map (·.1)) (by decide), fun n W => def_ok (j := 12) (d := Gn.d12) (st := Gn.top 28) (N := ["line", "hours", "words", "amount", "told"]) (ps := ["line", "hours"]) W F ⟨rfl, rfl, rfl, by decide +kernel, rfl, by decide +kernel, by decide +kernel⟩ (by kernel_rfl) rfl rfl (by decide +kernel) c12⟩
theorem in13 (o : PiOk Gn.π Hd.ms K mg) (c : He.SaysD [] Hd.fn K) : ∃ f fd ps, DefIn Gn.π ⟨K, clK Gn.π K⟩ Gn.T P w mg base 13 "is_worth" f fd ps := by
  obtain ⟨fd, F⟩ := c.def_ 13 (d := Hd.f13) rfl
  exact ⟨_, fd, ["value"], o.fns _ (List.mem_of_getElem? (i := 13) rfl), F.kp, FunD.bindsN (ps := ["value"]) F (fun _ _ _ _ _ _ us hl => match us, hl with | [_], _ => rfl), fun ks pm hm => absurd (List.mem_map.mpr ⟨_, hm, rfl⟩ : 13 ∈ Gn.π.kws.map (·.1)) (by decide), fun n W => def_ok (j := 13) (d := Gn.d13) (st := Gn.top 29) (N := ["value"]) (ps := ["value"]) W F ⟨rfl, rfl, rfl, by decide +kernel, rfl, by decide +kernel, by decide +kernel⟩ (by kernel_rfl) rfl rfl (by decide +kernel) c13⟩
theorem in14 (o : PiOk Gn.π Hd.ms K mg) (c : He.SaysD [] Hd.fn K) : ∃ f fd ps, DefIn Gn.π ⟨K, clK Gn.π K⟩ Gn.T P w mg base 14 "is_kind" f fd ps := by
  obtain ⟨fd, F⟩ := c.def_ 14 (d := Hd.f14) rfl
  exact ⟨_, fd, ["book", "value"], o.fns _ (List.mem_of_getElem? (i := 14) rfl), F.kp, FunD.bindsN (ps := ["book", "value"]) F (fun _ _ _ _ _ _ us hl => match us, hl with | [_, _], _ => rfl), fun ks pm hm => absurd (List.mem_map.mpr ⟨_, hm, rfl⟩ : 14 ∈ Gn.π.kws.map (·.1)) (by decide), fun n W => def_ok (j := 14) (d := Gn.d14) (st := Gn.top 30) (N := ["book", "value"]) (ps := ["book", "value"]) W F ⟨rfl, rfl, rfl, by decide +kernel, rfl, by decide +kernel, by decide +kernel⟩ (by kernel_rfl) rfl rfl (by decide +kernel) c14⟩
theorem in15 (o : PiOk Gn.π Hd.ms K mg) (c : He.SaysD [] Hd.fn K) : ∃ f fd ps, DefIn Gn.π ⟨K, clK Gn.π K⟩ Gn.T P w mg base 15 "is_hour" f fd ps := by
  obtain ⟨fd, F⟩ := c.def_ 15 (d := Hd.f15) rfl
  exact ⟨_, fd, ["book", "value"], o.fns _ (List.mem_of_getElem? (i := 15) rfl), F.kp, FunD.bindsN (ps := ["book", "value"]) F (fun _ _ _ _ _ _ us hl => match us, hl with | [_, _], _ => rfl), fun ks pm hm => absurd (List.mem_map.mpr ⟨_, hm, rfl⟩ : 15 ∈ Gn.π.kws.map (·.1)) (by decide), fun n W => def_ok (j := 15) (d := Gn.d15) (st := Gn.top 31) (N := ["book", "value"]) (ps := ["book", "value"]) W F ⟨rfl, rfl, rfl, by decide +kernel, rfl, by decide +kernel, by decide +kernel⟩ (by kernel_rfl) rfl rfl (by decide +kernel) c15⟩
theorem in16 (o : PiOk Gn.π Hd.ms K mg) (c : He.SaysD [] Hd.fn K) : ∃ f fd ps, DefIn Gn.π ⟨K, clK Gn.π K⟩ Gn.T P w mg base 16 "check_kind" f fd ps := by
  obtain ⟨fd, F⟩ := c.def_ 16 (d := Hd.f16) rfl
  exact ⟨_, fd, ["book", "kind"], o.fns _ (List.mem_of_getElem? (i := 16) rfl), F.kp, FunD.bindsN (ps := ["book", "kind"]) F (fun _ _ _ _ _ _ us hl => match us, hl with | [_, _], _ => rfl), fun ks pm hm => absurd (List.mem_map.mpr ⟨_, hm, rfl⟩ : 16 ∈ Gn.π.kws.map (·.1)) (by decide), fun n W => def_ok (j := 16) (d := Gn.d16) (st := Gn.top 32) (N := ["book", "kind"]) (ps := ["book", "kind"]) W F ⟨rfl, rfl, rfl, by decide +kernel, rfl, by decide +kernel, by decide +kernel⟩ (by kernel_rfl) rfl rfl (by decide +kernel) c16⟩
theorem in17 (o : PiOk Gn.π Hd.ms K mg) (c : He.SaysD [] Hd.fn K) : ∃ f fd ps, DefIn Gn.π ⟨K, clK Gn.π K⟩ Gn.T P w mg base 17 "check_hour" f fd ps := by
  obtain ⟨fd, F⟩ := c.def_ 17 (d := Hd.f17) rfl
  exact ⟨_, fd, ["book", "hour"], o.fns _ (List.mem_of_getElem? (i := 17) rfl), F.kp, FunD.bindsN (ps := ["book", "hour"]) F (fun _ _ _ _ _ _ us hl => match us, hl with | [_, _], _ => rfl), fun ks pm hm => absurd (List.mem_map.mpr ⟨_, hm, rfl⟩ : 17 ∈ Gn.π.kws.map (·.1)) (by decide), fun n W => def_ok (j := 17) (d := Gn.d17) (st := Gn.top 33) (N := ["book", "hour"]) (ps := ["book", "hour"]) W F ⟨rfl, rfl, rfl, by decide +kernel, rfl, by decide +kernel, by decide +kernel⟩ (by kernel_rfl) rfl rfl (by decide +kernel) c17⟩
theorem in18 (o : PiOk Gn.π Hd.ms K mg) (c : He.SaysD [] Hd.fn K) : ∃ f fd ps, DefIn Gn.π ⟨K, clK Gn.π K⟩ Gn.T P w mg base 18 "worth" f fd ps := by
  obtain ⟨fd, F⟩ := c.def_ 18 (d := Hd.f18) rfl
  exact ⟨_, fd, ["book", "kind"], o.fns _ (List.mem_of_getElem? (i := 18) rfl), F.kp, FunD.bindsN (ps := ["book", "kind"]) F (fun _ _ _ _ _ _ us hl => match us, hl with | [_, _], _ => rfl), fun ks pm hm => absurd (List.mem_map.mpr ⟨_, hm, rfl⟩ : 18 ∈ Gn.π.kws.map (·.1)) (by decide), fun n W => def_ok (j := 18) (d := Gn.d18) (st := Gn.top 34) (N := ["book", "kind"]) (ps := ["book", "kind"]) W F ⟨rfl, rfl, rfl, by decide +kernel, rfl, by decide +kernel, by decide +kernel⟩ (by kernel_rfl) rfl rfl (by decide +kernel) c18⟩
theorem in19 (o : PiOk Gn.π Hd.ms K mg) (c : He.SaysD [] Hd.fn K) : ∃ f fd ps, DefIn Gn.π ⟨K, clK Gn.π K⟩ Gn.T P w mg base 19 "hours_of" f fd ps := by
  obtain ⟨fd, F⟩ := c.def_ 19 (d := Hd.f19) rfl
  exact ⟨_, fd, ["book", "kind"], o.fns _ (List.mem_of_getElem? (i := 19) rfl), F.kp, FunD.bindsN (ps := ["book", "kind"]) F (fun _ _ _ _ _ _ us hl => match us, hl with | [_, _], _ => rfl), fun ks pm hm => by
    simp only [Gn.π, List.mem_cons, Prod.mk.injEq, List.not_mem_nil, or_false] at hm
    rcases hm with ⟨e, h1, h2⟩ | ⟨e, h1, h2⟩ | ⟨e, h1, h2⟩
    · exact absurd e (by decide)
    · exact absurd e (by decide)
    · subst h1 h2; exact binds_of F fun _ _ _ _ _ _ us ws l1 l2 => match us, ws, l1, l2 with | [], [_, _], _, _ => rfl, fun n W => def_ok (j := 19) (d := Gn.d19) (st := Gn.top 35) (N := ["book", "kind"]) (ps := ["book", "kind"]) W F ⟨rfl, rfl, rfl, by decide +kernel, rfl, by decide +kernel, by decide +kernel⟩ (by kernel_rfl) rfl rfl (by decide +kernel) c19⟩
theorem in20 (o : PiOk Gn.π Hd.ms K mg) (c : He.SaysD [] Hd.fn K) : ∃ f fd ps, DefIn Gn.π ⟨K, clK Gn.π K⟩ Gn.T P w mg base 20 "up" f fd ps := by
  obtain ⟨fd, F⟩ := c.def_ 20 (d := Hd.f20) rfl
  exact ⟨_, fd, ["book", "hour"], o.fns _ (List.mem_of_getElem? (i := 20) rfl), F.kp, FunD.bindsN (ps := ["book", "hour"]) F (fun _ _ _ _ _ _ us hl => match us, hl with | [_, _], _ => rfl), fun ks pm hm => by
    simp only [Gn.π, List.mem_cons, Prod.mk.injEq, List.not_mem_nil, or_false] at hm
    rcases hm with ⟨e, h1, h2⟩ | ⟨e, h1, h2⟩ | ⟨e, h1, h2⟩
    · subst h1 h2; exact binds_of F fun _ _ _ _ _ _ us ws l1 l2 => match us, ws, l1, l2 with | [], [_, _], _, _ => rfl
    · exact absurd e (by decide)
    · exact absurd e (by decide), fun n W => def_ok (j := 20) (d := Gn.d20) (st := Gn.top 36) (N := ["book", "hour", "name"]) (ps := ["book", "hour"]) W F ⟨rfl, rfl, rfl, by decide +kernel, rfl, by decide +kernel, by decide +kernel⟩ (by kernel_rfl) rfl rfl (by decide +kernel) c20⟩
theorem in21 (o : PiOk Gn.π Hd.ms K mg) (c : He.SaysD [] Hd.fn K) : ∃ f fd ps, DefIn Gn.π ⟨K, clK Gn.π K⟩ Gn.T P w mg base 21 "later" f fd ps := by
  obtain ⟨fd, F⟩ := c.def_ 21 (d := Hd.f21) rfl
  exact ⟨_, fd, ["book", "kind", "hour"], o.fns _ (List.mem_of_getElem? (i := 21) rfl), F.kp, FunD.bindsN (ps := ["book", "kind", "hour"]) F (fun _ _ _ _ _ _ us hl => match us, hl with | [_, _, _], _ => rfl), fun ks pm hm => by
    simp only [Gn.π, List.mem_cons, Prod.mk.injEq, List.not_mem_nil, or_false] at hm
    rcases hm with ⟨e, h1, h2⟩ | ⟨e, h1, h2⟩ | ⟨e, h1, h2⟩
    · exact absurd e (by decide)
    · subst h1 h2; exact binds_of F fun _ _ _ _ _ _ us ws l1 l2 => match us, ws, l1, l2 with | [], [_, _, _], _, _ => rfl
    · exact absurd e (by decide), fun n W => def_ok (j := 21) (d := Gn.d21) (st := Gn.top 37) (N := ["book", "kind", "hour", "own"]) (ps := ["book", "kind", "hour"]) W F ⟨rfl, rfl, rfl, by decide +kernel, rfl, by decide +kernel, by decide +kernel⟩ (by kernel_rfl) rfl rfl (by decide +kernel) c21⟩
theorem in22 (o : PiOk Gn.π Hd.ms K mg) (c : He.SaysD [] Hd.fn K) : ∃ f fd ps, DefIn Gn.π ⟨K, clK Gn.π K⟩ Gn.T P w mg base 22 "_law_pot" f fd ps := by
  obtain ⟨fd, F⟩ := c.def_ 22 (d := Hd.f22) rfl
  exact ⟨_, fd, ["script", "at"], o.fns _ (List.mem_of_getElem? (i := 22) rfl), F.kp, FunD.bindsN (ps := ["script", "at"]) F (fun _ _ _ _ _ _ us hl => match us, hl with | [_, _], _ => rfl), fun ks pm hm => absurd (List.mem_map.mpr ⟨_, hm, rfl⟩ : 22 ∈ Gn.π.kws.map (·.1)) (by decide), fun n W => def_ok (j := 22) (d := Gn.d22) (st := Gn.top 39) (N := ["script", "at", "cell", "own", "small"]) (ps := ["script", "at"]) W F ⟨rfl, rfl, rfl, by decide +kernel, rfl, by decide +kernel, by decide +kernel⟩ (by kernel_rfl) rfl rfl (by decide +kernel) c22⟩
theorem in23 (o : PiOk Gn.π Hd.ms K mg) (c : He.SaysD [] Hd.fn K) : ∃ f fd ps, DefIn Gn.π ⟨K, clK Gn.π K⟩ Gn.T P w mg base 23 "_law_take" f fd ps := by
  obtain ⟨fd, F⟩ := c.def_ 23 (d := Hd.f23) rfl
  exact ⟨_, fd, ["pot", "upto"], o.fns _ (List.mem_of_getElem? (i := 23) rfl), F.kp, FunD.bindsN (ps := ["pot", "upto"]) F (fun _ _ _ _ _ _ us hl => match us, hl with | [_, _], _ => rfl), fun ks pm hm => absurd (List.mem_map.mpr ⟨_, hm, rfl⟩ : 23 ∈ Gn.π.kws.map (·.1)) (by decide), fun n W => def_ok (j := 23) (d := Gn.d23) (st := Gn.top 40) (N := ["pot", "upto", "prime", "blend", "digit"]) (ps := ["pot", "upto"]) W F ⟨rfl, rfl, rfl, by decide +kernel, rfl, by decide +kernel, by decide +kernel⟩ (by kernel_rfl) rfl rfl (by decide +kernel) c23⟩
theorem in24 (o : PiOk Gn.π Hd.ms K mg) (c : He.SaysD [] Hd.fn K) : ∃ f fd ps, DefIn Gn.π ⟨K, clK Gn.π K⟩ Gn.T P w mg base 24 "_law_of" f fd ps := by
  obtain ⟨fd, F⟩ := c.def_ 24 (d := Hd.f24) rfl
  exact ⟨_, fd, ["pot", "some"], o.fns _ (List.mem_of_getElem? (i := 24) rfl), F.kp, FunD.bindsN (ps := ["pot", "some"]) F (fun _ _ _ _ _ _ us hl => match us, hl with | [_, _], _ => rfl), fun ks pm hm => absurd (List.mem_map.mpr ⟨_, hm, rfl⟩ : 24 ∈ Gn.π.kws.map (·.1)) (by decide), fun n W => def_ok (j := 24) (d := Gn.d24) (st := Gn.top 41) (N := ["pot", "some"]) (ps := ["pot", "some"]) W F ⟨rfl, rfl, rfl, by decide +kernel, rfl, by decide +kernel, by decide +kernel⟩ (by kernel_rfl) rfl rfl (by decide +kernel) c24⟩
theorem in25 (o : PiOk Gn.π Hd.ms K mg) (c : He.SaysD [] Hd.fn K) : ∃ f fd ps, DefIn Gn.π ⟨K, clK Gn.π K⟩ Gn.T P w mg base 25 "_law_some" f fd ps := by
  obtain ⟨fd, F⟩ := c.def_ 25 (d := Hd.f25) rfl
  exact ⟨_, fd, ["pot", "pool", "many"], o.fns _ (List.mem_of_getElem? (i := 25) rfl), F.kp, FunD.bindsN (ps := ["pot", "pool", "many"]) F (fun _ _ _ _ _ _ us hl => match us, hl with | [_, _, _], _ => rfl), fun ks pm hm => absurd (List.mem_map.mpr ⟨_, hm, rfl⟩ : 25 ∈ Gn.π.kws.map (·.1)) (by decide), fun n W => def_ok (j := 25) (d := Gn.d25) (st := Gn.top 42) (N := ["pot", "pool", "many", "lap", "rests", "found"]) (ps := ["pot", "pool", "many"]) W F ⟨rfl, rfl, rfl, by decide +kernel, rfl, by decide +kernel, by decide +kernel⟩ (by kernel_rfl) rfl rfl (by decide +kernel) c25⟩
theorem in26 (o : PiOk Gn.π Hd.ms K mg) (c : He.SaysD [] Hd.fn K) : ∃ f fd ps, DefIn Gn.π ⟨K, clK Gn.π K⟩ Gn.T P w mg base 26 "_law_cells" f fd ps := by
  obtain ⟨fd, F⟩ := c.def_ 26 (d := Hd.f26) rfl
  exact ⟨_, fd, ["script", "most"], o.fns _ (List.mem_of_getElem? (i := 26) rfl), F.kp, FunD.bindsN (ps := ["script", "most"]) F (fun _ _ _ _ _ _ us hl => match us, hl with | [_, _], _ => rfl), fun ks pm hm => absurd (List.mem_map.mpr ⟨_, hm, rfl⟩ : 26 ∈ Gn.π.kws.map (·.1)) (by decide), fun n W => def_ok (j := 26) (d := Gn.d26) (st := Gn.top 43) (N := ["script", "most"]) (ps := ["script", "most"]) W F ⟨rfl, rfl, rfl, by decide +kernel, rfl, by decide +kernel, by decide +kernel⟩ (by kernel_rfl) rfl rfl (by decide +kernel) c26⟩
theorem in27 (o : PiOk Gn.π Hd.ms K mg) (c : He.SaysD [] Hd.fn K) : ∃ f fd ps, DefIn Gn.π ⟨K, clK Gn.π K⟩ Gn.T P w mg base 27 "_law_frac_is_less" f fd ps := by
  obtain ⟨fd, F⟩ := c.def_ 27 (d := Hd.f27) rfl
  exact ⟨_, fd, ["one", "other"], o.fns _ (List.mem_of_getElem? (i := 27) rfl), F.kp, FunD.bindsN (ps := ["one", "other"]) F (fun _ _ _ _ _ _ us hl => match us, hl with | [_, _], _ => rfl), fun ks pm hm => absurd (List.mem_map.mpr ⟨_, hm, rfl⟩ : 27 ∈ Gn.π.kws.map (·.1)) (by decide), fun n W => def_ok (j := 27) (d := Gn.d27) (st := Gn.top 44) (N := ["one", "other"]) (ps := ["one", "other"]) W F ⟨rfl, rfl, rfl, by decide +kernel, rfl, by decide +kernel, by decide +kernel⟩ (by kernel_rfl) rfl rfl (by decide +kernel) c27⟩
theorem in28 (o : PiOk Gn.π Hd.ms K mg) (c : He.SaysD [] Hd.fn K) : ∃ f fd ps, DefIn Gn.π ⟨K, clK Gn.π K⟩ Gn.T P w mg base 28 "_law_frac_text" f fd ps := by
  obtain ⟨fd, F⟩ := c.def_ 28 (d := Hd.f28) rfl
  exact ⟨_, fd, ["one"], o.fns _ (List.mem_of_getElem? (i := 28) rfl), F.kp, FunD.bindsN (ps := ["one"]) F (fun _ _ _ _ _ _ us hl => match us, hl with | [_], _ => rfl), fun ks pm hm => absurd (List.mem_map.mpr ⟨_, hm, rfl⟩ : 28 ∈ Gn.π.kws.map (·.1)) (by decide), fun n W => def_ok (j := 28) (d := Gn.d28) (st := Gn.top 45) (N := ["one"]) (ps := ["one"]) W F ⟨rfl, rfl, rfl, by decide +kernel, rfl, by decide +kernel, by decide +kernel⟩ (by kernel_rfl) rfl rfl (by decide +kernel) c28⟩
theorem in29 (o : PiOk Gn.π Hd.ms K mg) (c : He.SaysD [] Hd.fn K) : ∃ f fd ps, DefIn Gn.π ⟨K, clK Gn.π K⟩ Gn.T P w mg base 29 "_law_book_spans" f fd ps := by
  obtain ⟨fd, F⟩ := c.def_ 29 (d := Hd.f29) rfl
  exact ⟨_, fd, ["hours"], o.fns _ (List.mem_of_getElem? (i := 29) rfl), F.kp, FunD.bindsN (ps := ["hours"]) F (fun _ _ _ _ _ _ us hl => match us, hl with | [_], _ => rfl), fun ks pm hm => absurd (List.mem_map.mpr ⟨_, hm, rfl⟩ : 29 ∈ Gn.π.kws.map (·.1)) (by decide), fun n W => def_ok (j := 29) (d := Gn.d29) (st := Gn.top 46) (N := ["hours", "found", "hour", "row"]) (ps := ["hours"]) W F ⟨rfl, rfl, rfl, by decide +kernel, rfl, by decide +kernel, by decide +kernel⟩ (by kernel_rfl) rfl rfl (by decide +kernel) c29⟩
theorem in30 (o : PiOk Gn.π Hd.ms K mg) (c : He.SaysD [] Hd.fn K) : ∃ f fd ps, DefIn Gn.π ⟨K, clK Gn.π K⟩ Gn.T P w mg base 30 "_law_book_line" f fd ps := by
  obtain ⟨fd, F⟩ := c.def_ 30 (d := Hd.f30) rfl
  exact ⟨_, fd, ["kind"], o.fns _ (List.mem_of_getElem? (i := 30) rfl), F.kp, FunD.bindsN (ps := ["kind"]) F (fun _ _ _ _ _ _ us hl => match us, hl with | [_], _ => rfl), fun ks pm hm => absurd (List.mem_map.mpr ⟨_, hm, rfl⟩ : 30 ∈ Gn.π.kws.map (·.1)) (by decide), fun n W => def_ok (j := 30) (d := Gn.d30) (st := Gn.top 47) (N := ["kind"]) (ps := ["kind"]) W F ⟨rfl, rfl, rfl, by decide +kernel, rfl, by decide +kernel, by decide +kernel⟩ (by kernel_rfl) rfl rfl (by decide +kernel) c30⟩
theorem in31 (o : PiOk Gn.π Hd.ms K mg) (c : He.SaysD [] Hd.fn K) : ∃ f fd ps, DefIn Gn.π ⟨K, clK Gn.π K⟩ Gn.T P w mg base 31 "_law_book_text" f fd ps := by
  obtain ⟨fd, F⟩ := c.def_ 31 (d := Hd.f31) rfl
  exact ⟨_, fd, ["own"], o.fns _ (List.mem_of_getElem? (i := 31) rfl), F.kp, FunD.bindsN (ps := ["own"]) F (fun _ _ _ _ _ _ us hl => match us, hl with | [_], _ => rfl), fun ks pm hm => absurd (List.mem_map.mpr ⟨_, hm, rfl⟩ : 31 ∈ Gn.π.kws.map (·.1)) (by decide), fun n W => def_ok (j := 31) (d := Gn.d31) (st := Gn.top 48) (N := ["own", "head", "kind"]) (ps := ["own"]) W F ⟨rfl, rfl, rfl, by decide +kernel, rfl, by decide +kernel, by decide +kernel⟩ (by kernel_rfl) rfl rfl (by decide +kernel) c31⟩
theorem in32 (o : PiOk Gn.π Hd.ms K mg) (c : He.SaysD [] Hd.fn K) : ∃ f fd ps, DefIn Gn.π ⟨K, clK Gn.π K⟩ Gn.T P w mg base 32 "_law_book_names" f fd ps := by
  obtain ⟨fd, F⟩ := c.def_ 32 (d := Hd.f32) rfl
  exact ⟨_, fd, ["own"], o.fns _ (List.mem_of_getElem? (i := 32) rfl), F.kp, FunD.bindsN (ps := ["own"]) F (fun _ _ _ _ _ _ us hl => match us, hl with | [_], _ => rfl), fun ks pm hm => absurd (List.mem_map.mpr ⟨_, hm, rfl⟩ : 32 ∈ Gn.π.kws.map (·.1)) (by decide), fun n W => def_ok (j := 32) (d := Gn.d32) (st := Gn.top 49) (N := ["own", "name", "amount", "hours"]) (ps := ["own"]) W F ⟨rfl, rfl, rfl, by decide +kernel, rfl, by decide +kernel, by decide +kernel⟩ (by kernel_rfl) rfl rfl (by decide +kernel) c32⟩
theorem in33 (o : PiOk Gn.π Hd.ms K mg) (c : He.SaysD [] Hd.fn K) : ∃ f fd ps, DefIn Gn.π ⟨K, clK Gn.π K⟩ Gn.T P w mg base 33 "_law_book_kind" f fd ps := by
  obtain ⟨fd, F⟩ := c.def_ 33 (d := Hd.f33) rfl
  exact ⟨_, fd, ["own", "name"], o.fns _ (List.mem_of_getElem? (i := 33) rfl), F.kp, FunD.bindsN (ps := ["own", "name"]) F (fun _ _ _ _ _ _ us hl => match us, hl with | [_, _], _ => rfl), fun ks pm hm => absurd (List.mem_map.mpr ⟨_, hm, rfl⟩ : 33 ∈ Gn.π.kws.map (·.1)) (by decide), fun n W => def_ok (j := 33) (d := Gn.d33) (st := Gn.top 50) (N := ["own", "name", "kind"]) (ps := ["own", "name"]) W F ⟨rfl, rfl, rfl, by decide +kernel, rfl, by decide +kernel, by decide +kernel⟩ (by kernel_rfl) rfl rfl (by decide +kernel) c33⟩
theorem in34 (o : PiOk Gn.π Hd.ms K mg) (c : He.SaysD [] Hd.fn K) : ∃ f fd ps, DefIn Gn.π ⟨K, clK Gn.π K⟩ Gn.T P w mg base 34 "_law_book_worth" f fd ps := by
  obtain ⟨fd, F⟩ := c.def_ 34 (d := Hd.f34) rfl
  exact ⟨_, fd, ["own", "name"], o.fns _ (List.mem_of_getElem? (i := 34) rfl), F.kp, FunD.bindsN (ps := ["own", "name"]) F (fun _ _ _ _ _ _ us hl => match us, hl with | [_, _], _ => rfl), fun ks pm hm => absurd (List.mem_map.mpr ⟨_, hm, rfl⟩ : 34 ∈ Gn.π.kws.map (·.1)) (by decide), fun n W => def_ok (j := 34) (d := Gn.d34) (st := Gn.top 51) (N := ["own", "name"]) (ps := ["own", "name"]) W F ⟨rfl, rfl, rfl, by decide +kernel, rfl, by decide +kernel, by decide +kernel⟩ (by kernel_rfl) rfl rfl (by decide +kernel) c34⟩
theorem in35 (o : PiOk Gn.π Hd.ms K mg) (c : He.SaysD [] Hd.fn K) : ∃ f fd ps, DefIn Gn.π ⟨K, clK Gn.π K⟩ Gn.T P w mg base 35 "_law_book_hours" f fd ps := by
  obtain ⟨fd, F⟩ := c.def_ 35 (d := Hd.f35) rfl
  exact ⟨_, fd, ["own", "name"], o.fns _ (List.mem_of_getElem? (i := 35) rfl), F.kp, FunD.bindsN (ps := ["own", "name"]) F (fun _ _ _ _ _ _ us hl => match us, hl with | [_, _], _ => rfl), fun ks pm hm => absurd (List.mem_map.mpr ⟨_, hm, rfl⟩ : 35 ∈ Gn.π.kws.map (·.1)) (by decide), fun n W => def_ok (j := 35) (d := Gn.d35) (st := Gn.top 52) (N := ["own", "name"]) (ps := ["own", "name"]) W F ⟨rfl, rfl, rfl, by decide +kernel, rfl, by decide +kernel, by decide +kernel⟩ (by kernel_rfl) rfl rfl (by decide +kernel) c35⟩
theorem in36 (o : PiOk Gn.π Hd.ms K mg) (c : He.SaysD [] Hd.fn K) : ∃ f fd ps, DefIn Gn.π ⟨K, clK Gn.π K⟩ Gn.T P w mg base 36 "_law_book_later" f fd ps := by
  obtain ⟨fd, F⟩ := c.def_ 36 (d := Hd.f36) rfl
  exact ⟨_, fd, ["own", "name", "hour"], o.fns _ (List.mem_of_getElem? (i := 36) rfl), F.kp, FunD.bindsN (ps := ["own", "name", "hour"]) F (fun _ _ _ _ _ _ us hl => match us, hl with | [_, _, _], _ => rfl), fun ks pm hm => absurd (List.mem_map.mpr ⟨_, hm, rfl⟩ : 36 ∈ Gn.π.kws.map (·.1)) (by decide), fun n W => def_ok (j := 36) (d := Gn.d36) (st := Gn.top 53) (N := ["own", "name", "hour", "one"]) (ps := ["own", "name", "hour"]) W F ⟨rfl, rfl, rfl, by decide +kernel, rfl, by decide +kernel, by decide +kernel⟩ (by kernel_rfl) rfl rfl (by decide +kernel) c36⟩
theorem in37 (o : PiOk Gn.π Hd.ms K mg) (c : He.SaysD [] Hd.fn K) : ∃ f fd ps, DefIn Gn.π ⟨K, clK Gn.π K⟩ Gn.T P w mg base 37 "_law_book_up" f fd ps := by
  obtain ⟨fd, F⟩ := c.def_ 37 (d := Hd.f37) rfl
  exact ⟨_, fd, ["own", "hour"], o.fns _ (List.mem_of_getElem? (i := 37) rfl), F.kp, FunD.bindsN (ps := ["own", "hour"]) F (fun _ _ _ _ _ _ us hl => match us, hl with | [_, _], _ => rfl), fun ks pm hm => absurd (List.mem_map.mpr ⟨_, hm, rfl⟩ : 37 ∈ Gn.π.kws.map (·.1)) (by decide), fun n W => def_ok (j := 37) (d := Gn.d37) (st := Gn.top 54) (N := ["own", "hour", "name", "amount", "hours"]) (ps := ["own", "hour"]) W F ⟨rfl, rfl, rfl, by decide +kernel, rfl, by decide +kernel, by decide +kernel⟩ (by kernel_rfl) rfl rfl (by decide +kernel) c37⟩
theorem in38 (o : PiOk Gn.π Hd.ms K mg) (c : He.SaysD [] Hd.fn K) : ∃ f fd ps, DefIn Gn.π ⟨K, clK Gn.π K⟩ Gn.T P w mg base 38 "_law_book_worth_drawn" f fd ps := by
  obtain ⟨fd, F⟩ := c.def_ 38 (d := Hd.f38) rfl
  exact ⟨_, fd, ["pot"], o.fns _ (List.mem_of_getElem? (i := 38) rfl), F.kp, FunD.bindsN (ps := ["pot"]) F (fun _ _ _ _ _ _ us hl => match us, hl with | [_], _ => rfl), fun ks pm hm => absurd (List.mem_map.mpr ⟨_, hm, rfl⟩ : 38 ∈ Gn.π.kws.map (·.1)) (by decide), fun n W => def_ok (j := 38) (d := Gn.d38) (st := Gn.top 55) (N := ["pot"]) (ps := ["pot"]) W F ⟨rfl, rfl, rfl, by decide +kernel, rfl, by decide +kernel, by decide +kernel⟩ (by kernel_rfl) rfl rfl (by decide +kernel) c38⟩
theorem in39 (o : PiOk Gn.π Hd.ms K mg) (c : He.SaysD [] Hd.fn K) : ∃ f fd ps, DefIn Gn.π ⟨K, clK Gn.π K⟩ Gn.T P w mg base 39 "_law_book_some_hours" f fd ps := by
  obtain ⟨fd, F⟩ := c.def_ 39 (d := Hd.f39) rfl
  exact ⟨_, fd, ["pot", "hours"], o.fns _ (List.mem_of_getElem? (i := 39) rfl), F.kp, FunD.bindsN (ps := ["pot", "hours"]) F (fun _ _ _ _ _ _ us hl => match us, hl with | [_, _], _ => rfl), fun ks pm hm => absurd (List.mem_map.mpr ⟨_, hm, rfl⟩ : 39 ∈ Gn.π.kws.map (·.1)) (by decide), fun n W => def_ok (j := 39) (d := Gn.d39) (st := Gn.top 56) (N := ["pot", "hours", "found", "hour"]) (ps := ["pot", "hours"]) W F ⟨rfl, rfl, rfl, by decide +kernel, rfl, by decide +kernel, by decide +kernel⟩ (by kernel_rfl) rfl rfl (by decide +kernel) c39⟩
theorem in40 (o : PiOk Gn.π Hd.ms K mg) (c : He.SaysD [] Hd.fn K) : ∃ f fd ps, DefIn Gn.π ⟨K, clK Gn.π K⟩ Gn.T P w mg base 40 "_law_book_agreeing_drawn" f fd ps := by
  obtain ⟨fd, F⟩ := c.def_ 40 (d := Hd.f40) rfl
  exact ⟨_, fd, ["pot", "hours", "telescopes", "many"], o.fns _ (List.mem_of_getElem? (i := 40) rfl), F.kp, FunD.bindsN (ps := ["pot", "hours", "telescopes", "many"]) F (fun _ _ _ _ _ _ us hl => match us, hl with | [_, _, _, _], _ => rfl), fun ks pm hm => absurd (List.mem_map.mpr ⟨_, hm, rfl⟩ : 40 ∈ Gn.π.kws.map (·.1)) (by decide), fun n W => def_ok (j := 40) (d := Gn.d40) (st := Gn.top 57) (N := ["pot", "hours", "telescopes", "many", "amounts", "names", "kinds", "rows", "here", "least", "amount", "lap", "name", "its"]) (ps := ["pot", "hours", "telescopes", "many"]) W F ⟨rfl, rfl, rfl, by decide +kernel, rfl, by decide +kernel, by decide +kernel⟩ (by kernel_rfl) rfl rfl (by decide +kernel) c40⟩
theorem in41 (o : PiOk Gn.π Hd.ms K mg) (c : He.SaysD [] Hd.fn K) : ∃ f fd ps, DefIn Gn.π ⟨K, clK Gn.π K⟩ Gn.T P w mg base 41 "_law_book_any_drawn" f fd ps := by
  obtain ⟨fd, F⟩ := c.def_ 41 (d := Hd.f41) rfl
  exact ⟨_, fd, ["pot", "hours", "telescopes", "many"], o.fns _ (List.mem_of_getElem? (i := 41) rfl), F.kp, FunD.bindsN (ps := ["pot", "hours", "telescopes", "many"]) F (fun _ _ _ _ _ _ us hl => match us, hl with | [_, _, _, _], _ => rfl), fun ks pm hm => absurd (List.mem_map.mpr ⟨_, hm, rfl⟩ : 41 ∈ Gn.π.kws.map (·.1)) (by decide), fun n W => def_ok (j := 41) (d := Gn.d41) (st := Gn.top 58) (N := ["pot", "hours", "telescopes", "many", "name", "names", "kinds"]) (ps := ["pot", "hours", "telescopes", "many"]) W F ⟨rfl, rfl, rfl, by decide +kernel, rfl, by decide +kernel, by decide +kernel⟩ (by kernel_rfl) rfl rfl (by decide +kernel) c41⟩
theorem in42 (o : PiOk Gn.π Hd.ms K mg) (c : He.SaysD [] Hd.fn K) : ∃ f fd ps, DefIn Gn.π ⟨K, clK Gn.π K⟩ Gn.T P w mg base 42 "_law_book_drawn" f fd ps := by
  obtain ⟨fd, F⟩ := c.def_ 42 (d := Hd.f42) rfl
  exact ⟨_, fd, ["pot"], o.fns _ (List.mem_of_getElem? (i := 42) rfl), F.kp, FunD.bindsN (ps := ["pot"]) F (fun _ _ _ _ _ _ us hl => match us, hl with | [_], _ => rfl), fun ks pm hm => absurd (List.mem_map.mpr ⟨_, hm, rfl⟩ : 42 ∈ Gn.π.kws.map (·.1)) (by decide), fun n W => def_ok (j := 42) (d := Gn.d42) (st := Gn.top 59) (N := ["pot", "hours", "telescopes", "many"]) (ps := ["pot"]) W F ⟨rfl, rfl, rfl, by decide +kernel, rfl, by decide +kernel, by decide +kernel⟩ (by kernel_rfl) rfl rfl (by decide +kernel) c42⟩
theorem in43 (o : PiOk Gn.π Hd.ms K mg) (c : He.SaysD [] Hd.fn K) : ∃ f fd ps, DefIn Gn.π ⟨K, clK Gn.π K⟩ Gn.T P w mg base 43 "_law_is" f fd ps := by
  obtain ⟨fd, F⟩ := c.def_ 43 (d := Hd.f43) rfl
  exact ⟨_, fd, ["told", "due"], o.fns _ (List.mem_of_getElem? (i := 43) rfl), F.kp, FunD.bindsN (ps := ["told", "due"]) F (fun _ _ _ _ _ _ us hl => match us, hl with | [_, _], _ => rfl), fun ks pm hm => absurd (List.mem_map.mpr ⟨_, hm, rfl⟩ : 43 ∈ Gn.π.kws.map (·.1)) (by decide), fun n W => def_ok (j := 43) (d := Gn.d43) (st := Gn.top 60) (N := ["told", "due", "is_fit", "one", "other"]) (ps := ["told", "due"]) W F ⟨rfl, rfl, rfl, by decide +kernel, rfl, by decide +kernel, by decide +kernel⟩ (by kernel_rfl) rfl rfl (by decide +kernel) c43⟩
theorem in44 (o : PiOk Gn.π Hd.ms K mg) (c : He.SaysD [] Hd.fn K) : ∃ f fd ps, DefIn Gn.π ⟨K, clK Gn.π K⟩ Gn.T P w mg base 44 "_law_book_any" f fd ps := by
  obtain ⟨fd, F⟩ := c.def_ 44 (d := Hd.f44) rfl
  exact ⟨_, fd, ["pot"], o.fns _ (List.mem_of_getElem? (i := 44) rfl), F.kp, FunD.bindsN (ps := ["pot"]) F (fun _ _ _ _ _ _ us hl => match us, hl with | [_], _ => rfl), fun ks pm hm => absurd (List.mem_map.mpr ⟨_, hm, rfl⟩ : 44 ∈ Gn.π.kws.map (·.1)) (by decide), fun n W => def_ok (j := 44) (d := Gn.d44) (st := Gn.top 61) (N := ["pot", "hours", "many"]) (ps := ["pot"]) W F ⟨rfl, rfl, rfl, by decide +kernel, rfl, by decide +kernel, by decide +kernel⟩ (by kernel_rfl) rfl rfl (by decide +kernel) c44⟩
theorem in45 (o : PiOk Gn.π Hd.ms K mg) (c : He.SaysD [] Hd.fn K) : ∃ f fd ps, DefIn Gn.π ⟨K, clK Gn.π K⟩ Gn.T P w mg base 45 "_law_are_kinds_right" f fd ps := by
  obtain ⟨fd, F⟩ := c.def_ 45 (d := Hd.f45) rfl
  exact ⟨_, fd, ["own", "book"], o.fns _ (List.mem_of_getElem? (i := 45) rfl), F.kp, FunD.bindsN (ps := ["own", "book"]) F (fun _ _ _ _ _ _ us hl => match us, hl with | [_, _], _ => rfl), fun ks pm hm => absurd (List.mem_map.mpr ⟨_, hm, rfl⟩ : 45 ∈ Gn.π.kws.map (·.1)) (by decide), fun n W => def_ok (j := 45) (d := Gn.d45) (st := Gn.top 62) (N := ["own", "book", "name", "due", "hour"]) (ps := ["own", "book"]) W F ⟨rfl, rfl, rfl, by decide +kernel, rfl, by decide +kernel, by decide +kernel⟩ (by kernel_rfl) rfl rfl (by decide +kernel) c45⟩
theorem in46 (o : PiOk Gn.π Hd.ms K mg) (c : He.SaysD [] Hd.fn K) : ∃ f fd ps, DefIn Gn.π ⟨K, clK Gn.π K⟩ Gn.T P w mg base 46 "_law_right" f fd ps := by
  obtain ⟨fd, F⟩ := c.def_ 46 (d := Hd.f46) rfl
  exact ⟨_, fd, ["pot"], o.fns _ (List.mem_of_getElem? (i := 46) rfl), F.kp, FunD.bindsN (ps := ["pot"]) F (fun _ _ _ _ _ _ us hl => match us, hl with | [_], _ => rfl), fun ks pm hm => absurd (List.mem_map.mpr ⟨_, hm, rfl⟩ : 46 ∈ Gn.π.kws.map (·.1)) (by decide), fun n W => def_ok (j := 46) (d := Gn.d46) (st := Gn.top 63) (N := ["pot", "lap", "own", "text", "due", "rows", "other", "book", "again"]) (ps := ["pot"]) W F ⟨rfl, rfl, rfl, by decide +kernel, rfl, by decide +kernel, by decide +kernel⟩ (by kernel_rfl) rfl rfl (by decide +kernel) c46⟩
theorem in47 (o : PiOk Gn.π Hd.ms K mg) (c : He.SaysD [] Hd.fn K) : ∃ f fd ps, DefIn Gn.π ⟨K, clK Gn.π K⟩ Gn.T P w mg base 47 "law" f fd ps := by
  obtain ⟨fd, F⟩ := c.def_ 47 (d := Hd.f47) rfl
  exact ⟨_, fd, ["script"], o.fns _ (List.mem_of_getElem? (i := 47) rfl), F.kp, FunD.bindsN (ps := ["script"]) F (fun _ _ _ _ _ _ us hl => match us, hl with | [_], _ => rfl), fun ks pm hm => absurd (List.mem_map.mpr ⟨_, hm, rfl⟩ : 47 ∈ Gn.π.kws.map (·.1)) (by decide), fun n W => def_ok (j := 47) (d := Gn.d47) (st := Gn.top 64) (N := ["script", "at"]) (ps := ["script"]) W F ⟨rfl, rfl, rfl, by decide +kernel, rfl, by decide +kernel, by decide +kernel⟩ (by kernel_rfl) rfl rfl (by decide +kernel) c47⟩
theorem me48 (o : PiOk Gn.π Hd.ms K mg) (c : He.SaysD [] Hd.fn K) : ∃ f fd ps, MethIn Gn.π ⟨K, clK Gn.π K⟩ Gn.T P w mg base 0 "__eq__" 48 f fd ps := by
  obtain ⟨fd, F⟩ := c.def_ 48 (d := Hd.f48) rfl
  exact ⟨_, fd, ["self", "other"], o.ms 0 "__eq__" (List.mem_of_getElem? (i := 0) rfl) "Book" rfl, FunD.bindsN (ps := ["self", "other"]) F (fun _ _ _ _ _ _ us hl => match us, hl with | [_, _], _ => rfl), fun n W => def_ok (j := 48) (d := Gn.d48) (st := Gn.meth (Gn.top 26) 1) (N := ["self", "other"]) (ps := ["self", "other"]) W F ⟨rfl, rfl, rfl, by decide +kernel, rfl, by decide +kernel, by decide +kernel⟩ (by kernel_rfl) rfl rfl (by decide +kernel) c48⟩
theorem me49 (o : PiOk Gn.π Hd.ms K mg) (c : He.SaysD [] Hd.fn K) : ∃ f fd ps, MethIn Gn.π ⟨K, clK Gn.π K⟩ Gn.T P w mg base 0 "__len__" 49 f fd ps := by
  obtain ⟨fd, F⟩ := c.def_ 49 (d := Hd.f49) rfl
  exact ⟨_, fd, ["self"], o.ms 0 "__len__" (List.mem_of_getElem? (i := 1) rfl) "Book" rfl, FunD.bindsN (ps := ["self"]) F (fun _ _ _ _ _ _ us hl => match us, hl with | [_], _ => rfl), fun n W => def_ok (j := 49) (d := Gn.d49) (st := Gn.meth (Gn.top 26) 2) (N := ["self"]) (ps := ["self"]) W F ⟨rfl, rfl, rfl, by decide +kernel, rfl, by decide +kernel, by decide +kernel⟩ (by kernel_rfl) rfl rfl (by decide +kernel) c49⟩
theorem ini0 (o : PiOk Gn.π Hd.ms K mg) (c : He.SaysD [] Hd.fn K) : ∃ f fd ps, ClsIn Gn.π ⟨K, clK Gn.π K⟩ Gn.T P w mg base 0 "Book" f fd ps := by
  obtain ⟨fd, F⟩ := c.def_ 50 (d := Hd.f50) rfl
  obtain ⟨q1, q2, q3⟩ := o.clx 0 "Book" rfl
  exact ⟨_, fd, ["self", "text"], q2, q1, q3, FunD.bindsN (ps := ["self", "text"]) F (fun _ _ _ _ _ _ us hl => match us, hl with | [_, _], _ => rfl), fun ks hm => by
    simp only [Gn.π, Gn.π, List.mem_cons, Prod.mk.injEq, List.not_mem_nil, or_false] at hm
    rcases hm with ⟨e, h1⟩
    · subst h1; exact binds_mk F fun _ _ _ _ _ _ us ws l1 l2 => match us, ws, l1, l2 with | [_], [_], _, _ => rfl, fun n W => cls_ok (j := 0) (ci := Gn.ci0) (st := Gn.meth (Gn.top 26) 0) (N := ["self", "text", "lines", "head", "number", "line", "kind", "name", "amount", "hours"]) (ps := ["self", "text"]) W F ⟨rfl, rfl, rfl, by decide +kernel, rfl, by decide +kernel, by decide +kernel⟩ (by kernel_rfl) rfl rfl rfl (fun f hf => o.atts 0 f ((by decide : ∀ f ∈ Gn.ci0.flds, (0, f) ∈ Gn.π.atts) f hf)) ck0 fun vs H Q E z => mk_len (ci := Gn.ci0) (by kernel_rfl) z⟩
theorem tops (o : PiOk Gn.π Hd.ms K mg) (c : He.SaysD [] Hd.fn K) : Tops Gn.π ⟨K, clK Gn.π K⟩ Gn.T P w mg base where
  free := o.free
  glos := o.glos
  gbl := o.gbl
  atts := o.atts
  eqx := fun j hj => Option.isSome_iff_exists.mp ((by decide : ∀ j ∈ Gn.π.eqc, (eqT Gn.T j).isSome = true) j hj)
  lnx := fun j hj => Option.isSome_iff_exists.mp ((by decide : ∀ j ∈ Gn.π.lnc, (lnT Gn.T j).isSome = true) j hj)
  defs := fun j nm h => match j, nm, h with
    | 0, _, h => by cases (show some (Str.ofString "is_integer") = some _ from h); exact in0 o c
    | 1, _, h => by cases (show some (Str.ofString "is_within") = some _ from h); exact in1 o c
    | 2, _, h => by cases (show some (Str.ofString "is_pair") = some _ from h); exact in2 o c
    | 3, _, h => by cases (show some (Str.ofString "is_fraction") = some _ from h); exact in3 o c
    | 4, _, h => by cases (show some (Str.ofString "is_name") = some _ from h); exact in4 o c
    | 5, _, h => by cases (show some (Str.ofString "shared_bottom") = some _ from h); exact in5 o c
    | 6, _, h => by cases (show some (Str.ofString "tops_over") = some _ from h); exact in6 o c
    | 7, _, h => by cases (show some (Str.ofString "integer_of") = some _ from h); exact in7 o c
    | 8, _, h => by cases (show some (Str.ofString "fraction_of") = some _ from h); exact in8 o c
    | 9, _, h => by cases (show some (Str.ofString "span_of") = some _ from h); exact in9 o c
    | 10, _, h => by cases (show some (Str.ofString "hours_of_spans") = some _ from h); exact in10 o c
    | 11, _, h => by cases (show some (Str.ofString "_head_of") = some _ from h); exact in11 o c
    | 12, _, h => by cases (show some (Str.ofString "_kind_of") = some _ from h); exact in12 o c
    | 13, _, h => by cases (show some (Str.ofString "is_worth") = some _ from h); exact in13 o c
    | 14, _, h => by cases (show some (Str.ofString "is_kind") = some _ from h); exact in14 o c
    | 15, _, h => by cases (show some (Str.ofString "is_hour") = some _ from h); exact in15 o c
    | 16, _, h => by cases (show some (Str.ofString "check_kind") = some _ from h); exact in16 o c
    | 17, _, h => by cases (show some (Str.ofString "check_hour") = some _ from h); exact in17 o c
    | 18, _, h => by cases (show some (Str.ofString "worth") = some _ from h); exact in18 o c
    | 19, _, h => by cases (show some (Str.ofString "hours_of") = some _ from h); exact in19 o c
    | 20, _, h => by cases (show some (Str.ofString "up") = some _ from h); exact in20 o c
    | 21, _, h => by cases (show some (Str.ofString "later") = some _ from h); exact in21 o c
    | 22, _, h => by cases (show some (Str.ofString "_law_pot") = some _ from h); exact in22 o c
    | 23, _, h => by cases (show some (Str.ofString "_law_take") = some _ from h); exact in23 o c
    | 24, _, h => by cases (show some (Str.ofString "_law_of") = some _ from h); exact in24 o c
    | 25, _, h => by cases (show some (Str.ofString "_law_some") = some _ from h); exact in25 o c
    | 26, _, h => by cases (show some (Str.ofString "_law_cells") = some _ from h); exact in26 o c
    | 27, _, h => by cases (show some (Str.ofString "_law_frac_is_less") = some _ from h); exact in27 o c
    | 28, _, h => by cases (show some (Str.ofString "_law_frac_text") = some _ from h); exact in28 o c
    | 29, _, h => by cases (show some (Str.ofString "_law_book_spans") = some _ from h); exact in29 o c
    | 30, _, h => by cases (show some (Str.ofString "_law_book_line") = some _ from h); exact in30 o c
    | 31, _, h => by cases (show some (Str.ofString "_law_book_text") = some _ from h); exact in31 o c
    | 32, _, h => by cases (show some (Str.ofString "_law_book_names") = some _ from h); exact in32 o c
    | 33, _, h => by cases (show some (Str.ofString "_law_book_kind") = some _ from h); exact in33 o c
    | 34, _, h => by cases (show some (Str.ofString "_law_book_worth") = some _ from h); exact in34 o c
    | 35, _, h => by cases (show some (Str.ofString "_law_book_hours") = some _ from h); exact in35 o c
    | 36, _, h => by cases (show some (Str.ofString "_law_book_later") = some _ from h); exact in36 o c
    | 37, _, h => by cases (show some (Str.ofString "_law_book_up") = some _ from h); exact in37 o c
    | 38, _, h => by cases (show some (Str.ofString "_law_book_worth_drawn") = some _ from h); exact in38 o c
    | 39, _, h => by cases (show some (Str.ofString "_law_book_some_hours") = some _ from h); exact in39 o c
    | 40, _, h => by cases (show some (Str.ofString "_law_book_agreeing_drawn") = some _ from h); exact in40 o c
    | 41, _, h => by cases (show some (Str.ofString "_law_book_any_drawn") = some _ from h); exact in41 o c
    | 42, _, h => by cases (show some (Str.ofString "_law_book_drawn") = some _ from h); exact in42 o c
    | 43, _, h => by cases (show some (Str.ofString "_law_is") = some _ from h); exact in43 o c
    | 44, _, h => by cases (show some (Str.ofString "_law_book_any") = some _ from h); exact in44 o c
    | 45, _, h => by cases (show some (Str.ofString "_law_are_kinds_right") = some _ from h); exact in45 o c
    | 46, _, h => by cases (show some (Str.ofString "_law_right") = some _ from h); exact in46 o c
    | 47, _, h => by cases (show some (Str.ofString "law") = some _ from h); exact in47 o c
    | n + 48, _, h => nomatch (show (none : Option Str) = some _ from h)
  clss := fun j nm h => match j, nm, h with
    | 0, _, h => by cases (show some (Str.ofString "Book") = some _ from h); exact ini0 o c
    | n + 1, _, h => nomatch (show (none : Option Str) = some _ from h)
  eqs := fun j i h => match j, i, h with
    | 0, _, h => by cases (show some 48 = some _ from h); exact me48 o c
    | n + 1, _, h => nomatch (show (none : Option Nat) = some _ from h)
  lns := fun j i h => match j, i, h with
    | 0, _, h => by cases (show some 49 = some _ from h); exact me49 o c
    | n + 1, _, h => nomatch (show (none : Option Nat) = some _ from h)
end
theorem law_of (n : Nat) (hr : L2.Room (n + 1) callerA) (hrun : ∀ ns : List Int, ns.length ≤ 63 → ∃ os, Vf.call Gn.T (n + 1) 47 [.lst (ns.map .int)] = .ok ((false, .bl true), os)) : PySem.Challenge.rw_wheneverclear_k00_texts_of_books.Holds := by
  open PySem PySem.W PySem.Calls PyProof.Rows in
  w_on
  open PySem PySem.W PySem.Calls PyProof.Rows in
  o_law
  refine HandSHeadRun.head_imp (r := PySem.W.OpenLaw.row PySem.Challenge.rw_wheneverclear_k00_texts_of_books) (q := Hd.qv) (H := Hd.hk) (ob := Hd.ob) (M := 3000) (loose := Hd.loose) (d := HandSHeadRun.topDef (PySem.W.OpenLaw.row PySem.Challenge.rw_wheneverclear_k00_texts_of_books).prog 64) (kwd := []) Hd.ob_eq Hd.run
    (by kernel_rfl) (by kernel_rfl) (by kernel_rfl) (by rfl) (by first | assumption | decide +kernel) (by decide +kernel) ⟨rfl, rfl, rfl, rfl, rfl, by decide +kernel⟩ ?hw ?hc
  case hw => w_witness2
  case hc =>
    refine Vf.walk_ofX (l := PySem.Challenge.rw_wheneverclear_k00_texts_of_books) (n := 63) (k := n + 1) (x := "script") rfl (by decide) (by kernel_rfl) hr ?F
    intro w mg fa h Y G hmg0
    obtain ⟨K, KX, c0⟩ := Y
    obtain ⟨c, cx⟩ := Vf.SaysX.d c0
    have o : PiOk Gn.π Hd.ms K mg := Vf.piB_ok KX G cx
    have hmg : mg ("law" : PySem.Str) = some (.ref fa) := by
      have e : (HandSHeadRun.topDef (PySem.W.OpenLaw.row PySem.Challenge.rw_wheneverclear_k00_texts_of_books).prog 64).name = ("law" : PySem.Str) := by kernel_rfl
      rw [← e]
      exact hmg0
    obtain ⟨fd, F⟩ := c.def_ 47 (d := Hd.f47) rfl
    have z := hmg.symm.trans (o.fns ("law" : PySem.Str) (List.mem_of_getElem? (i := 47) rfl))
    cases z
    have b := FunD.bindsA (ps := ["script"]) F fun _ _ _ _ _ _ us hl => match us, hl with | [_], _ => rfl
    refine ⟨K, fd, spF ⟨K, clK Gn.π K⟩ (fsT Gn.T (n + 1)) 47, KX, fun s u => b s [u] rfl, fun H a ns hl hS => ?_, fun base => ?_⟩
    · obtain ⟨os, e⟩ := hrun ns hl
      exact law_sp (k := ⟨K, clK Gn.π K⟩) rfl hS e
    · exact def_ok (j := 47) (d := Gn.d47) (st := Gn.top 64) (N := ["script", "at"]) (ps := ["script"]) (prog_ok (tops o c) n) F ⟨rfl, rfl, rfl, by decide +kernel, rfl, by decide +kernel, by decide +kernel⟩ (by kernel_rfl) rfl rfl (by decide +kernel) c47

end Asm
end
section
namespace Pu
open PySem hiding fresh Env
open L2 Vf Gn Pv
theorem ino0 : inoT T 0 = [false] := rfl
theorem ino1 : inoT T 1 = [false, false, false] := rfl
theorem ino2 : inoT T 2 = [false] := rfl
theorem ino3 : inoT T 3 = [false] := rfl
theorem ino4 : inoT T 4 = [false] := rfl
theorem ino5 : inoT T 5 = [false] := rfl
theorem ino6 : inoT T 6 = [false, false] := rfl
theorem ino7 : inoT T 7 = [false] := rfl
theorem ino8 : inoT T 8 = [false] := rfl
theorem ino9 : inoT T 9 = [false] := rfl
theorem ino10 : inoT T 10 = [false, false] := rfl
theorem ino11 : inoT T 11 = [false] := rfl
theorem ino12 : inoT T 12 = [false, false] := rfl
theorem ino13 : inoT T 13 = [false] := rfl
theorem ino14 : inoT T 14 = [false, false] := rfl
theorem ino15 : inoT T 15 = [false, false] := rfl
theorem ino16 : inoT T 16 = [false, false] := rfl
theorem ino17 : inoT T 17 = [false, false] := rfl
theorem ino18 : inoT T 18 = [false, false] := rfl
theorem ino19 : inoT T 19 = [false, false] := rfl
theorem ino20 : inoT T 20 = [false, false] := rfl
theorem ino21 : inoT T 21 = [false, false, false] := rfl
theorem ino22 : inoT T 22 = [false, false] := rfl
theorem ino23 : inoT T 23 = [true, false] := rfl
theorem ino24 : inoT T 24 = [true, false] := rfl
theorem ino25 : inoT T 25 = [true, false, false] := rfl
theorem ino26 : inoT T 26 = [false, false] := rfl
theorem ino27 : inoT T 27 = [false, false] := rfl
theorem ino28 : inoT T 28 = [false] := rfl
theorem ino29 : inoT T 29 = [false] := rfl
theorem ino30 : inoT T 30 = [false] := rfl
theorem ino31 : inoT T 31 = [false] := rfl
theorem ino32 : inoT T 32 = [false] := rfl
theorem ino33 : inoT T 33 = [false, false] := rfl
theorem ino34 : inoT T 34 = [false, false] := rfl
theorem ino35 : inoT T 35 = [false, false] := rfl
theorem ino36 : inoT T 36 = [false, false, false] := rfl
theorem ino37 : inoT T 37 = [false, false] := rfl
theorem ino38 : inoT T 38 = [true] := rfl
theorem ino39 : inoT T 39 = [true, false] := rfl
theorem ino40 : inoT T 40 = [true, false, false, false] := rfl
theorem ino41 : inoT T 41 = [true, false, false, false] := rfl
theorem ino42 : inoT T 42 = [true] := rfl
theorem ino43 : inoT T 43 = [false, false] := rfl
theorem ino44 : inoT T 44 = [true] := rfl
theorem ino45 : inoT T 45 = [false, false] := rfl
theorem ino46 : inoT T 46 = [true] := rfl
theorem ino47 : inoT T 47 = [false] := rfl
theorem ino48 : inoT T 48 = [false, false] := rfl
theorem ino49 : inoT T 49 = [false] := rfl
end Pu
end
section
namespace Pu
open PySem hiding fresh Env
open L2 Vf Gn Pv PyProof.Rows
def Pot (n : Nat) (d : D) : Prop := ∃ a b c : Int, d = .lst [.int a, .int b, .int c] ∧ 0 ≤ a ∧ 0 ≤ b ∧ b < 2305843009213693921 ∧ 0 ≤ c ∧ c ≤ n
theorem Pot.up {n m : Nat} {d : D} (h : Pot n d) (k : n ≤ m) : Pot m d := by
  obtain ⟨a, b, c, e, h1, h2, h3, h4, h5⟩ := h
  exact ⟨a, b, c, e, h1, h2, h3, h4, by omega⟩
theorem at30 (x y z : D) : atI [x, y, z] 0 = some x := rfl
theorem at31 (x y z : D) : atI [x, y, z] 1 = some y := rfl
theorem at32 (x y z : D) : atI [x, y, z] 2 = some z := rfl
theorem pu0 (x y z v : D) : putL1 (.int 0) v (.lst [x, y, z]) = some (.lst [v, y, z]) := rfl
theorem pu2 (x y z v : D) : putL1 (.int 2) v (.lst [x, y, z]) = some (.lst [x, y, v]) := rfl
theorem prime5 (x : Int) : ∃ p : Int, atI [D.int 2147483647, D.int 2147483629, D.int 2147483587, D.int 2147483579, D.int 2147483563] (x.fmod 5) = some (D.int p) ∧ 0 < p ∧ p < 2147483648 := by
  have h0 := Int.fmod_nonneg_of_pos x (b := 5) (by omega)
  have h1 := Int.fmod_lt_of_pos x (b := 5) (by omega)
  generalize x.fmod 5 = m at *
  have : m = 0 ∨ m = 1 ∨ m = 2 ∨ m = 3 ∨ m = 4 := by omega
  rcases this with rfl | rfl | rfl | rfl | rfl
  · exact ⟨2147483647, rfl, by decide, by decide⟩
  · exact ⟨2147483629, rfl, by decide, by decide⟩
  · exact ⟨2147483587, rfl, by decide, by decide⟩
  · exact ⟨2147483579, rfl, by decide, by decide⟩
  · exact ⟨2147483563, rfl, by decide, by decide⟩
theorem pow_big {x : Int} (h0 : 0 ≤ x) (h1 : x < 2 ^ 200) : x.natAbs < 2 ^ 4096 := by
  have : x.natAbs < 2 ^ 200 := by omega
  exact Nat.lt_of_lt_of_le this (Nat.pow_le_pow_right (by decide) (by decide))
end Pu
end
section
namespace Pu
open PySem hiding fresh Env
open L2 Vf Gn Pv PyProof.Rows
local macro_rules
  | `(tactic| simp_arith! [$ls,*]) => `(tactic| simp -implicitDefEqProofs (disch := (have := Pv.sz24; omega)) only [↓Pv.ckP, ↓Pv.chkP, Pv.nd1, Pv.nd2, Int.reducePow, Pv.sz24, Int.reduceEq, Int.reduceNe, Int.reduceLT, Int.reduceLE, Int.reduceAdd, Int.reduceSub, Nat.reduceEqDiff, Nat.reducePow, Nat.reduceLeDiff, Nat.reduceLT, Nat.reduceMul, Int.reduceToNat, Int.reduceNeg, decide_true, decide_false, ↓Pv.toB, ↓Pv.toF, ↓Pv.toL, ↓Pv.toW, Pv.bI_ok, Pv.bI_as, reduceCtorEq, ne_eq, not_false_eq_true, and_self, and_true, true_and, or_true, true_or, Pv.fs_inoE, runDef, env0, evalS, evalE, evalEs, evalAs, inoA, getAs, Arg.get, backAs, inoIx, opd, readV, Pv.g0, Pv.gS, Pv.s0, Pv.sS, Op.get, Cn.d, R.of_some,  Pv.chkT, Pv.ckT, vw, Vf.fresh, outs, bindP, Pv.moF, Pv.moL, Pv.moD, part?, wipeE, backE,
  Pv.b_le, Pv.b_lt, Pv.b_ge, Pv.b_gt, Pv.b_add, Pv.b_sub, Pv.b_adds, Pv.b_addl, Pv.b_mul, Pv.b_fdiv, Pv.b_mod, Pv.b_gcd, Pv.b_ixl, Pv.b_ixt, Pv.b_max, Pv.b_min, Pv.u_lens, Pv.u_lenl, Pv.u_lent, Pv.u_int, Pv.u_intb, Pv.u_abs, Pv.b_pow, Pv.b_eqd, Pv.b_ned, Pv.u_str, Pv.u_neg, Pv.u_lst, Pv.u_tup, Pv.u_lrng, Pv.u_isn, isNonD, isOwnL, isOwnD, mods, opB, cndB, src, Pv.e_ii, Pv.e_bb, Pv.t_bl, Pv.t_int, Pv.t_lst, Pv.t_tup, Pv.t_non, isT,
  List.length_cons, List.length_nil, List.zip_cons_cons, List.zip_nil_left, List.zip_nil_right, List.map_cons, List.map_nil, List.cons_append, List.nil_append, List.replicate, Nat.sub_self, Nat.reduceAdd, Nat.reduceSub, List.append_nil, List.nodup_nil, eq_self,
  Option.map_some, Option.bind_some, Bool.false_eq_true, Bool.true_eq_false, if_true, if_false, reduceIte, Bool.not_true, Bool.not_false, $ls,*])
theorem take_ok (n k : Nat) (hk : k < 2 ^ 40) {d : D} (h : Pot k d) (u : Int) (hu : 0 < u) (hv : u < 1073741824) :
    Ok ((fsT T (n + 1)).run 23 [d, .int u]) fun r => ∃ t d', r = ((false, .int t), [d']) ∧ 0 ≤ t ∧ t < u ∧ Pot (k + 1) d' := by
  obtain ⟨a, b, c, rfl, ha, hb, hb', hc, hc'⟩ := h
  have u0 : u ≠ 0 := by omega
  have u1 : u.natAbs < 1073741824 := by omega
  rw [run_def (d := d23) rfl]
  by_cases h : 0 < a
  · simp_arith! [d23, b23, at30, at31, at32, pu0, pu2, h, decide_true, u0, u1]
    exact .ret ⟨a.fmod u, .lst [.int (a.fdiv u), .int b, .int c], rfl, Int.fmod_nonneg_of_pos _ hu, Int.fmod_lt_of_pos _ hu, a.fdiv u, b, c, rfl, Int.fdiv_nonneg ha (by omega), hb, hb', hc, by omega⟩
  · have c1 : (c + 1).natAbs < 18446744073709551616 := by omega
    obtain ⟨p, hp, p0, p1⟩ := prime5 (c + 1)
    have hp' : p ≠ 0 := by omega
    have bound : b + 97459 * (c + 1) * (c + 1) + 601 < 2 ^ 200 ∧ 0 ≤ b + 97459 * (c + 1) * (c + 1) + 601 := by
      have h1 : 97459 * (c + 1) ≤ 97459 * 1099511627777 := by omega
      have h2 : 97459 * (c + 1) * (c + 1) ≤ (97459 * 1099511627777) * 1099511627777 := Int.mul_le_mul h1 (by omega) (by omega) (by omega)
      have h3 : 0 ≤ 97459 * (c + 1) * (c + 1) := Int.mul_nonneg (by omega) (by omega)
      generalize 97459 * (c + 1) * (c + 1) = z at *
      constructor <;> omega
    have pb := pow_big bound.2 bound.1
    generalize hz : b + 97459 * (c + 1) * (c + 1) + 601 = z at *
    have q0 := Int.fmod_nonneg_of_pos (z ^ 3) p0
    have q1 := Int.fmod_lt_of_pos (z ^ 3) p0
    have g1 : ((z ^ 3).fmod p).natAbs < 18446744073709551616 := by
      clear pb hz bound
      generalize (z ^ 3).fmod p = y at *
      omega
    have l1 : (97459 : Int).natAbs < 18446744073709551616 := by decide
    have l2 : (167 : Int).natAbs < 18446744073709551616 := by decide
    have l3 : (167 : Int).natAbs < 1073741824 := by decide
    have tn : (3 : Int).toNat = 3 := rfl
    have n3 : (0 : Int) ≤ 3 ∧ (3 : Int) ≤ 1000 := by decide
    simp_arith! [d23, b23, at30, at31, at32, pu0, pu2, h, decide_false, u0, u1, c1, hp, hp', hz, pb, g1, l1, l2, l3, tn, n3]

    exact .ret ⟨_, .lst [.int a, .int b, .int (c + 1)], rfl, Int.fmod_nonneg_of_pos _ hu, Int.fmod_lt_of_pos _ hu, a, b, c + 1, rfl, ha, hb, hb', by omega, by omega⟩
end Pu
end
section
namespace Pu
open PySem hiding fresh Env
open L2 Vf Gn Pv PyProof.Rows
local macro_rules
  | `(tactic| simp_arith! [$ls,*]) => `(tactic| simp -implicitDefEqProofs (disch := (have := Pv.sz24; omega)) only [↓Pv.ckP, ↓Pv.chkP, Pv.nd1, Pv.nd2, Int.reducePow, Pv.sz24, Int.reduceEq, Int.reduceNe, Int.reduceLT, Int.reduceLE, Int.reduceAdd, Int.reduceSub, Nat.reduceEqDiff, Nat.reducePow, Nat.reduceLeDiff, Nat.reduceLT, Nat.reduceMul, Int.reduceToNat, Int.reduceNeg, decide_true, decide_false, ↓Pv.toB, ↓Pv.toF, ↓Pv.toL, ↓Pv.toW, Pv.bI_ok, Pv.bI_as, reduceCtorEq, ne_eq, not_false_eq_true, and_self, and_true, true_and, or_true, true_or, Pv.fs_inoE, runDef, env0, evalS, evalE, evalEs, evalAs, inoA, getAs, Arg.get, backAs, inoIx, opd, readV, Pv.g0, Pv.gS, Pv.s0, Pv.sS, Op.get, Cn.d, R.of_some,  Pv.chkT, Pv.ckT, vw, Vf.fresh, outs, bindP, Pv.moF, Pv.moL, Pv.moD, part?, wipeE, backE,
  Pv.b_le, Pv.b_lt, Pv.b_ge, Pv.b_gt, Pv.b_add, Pv.b_sub, Pv.b_adds, Pv.b_addl, Pv.b_mul, Pv.b_fdiv, Pv.b_mod, Pv.b_gcd, Pv.b_ixl, Pv.b_ixt, Pv.b_max, Pv.b_min, Pv.u_lens, Pv.u_lenl, Pv.u_lent, Pv.u_int, Pv.u_intb, Pv.u_abs, Pv.b_pow, Pv.b_eqd, Pv.b_ned, Pv.u_str, Pv.u_neg, Pv.u_lst, Pv.u_tup, Pv.u_lrng, Pv.u_isn, isNonD, isOwnL, isOwnD, mods, opB, cndB, src, Pv.e_ii, Pv.e_bb, Pv.t_bl, Pv.t_int, Pv.t_lst, Pv.t_tup, Pv.t_non, isT,
  List.length_cons, List.length_nil, List.zip_cons_cons, List.zip_nil_left, List.zip_nil_right, List.map_cons, List.map_nil, List.cons_append, List.nil_append, List.replicate, Nat.sub_self, Nat.reduceAdd, Nat.reduceSub, List.append_nil, List.nodup_nil, eq_self,
  Option.map_some, Option.bind_some, Bool.false_eq_true, Bool.true_eq_false, if_true, if_false, reduceIte, Bool.not_true, Bool.not_false, ino0, ino1, ino2, ino3, ino4, ino5, ino6, ino7, ino8, ino9, ino10, ino11, ino12, ino13, ino14, ino15, ino16, ino17, ino18, ino19, ino20, ino21, ino22, ino23, ino24, ino25, ino26, ino27, ino28, ino29, ino30, ino31, ino32, ino33, ino34, ino35, ino36, ino37, ino38, ino39, ino40, ino41, ino42, ino43, ino44, ino45, ino46, ino47, ino48, ino49, part?, $ls,*])
theorem atI_nat {α : Type} {xs : List α} {i : Nat} (h : i < xs.length) : atI xs (i : Int) = some xs[i] := by
  unfold atI ixN
  rw [if_pos (by omega), if_pos (by omega), Option.bind_some, Int.toNat_natCast, List.getElem?_eq_getElem h]
theorem atI_mem {α : Type} {xs : List α} {t : Int} (h0 : 0 ≤ t) (h1 : t < xs.length) : ∃ x ∈ xs, atI xs t = some x := by
  obtain ⟨i, rfl⟩ := Int.eq_ofNat_of_zero_le h0
  have hi : i < xs.length := by omega
  exact ⟨xs[i], List.getElem_mem hi, atI_nat hi⟩
theorem of_ok (n k : Nat) (hk : k < 2 ^ 40) {d : D} (h : Pot k d) (xs : List D) (h0 : xs ≠ []) (h1 : xs.length < 1000000) :
    Ok ((fsT T (n + 2)).run 24 [d, .lst xs]) fun r => ∃ x d', r = ((false, x), [d']) ∧ x ∈ xs ∧ Pot (k + 1) d' := by
  have : 0 < xs.length := List.length_pos_iff.mpr h0
  rw [run_def (d := d24) rfl]
  simp_arith! [d24, b24]
  refine Ok.bind (take_ok n k hk h _ (by omega) (by omega)) ?_
  rintro _ ⟨t, d', rfl, t0, t1, hp⟩
  obtain ⟨x, hx, e⟩ := atI_mem t0 t1
  simp_arith! [e]
  exact .ret ⟨x, d', rfl, hx, hp⟩
theorem len_rng (lo : Int) (m : Nat) : (rngD lo m).length = m := by unfold rngD; simp
theorem er_perm {α : Type} : ∀ (l : List α) (i : Nat) (h : i < l.length), (l[i] :: l.eraseIdx i).Perm l
  | x :: l, 0, _ => .refl _
  | x :: l, i + 1, h => by
    have := er_perm l i (by simpa using h)
    simp only [List.getElem_cons_succ, List.eraseIdx_cons_succ]
    exact (List.Perm.swap _ _ _).trans (List.Perm.cons x this)
theorem pop_at (rest : List D) (i : Nat) (hi : i < rest.length) (e : ixN rest.length (i : Int) = some i) (b1 : -(2 ^ 63 : Int) ≤ (i : Int)) (b2 : (i : Int) < 2 ^ 63) : pop1 (.lst rest) (.int i) = some (rest[i], .lst (rest.eraseIdx i)) := by
  unfold pop1
  dsimp only
  rw [e, Option.bind_some, List.getElem?_eq_getElem hi, Option.bind_some, if_pos ⟨b1, b2⟩]
theorem pop_ok {rest : List D} {t : Int} (h0 : 0 ≤ t) (h1 : t < rest.length) (h2 : rest.length < 1000000) : ∃ x r, pop1 (.lst rest) (.int t) = some (x, .lst r) ∧ (x :: r).Perm rest := by
  obtain ⟨i, rfl⟩ := Int.eq_ofNat_of_zero_le h0
  have hi : i < rest.length := by omega
  refine ⟨rest[i], rest.eraseIdx i, ?_, er_perm rest i hi⟩
  have e : ixN rest.length (i : Int) = some i := by
    unfold ixN
    rw [if_pos (by omega), if_pos (by omega), Int.toNat_natCast]
  exact pop_at rest i hi e (by omega) (by omega)
theorem app1P {x : D} {ys : List D} (h : ys.length < sizeLine) : app1 x (.lst ys) = some (.lst (ys ++ [x])) := if_pos h
theorem dEq_nn : dEq (.lst []) (.lst []) = some true := rfl
theorem rng_at {m : Int} {i : Nat} {x : D} (h : (rngD 0 m.toNat)[i]? = some x) : (i : Int) < m ∧ x = .int i := by
  have := (List.getElem?_eq_some_iff.mp h).1
  rw [len_rng] at this
  refine ⟨by omega, ?_⟩
  unfold rngD at h
  rw [List.getElem?_map, List.getElem?_range this] at h
  simp at h
  exact h.symm
theorem some_ok (n k : Nat) (hk : k < 2 ^ 39) {d : D} (h : Pot k d) (xs : List D) (m : Nat) (h1 : m ≤ xs.length) (h2 : xs.length < 1000) :
    Ok ((fsT T (n + 2)).run 25 [d, .lst xs, .int m]) fun r => ∃ ys rest d', r = ((true, .lst ys), [d']) ∧ ys.length = m ∧ (ys ++ rest).Perm xs ∧ Pot (k + m) d' := by
  rw [run_def (d := d25) rfl]
  simp_arith! [d25, b25]
  refine Ok.bind (forO (fun i env => ∃ lap ys rest d', env = [some (.ino, d'), some (.sh, .lst xs), some (.sh, .int m), lap, some (.own, .lst rest), some (.own, .lst ys)] ∧ ys.length = i ∧ (ys ++ rest).Perm xs ∧ Pot (k + i) d') ?_ ?_) ?_
  · exact ⟨none, [], xs, d, rfl, rfl, List.Perm.refl _, h⟩
  · rintro i x env hx ⟨lap, ys, rest, d', rfl, hl, hp, hq⟩
    obtain ⟨hi, rfl⟩ := rng_at hx
    have hL := hp.length_eq
    rw [List.length_append] at hL
    simp_arith! []
    refine Ok.bind (take_ok (n := n) (k := k + i) (by omega) hq _ (by omega) (by omega)) ?_
    rintro _ ⟨t, d'', rfl, t0, t1, hp'⟩
    obtain ⟨y, r, e, hy⟩ := pop_ok t0 t1 (by omega)
    simp_arith! [e, app1P]
    refine Ok.ret ?_
    refine ⟨_, .inl rfl, _, ys ++ [y], r, d'', rfl, ?_, ?_, hp'⟩
    · rw [List.length_append]; simp; omega
    · rw [List.append_assoc]
      exact (List.Perm.append_left ys (by simpa using hy)).trans hp
  · rintro _ ⟨env, rfl, lap, ys, rest, d', rfl, hl, hp, hq⟩
    rw [len_rng, Int.toNat_natCast] at hl hq
    simp_arith! []
    exact .ret ⟨ys, rest, d', rfl, hl, hp, hq⟩
def aD (p : Int × Int) : D := .tup [.int p.1, .int p.2]
def amts0 : List (Int × Int) := [(1, 1), (2, 1), (3, 1), (1, 2), (3, 2), (5, 1), (2, 3), (1, 1), (7, 3)]
def amts : List (Int × Int) := amts0 ++ [(1000, 1), (1, 1000), (999, 1000)]
theorem worth_ok (n k : Nat) (hk : k < 2 ^ 39) {d : D} (h : Pot k d) : Ok ((fsT T (n + 3)).run 38 [d]) fun r => ∃ p ∈ amts, ∃ d', r = ((false, aD p), [d']) ∧ Pot (k + 1) d' := by
  rw [run_def (d := d38) rfl]
  simp_arith! [d38, b38]
  refine Ok.bind (of_ok n k (by omega) h (amts0.map aD) (by decide) (by decide)) ?_
  rintro _ ⟨x, d', rfl, hx, hp⟩
  obtain ⟨p, hp1, rfl⟩ := List.mem_map.mp hx
  simp_arith! []
  exact .ret ⟨p, List.mem_append_left _ hp1, d', rfl, hp⟩
theorem dEq_shaped {x y : D} {p q : PyData} (h1 : toP x = some p) (h2 : toP y = some q) (h3 : PyData.canLay0 p = true) (h4 : PyData.canLay0 q = true) (h5 : PyData.depth p ≤ 64) (h6 : PyData.depth q ≤ 64) : dEq x y = some (p.eqv q) := by
  unfold dEq
  rw [h1, h2]
  exact if_pos ⟨Bool.and_eq_true_iff.mpr ⟨h3, decide_eq_true h5⟩, Bool.and_eq_true_iff.mpr ⟨h4, decide_eq_true h6⟩⟩
theorem dEq_ints0 (l : List Int) : dEq (.lst (l.map .int)) (.lst []) = some l.isEmpty := by
  obtain ⟨h1, h2⟩ := lay_ints l
  rw [dEq_shaped (p := .list (l.map .int)) (q := .list []) (by rw [toP, toP_ints]; rfl) rfl (by rw [PyData.canLay0, h1]) rfl (by rw [PyData.depth, h2]; decide) (by decide)]
  cases l <;> rfl
theorem filt {hs : List Int} : ∀ {os : List (Option D)}, All2 (fun x o => o = some x ∨ o = none) (hs.map D.int) os → ∃ rs : List Int, rs.Sublist hs ∧ os.filterMap id = rs.map .int := by
  induction hs with
  | nil => intro os h; cases h; exact ⟨[], .slnil, rfl⟩
  | cons x hs ih =>
    intro os h
    rw [List.map_cons] at h
    cases h with
    | cons h1 h2 =>
      obtain ⟨rs, q1, q2⟩ := ih h2
      rcases h1 with rfl | rfl
      · exact ⟨x :: rs, .cons₂ x q1, by simp [q2]⟩
      · exact ⟨rs, .cons x q1, by simp [q2]⟩
theorem hours_ok (n k : Nat) (hk : k < 2 ^ 39) {d : D} (h : Pot k d) (hs : List Int) (h0 : hs ≠ []) (h1 : hs.length ≤ 24) : Ok ((fsT T (n + 3)).run 39 [d, .lst (hs.map .int)]) fun r => ∃ m rs d', r = ((m, .lst (rs.map .int)), [d']) ∧ rs ≠ [] ∧ rs.Sublist hs ∧ Pot (k + 25) d' := by
  rw [run_def (d := d39) rfl]
  simp_arith! [d39, b39]
  refine Ok.bind (lcO (fun i env => ∃ d', env = [some (.ino, d'), some (.sh, .lst (hs.map .int)), none, none] ∧ Pot (k + i) d') (fun x o => o = some x ∨ o = none) (by rw [List.length_map, sz24]; omega) ⟨d, rfl, h⟩ ?_) ?_
  · rintro i x env hx ⟨d', rfl, hq⟩
    rw [List.getElem?_map] at hx
    have hi : i < hs.length := by
      rw [Option.map_eq_some_iff] at hx
      obtain ⟨_, e, _⟩ := hx
      exact (List.getElem?_eq_some_iff.mp e).1
    simp_arith! []
    refine Ok.bind (take_ok _ (k + i) (by omega) hq _ (by omega) (by omega)) ?_
    rintro _ ⟨t, d'', rfl, t0, t1, hp'⟩
    by_cases ht : 0 < t
    · simp_arith! [ht]
      exact Ok.ret ⟨⟨_, rfl, hp'⟩, .inl rfl⟩
    · simp_arith! [ht]
      exact Ok.ret ⟨⟨_, rfl, hp'⟩, .inr rfl⟩
  · rintro _ ⟨os, env, rfl, ⟨d', rfl, hq⟩, ha⟩
    obtain ⟨rs, q1, q2⟩ := filt ha
    rw [List.length_map] at hq
    by_cases hr : rs = []
    · subst hr
      simp_arith! [q2, dEq_nn]
      refine Ok.bind (of_ok _ _ (by omega) hq (hs.map .int) (by simpa using h0) (by rw [List.length_map]; omega)) ?_
      rintro _ ⟨x, d'', rfl, hx, hp'⟩
      obtain ⟨z, hz, rfl⟩ := List.mem_map.mp hx
      simp_arith! []
      exact Ok.ret ⟨_, [z], d'', rfl, by simp, List.singleton_sublist.mpr hz, hp'.up (by omega)⟩
    · have hb : rs.isEmpty = false := by cases rs <;> simp_all
      simp_arith! [q2, dEq_ints0, hb]
      exact Ok.ret ⟨_, rs, d', rfl, hr, q1, hq.up (by omega)⟩
end Pu
end
section
namespace Pu
open PySem hiding fresh Env
open L2 Vf Gn Pv PyProof.Rows
local macro_rules
  | `(tactic| simp_arith! [$ls,*]) => `(tactic| simp -implicitDefEqProofs (disch := (have := Pv.sz24; omega)) only [↓Pv.ckP, ↓Pv.chkP, Pv.nd1, Pv.nd2, Int.reducePow, Pv.sz24, Int.reduceEq, Int.reduceNe, Int.reduceLT, Int.reduceLE, Int.reduceAdd, Int.reduceSub, Nat.reduceEqDiff, Nat.reducePow, Nat.reduceLeDiff, Nat.reduceLT, Nat.reduceMul, Int.reduceToNat, Int.reduceNeg, decide_true, decide_false, ↓Pv.toB, ↓Pv.toF, ↓Pv.toL, ↓Pv.toW, Pv.bI_ok, Pv.bI_as, reduceCtorEq, ne_eq, not_false_eq_true, and_self, and_true, true_and, or_true, true_or, Pv.fs_inoE, runDef, env0, evalS, evalE, evalEs, evalAs, inoA, getAs, Arg.get, backAs, inoIx, opd, readV, Pv.g0, Pv.gS, Pv.s0, Pv.sS, Op.get, Cn.d, R.of_some,  Pv.chkT, Pv.ckT, vw, Vf.fresh, outs, bindP, Pv.moF, Pv.moL, Pv.moD, part?, wipeE, backE,
  Pv.b_le, Pv.b_lt, Pv.b_ge, Pv.b_gt, Pv.b_add, Pv.b_sub, Pv.b_adds, Pv.b_addl, Pv.b_mul, Pv.b_fdiv, Pv.b_mod, Pv.b_gcd, Pv.b_ixl, Pv.b_ixt, Pv.b_max, Pv.b_min, Pv.u_lens, Pv.u_lenl, Pv.u_lent, Pv.u_int, Pv.u_intb, Pv.u_abs, Pv.b_pow, Pv.b_eqd, Pv.b_ned, Pv.u_str, Pv.u_neg, Pv.u_lst, Pv.u_tup, Pv.u_lrng, Pv.u_isn, isNonD, isOwnL, isOwnD, mods, opB, cndB, src, Pv.e_ii, Pv.e_bb, Pv.t_bl, Pv.t_int, Pv.t_lst, Pv.t_tup, Pv.t_non, isT,
  List.length_cons, List.length_nil, List.zip_cons_cons, List.zip_nil_left, List.zip_nil_right, List.map_cons, List.map_nil, List.cons_append, List.nil_append, List.replicate, Nat.sub_self, Nat.reduceAdd, Nat.reduceSub, List.append_nil, List.nodup_nil, eq_self,
  Option.map_some, Option.bind_some, Bool.false_eq_true, Bool.true_eq_false, if_true, if_false, reduceIte, Bool.not_true, Bool.not_false, ino0, ino1, ino2, ino3, ino4, ino5, ino6, ino7, ino8, ino9, ino10, ino11, ino12, ino13, ino14, ino15, ino16, ino17, ino18, ino19, ino20, ino21, ino22, ino23, ino24, ino25, ino26, ino27, ino28, ino29, ino30, ino31, ino32, ino33, ino34, ino35, ino36, ino37, ino38, ino39, ino40, ino41, ino42, ino43, ino44, ino45, ino46, ino47, ino48, ino49, part?, $ls,*])
def pool0 : List Str := [Str.ofString "a", Str.ofString "b", Str.ofString "c", Str.ofString "d", Str.ofString "moon", Str.ofString "z", Str.ofString "e", Str.ofString "f"]
def pool : List Str := pool0 ++ [Str.ofString "new", Str.ofString "kind", Str.ofString "book", Str.ofString "zzzzzz"]
abbrev Kd := Str × (Int × Int) × List Int
def kD (k : Kd) : D := .tup [.str k.1, aD k.2.1, .lst (k.2.2.map .int)]
def ownD (h t : Int) (ks : List Kd) : D := .dic [(.inr (Str.ofString "hours"), .int h), (.inr (Str.ofString "telescopes"), .int t), (.inr (Str.ofString "kinds"), .lst (ks.map kD))]
def rg (h : Int) : List Int := (List.range h.toNat).map fun i => (0 : Int) + Int.ofNat i
theorem rng_rg (h : Int) : rngD 0 h.toNat = (rg h).map .int := by unfold rngD rg; rw [List.map_map]; rfl
def HOk (h : Int) (hs : List Int) : Prop := hs ≠ [] ∧ hs.Sublist (rg h)
theorem rg_len (h : Int) : (rg h).length = h.toNat := by unfold rg; simp
theorem HOk.len {h : Int} {hs : List Int} (H : HOk h hs) (h1 : h ≤ 24) : hs.length ≤ 24 := by
  have := H.2.length_le
  rw [rg_len] at this
  omega
structure BOk (h t : Int) (ks : List Kd) : Prop where
  h1 : 1 ≤ h
  h2 : h ≤ 24
  t1 : 1 ≤ t
  t2 : t ≤ 4
  ne : ks ≠ []
  len : ks.length ≤ 8
  nd : (ks.map (·.1)).Nodup
  ok : ∀ k ∈ ks, k.1 ∈ pool ∧ k.2.1 ∈ amts ∧ HOk h k.2.2
theorem dic3 (a b c : D) : mergeD [] (zipK [Str.ofString "hours", Str.ofString "telescopes", Str.ofString "kinds"] [a, b, c]) = [(.inr (Str.ofString "hours"), a), (.inr (Str.ofString "telescopes"), b), (.inr (Str.ofString "kinds"), c)] := by rfl
theorem amt_small : ∀ p ∈ amts, 0 ≤ p.1 ∧ p.1 < 1001 ∧ 0 < p.2 ∧ p.2 < 1001 := by decide
theorem a20 (a b : D) : atI [a, b] 0 = some a := rfl
theorem a21 (a b : D) : atI [a, b] 1 = some b := rfl
theorem less_ok (n : Nat) {p q : Int × Int} (hp : p ∈ amts) (hq : q ∈ amts) : Ok ((fsT T (n + 1)).run 27 [aD p, aD q]) fun r => ∃ b, r = ((false, .bl b), []) := by
  have h1 := amt_small p hp
  have h2 := amt_small q hq
  rw [run_def (d := d27) rfl]
  simp_arith! [d27, b27, aD, a20, a21]
  exact Ok.ret ⟨_, rfl⟩
theorem toP_as : ∀ l : List (Int × Int), toPs (l.map aD) = some (l.map fun p => PyData.tuple [.int p.1, .int p.2])
  | [] => rfl
  | x :: r => by
    rw [List.map_cons, toPs, show toP (aD x) = some (PyData.tuple [.int x.1, .int x.2]) from rfl, Option.bind_some, toP_as r]; rfl
theorem lay_as : ∀ l : List (Int × Int), PyData.canLayAll0 (l.map fun p => PyData.tuple [.int p.1, .int p.2]) = true ∧ PyData.depthAll (l.map fun p => PyData.tuple [.int p.1, .int p.2]) ≤ 1
  | [] => ⟨rfl, by simp [PyData.depthAll]⟩
  | x :: r => by
    obtain ⟨h1, h2⟩ := lay_as r
    simp [PyData.canLayAll0, PyData.canLay0, PyData.depthAll, PyData.depth, h1]
    omega
theorem dEq_as0 (l : List (Int × Int)) : dEq (.lst (l.map aD)) (.lst []) = some l.isEmpty := by
  obtain ⟨h1, h2⟩ := lay_as l
  rw [dEq_shaped (p := .list (l.map fun p => PyData.tuple [.int p.1, .int p.2])) (q := .list []) (by rw [toP, toP_as]; rfl) rfl (by rw [PyData.canLay0, h1]) rfl (by rw [PyData.depth]; omega) (by decide)]
  cases l <;> rfl
theorem dEq_a (p q : Int × Int) : dEq (aD p) (aD q) = some (decide (p = q)) := by
  rw [dEq_shaped (p := .tuple [.int p.1, .int p.2]) (q := .tuple [.int q.1, .int q.2]) rfl rfl rfl rfl (by simp [PyData.depth, PyData.depthAll]) (by simp [PyData.depth, PyData.depthAll])]
  congr 1
  obtain ⟨a, b⟩ := p
  obtain ⟨c, d⟩ := q
  simp only [PyData.eqv, PyData.eqvAll, Bool.and_true, Prod.mk.injEq]
  by_cases e1 : a = c <;> by_cases e2 : b = d <;> simp [e1, e2]
theorem rem_ok {b : Int × Int} : ∀ {l : List (Int × Int)}, b ∈ l → ∃ l' : List (Int × Int), rem1 (l.map aD) (aD b) = some (l'.map aD) ∧ l'.length + 1 = l.length ∧ ∀ x ∈ l', x ∈ l
  | x :: l, h => by
    by_cases e : x = b
    · refine ⟨l, ?_, rfl, fun y hy => List.mem_cons_of_mem _ hy⟩
      simp only [List.map_cons, rem1, dEq_a, e, decide_true, Option.bind_some, if_true]
    · obtain ⟨l', q1, q2, q3⟩ := rem_ok (l := l) ((List.mem_cons.mp h).resolve_left fun z => e z.symm)
      refine ⟨x :: l', ?_, by simp [q2], fun y hy => ?_⟩
      · simp only [List.map_cons, rem1, dEq_a, e, decide_false, Option.bind_some, Bool.false_eq_true, if_false, q1, Option.map_some]
      · rcases List.mem_cons.mp hy with rfl | hy
        · exact List.mem_cons_self
        · exact List.mem_cons_of_mem _ (q3 y hy)
theorem amts_of {xs : List D} : ∀ {os : List (Option D)}, All2 (fun (_ : D) o => ∃ p ∈ amts, o = some (aD p)) xs os → ∃ l : List (Int × Int), os.filterMap id = l.map aD ∧ l.length = xs.length ∧ ∀ p ∈ l, p ∈ amts := by
  induction xs with
  | nil => intro os h; cases h; exact ⟨[], rfl, rfl, by simp⟩
  | cons x xs ih =>
    intro os h
    cases h with
    | cons h1 h2 =>
      obtain ⟨p, hp, rfl⟩ := h1
      obtain ⟨l, q1, q2, q3⟩ := ih h2
      refine ⟨p :: l, by simp [q1], by simp [q2], fun z hz => ?_⟩
      rcases List.mem_cons.mp hz with rfl | hz
      · exact hp
      · exact q3 z hz
def rD (r : (Int × Int) × List Int) : D := .tup [aD r.1, .lst (r.2.map .int)]
theorem perm_str {ys rest : List D} (h : (ys ++ rest).Perm (pool0.map .str)) : ∃ ns : List Str, ys = ns.map .str ∧ ns.Nodup ∧ ∀ x ∈ ns, x ∈ pool := by
  have key : ∀ l : List D, (∀ x ∈ l, x ∈ pool0.map D.str) → ∃ ns : List Str, l = ns.map .str ∧ ∀ x ∈ ns, x ∈ pool0 := by
    intro l
    induction l with
    | nil => exact fun _ => ⟨[], rfl, by simp⟩
    | cons x l ih =>
      intro h
      obtain ⟨ns, q1, q2⟩ := ih fun y hy => h y (List.mem_cons_of_mem _ hy)
      obtain ⟨s, hs, rfl⟩ := List.mem_map.mp (h x List.mem_cons_self)
      refine ⟨s :: ns, by rw [q1]; rfl, fun y hy => ?_⟩
      rcases List.mem_cons.mp hy with rfl | hy
      · exact hs
      · exact q2 y hy
  obtain ⟨ns, q1, q2⟩ := key ys fun x hx => h.subset (List.mem_append_left _ hx)
  refine ⟨ns, q1, ?_, fun x hx => List.mem_append_left _ (q2 x hx)⟩
  have nd0 : pool0.Nodup := by decide +kernel
  have nd : (pool0.map D.str).Nodup := List.pairwise_map.mpr (nd0.imp fun h e => h (by cases e; rfl))
  have := (h.nodup_iff.mpr nd).sublist (List.sublist_append_left ys rest)
  rw [q1] at this
  exact (List.pairwise_map.mp this).imp fun h e => h (by rw [e])
theorem perm_rows {rows : List ((Int × Int) × List Int)} {zs rest : List D} (h : (zs ++ rest).Perm (rows.map rD)) : ∃ rs : List ((Int × Int) × List Int), zs = rs.map rD ∧ ∀ r ∈ rs, r ∈ rows := by
  have key : ∀ l : List D, (∀ x ∈ l, x ∈ rows.map rD) → ∃ rs : List ((Int × Int) × List Int), l = rs.map rD ∧ ∀ r ∈ rs, r ∈ rows := by
    intro l
    induction l with
    | nil => exact fun _ => ⟨[], rfl, by simp⟩
    | cons x l ih =>
      intro h
      obtain ⟨ns, q1, q2⟩ := ih fun y hy => h y (List.mem_cons_of_mem _ hy)
      obtain ⟨s, hs, rfl⟩ := List.mem_map.mp (h x List.mem_cons_self)
      refine ⟨s :: ns, by rw [q1]; rfl, fun y hy => ?_⟩
      rcases List.mem_cons.mp hy with rfl | hy
      · exact hs
      · exact q2 y hy
  exact key zs fun x hx => h.subset (List.mem_append_left _ hx)
theorem zip_len : ∀ xs ys : List D, (zipD xs ys).length ≤ xs.length
  | [], _ => by simp [zipD]
  | x :: xs, [] => by simp [zipD]
  | x :: xs, y :: ys => by have := zip_len xs ys; simp [zipD]; omega
theorem zip_mem {x : D} : ∀ {ns : List Str} {rs : List ((Int × Int) × List Int)}, x ∈ zipD (ns.map .str) (rs.map rD) → ∃ a r, x = .tup [.str a, rD r]
  | a :: ns, r :: rs, h => by
    rw [List.map_cons, List.map_cons, zipD] at h
    rcases List.mem_cons.mp h with rfl | h
    · exact ⟨a, r, rfl⟩
    · exact zip_mem h
theorem all2_map {g : D → D} : ∀ {xs : List D} {os : List (Option D)}, All2 (fun x o => o = some (g x)) xs os → os.filterMap id = xs.map g
  | _, _, .nil => rfl
  | _, _, .cons h t => by subst h; simp [all2_map t]
def zg : D → D
  | .tup [a, .tup [b, c]] => .tup [a, b, c]
  | d => d
def zipK3 : List Str → List ((Int × Int) × List Int) → List Kd
  | a :: l, r :: rs => (a, r.1, r.2) :: zipK3 l rs
  | _, _ => []
theorem zip_kd : ∀ (ns : List Str) (rs : List ((Int × Int) × List Int)), (zipD (ns.map .str) (rs.map rD)).map zg = (zipK3 ns rs).map kD
  | [], rs => by simp [zipD, zipK3]
  | a :: ns, [] => by simp [zipD, zipK3]
  | a :: ns, r :: rs => by
    rw [List.map_cons, List.map_cons, zipD, List.map_cons, zip_kd ns rs]; rfl
theorem zipK3_len : ∀ {ns : List Str} {rs : List ((Int × Int) × List Int)}, (zipK3 ns rs).length = min ns.length rs.length
  | [], rs => by simp [zipK3]
  | a :: ns, [] => by simp [zipK3]
  | a :: ns, r :: rs => by simp [zipK3, zipK3_len (ns := ns)]
theorem zipK3_names : ∀ {ns : List Str} {rs : List ((Int × Int) × List Int)}, ns.length = rs.length → (zipK3 ns rs).map (·.1) = ns
  | [], rs, _ => by simp [zipK3]
  | a :: ns, [], h => by simp at h
  | a :: ns, r :: rs, h => by simp [zipK3]; exact zipK3_names (by simpa using h)
theorem zipK3_mem {k : Kd} : ∀ {ns : List Str} {rs : List ((Int × Int) × List Int)}, k ∈ zipK3 ns rs → ∃ a r, a ∈ ns ∧ r ∈ rs ∧ k = (a, r.1, r.2)
  | [], rs, h => by simp [zipK3] at h
  | a :: ns, [], h => by simp [zipK3] at h
  | a :: ns, r :: rs, h => by
    rw [zipK3] at h
    rcases List.mem_cons.mp h with rfl | h
    · exact ⟨a, r, List.mem_cons_self, List.mem_cons_self, rfl⟩
    · obtain ⟨b, q, h1, h2, e⟩ := zipK3_mem h
      exact ⟨b, q, List.mem_cons_of_mem _ h1, List.mem_cons_of_mem _ h2, e⟩
theorem agree_ok (n k : Nat) (hk : k < 2 ^ 38) {d : D} (hd : Pot k d) (h t : Int) (m : Nat) (h1 : 1 ≤ h) (h2 : h ≤ 24) (m0 : 1 ≤ m) (m1 : m ≤ 8) :
    Ok ((fsT T (n + 4)).run 40 [d, .int h, .int t, .int m]) fun r => ∃ mm ks d', r = ((mm, ownD h t ks), [d']) ∧ ks.length = m ∧ (ks.map (·.1)).Nodup ∧ (∀ k ∈ ks, k.1 ∈ pool ∧ k.2.1 ∈ amts ∧ HOk h k.2.2) ∧ Pot (k + 1000) d' := by
  rw [run_def (d := d40) rfl]
  simp_arith! [d40, b40]
  refine Ok.bind (lcO (fun i env => ∃ d', env = [some (.ino, d'), some (.sh, .int h), some (.sh, .int t), some (.sh, .int m), none, none, none, none, none, none, none, none, none, none] ∧ Pot (k + i) d') (fun _ o => ∃ p ∈ amts, o = some (aD p)) (by rw [len_rng, sz24]; omega) ⟨d, rfl, hd⟩ ?_) ?_
  · rintro i x env hx ⟨d', rfl, hq⟩
    obtain ⟨hi, rfl⟩ := rng_at hx
    simp_arith! []
    refine Ok.bind (worth_ok _ (k + i) (by omega) hq) ?_
    rintro _ ⟨p, hp, d'', rfl, hq'⟩
    simp_arith! []
    exact Ok.ret ⟨⟨_, rfl, hq'⟩, p, hp, rfl⟩
  rintro _ ⟨os, env, rfl, ⟨d', rfl, hq⟩, ha⟩
  obtain ⟨as, e1, e2, e3⟩ := amts_of ha
  rw [len_rng, Int.toNat_natCast] at e2 hq
  simp_arith! [e1, rng_rg]
  refine Ok.bind (hours_ok _ _ (by omega) hq (rg h) (fun z => by have := rg_len h; rw [z] at this; simp at this; omega) (by rw [rg_len]; omega)) ?_
  rintro _ ⟨mo, here, d'', rfl, hn, hs, hq2⟩
  obtain ⟨md, hmd, hme⟩ : ∃ md, modeOf mo (.lst (here.map .int)) = md ∧ (md = .sh ∨ md = .own) := by
    cases mo
    · exact ⟨_, rfl, .inl rfl⟩
    · exact ⟨_, rfl, .inr rfl⟩
  simp_arith! [hmd]
  refine Ok.bind (whlO (fun j env => ∃ (d' : D) (as : List (Int × Int)) (rows : List ((Int × Int) × List Int)) (here : List Int) (md : Md) (s9 s10 : Option (Md × D)), env = [some (.ino, d'), some (.sh, .int h), some (.sh, .int t), some (.sh, .int m), some (.own, .lst (as.map aD)), none, none, some (.own, .lst (rows.map rD)), some (md, .lst (here.map .int)), s9, s10, none, none, none] ∧
      (md = .sh ∨ md = .own) ∧ HOk h here ∧ as.length = j ∧ rows.length + j = m ∧ (∀ p ∈ as, p ∈ amts) ∧ (∀ r ∈ rows, r.1 ∈ amts ∧ HOk h r.2) ∧ Pot (k + 100 + 30 * rows.length) d')
    (fun env => ∃ (d' : D) (rows : List ((Int × Int) × List Int)) (s8 s9 s10 : Option (Md × D)), env = [some (.ino, d'), some (.sh, .int h), some (.sh, .int t), some (.sh, .int m), some (.own, .lst []), none, none, some (.own, .lst (rows.map rD)), s8, s9, s10, none, none, none] ∧ rows.length = m ∧ (∀ r ∈ rows, r.1 ∈ amts ∧ HOk h r.2) ∧ Pot (k + 400) d')
    m (by unfold whileFuel; omega) ⟨d'', as, [], here, md, none, none, rfl, hme, ⟨hn, hs⟩, e2, by simp, e3, by simp, hq2.up (by simp; omega)⟩ ?_ ?_) ?_
  · rintro env ⟨d', as, rows, here, md, s9, s10, rfl, hme, hho, a1, a2, a3, a4, a5⟩
    have : as = [] := List.eq_nil_of_length_eq_zero a1
    subst this
    simp_arith! [List.map_nil, dEq_nn]
    exact Ok.ret ⟨rfl, d', rows, _, s9, s10, rfl, by omega, a4, a5.up (by omega)⟩
  · rintro j env ⟨d', as, rows, here, md, s9, s10, rfl, hme, hho, a1, a2, a3, a4, a5⟩
    have hne : as.isEmpty = false := by cases as <;> simp_all
    have hlen : as.length < 100 := by omega
    obtain ⟨x0, hx0, at0⟩ := atI_mem (xs := as.map aD) (t := 0) (by omega) (by rw [List.length_map]; omega)
    obtain ⟨a0, ha0, rfl⟩ := List.mem_map.mp hx0
    simp_arith! [dEq_as0, hne]
    refine Ok.ret ?_
    refine ⟨rfl, ?_⟩
    simp_arith! [at0]
    refine Ok.bind (forS (xs := as.map aD) (fun i env => ∃ (b : Int × Int) (s10 : Option (Md × D)), b ∈ as ∧ env = [some (.ino, d'), some (.sh, .int h), some (.sh, .int t), some (.sh, .int m), some (.own, .lst (as.map aD)), none, none, some (.own, .lst (rows.map rD)), some (md, .lst (here.map .int)), some (.sh, aD b), s10, none, none, none]) (by rw [List.length_map, sz24]; omega) ?_ ⟨a0, s10, ha0, rfl⟩ ?_) ?_
    · rintro i env ⟨b, s10, hb, rfl⟩
      exact ⟨_, rfl⟩
    · rintro i x env hx ⟨b, s10, hb, rfl⟩
      obtain ⟨p, hp, rfl⟩ : ∃ p, p ∈ as ∧ x = aD p := by
        obtain ⟨p, hp, e⟩ := List.mem_map.mp (List.mem_of_getElem? hx)
        exact ⟨p, hp, e.symm⟩
      simp_arith! []
      refine Ok.bind (less_ok _ (a3 p hp) (a3 b hb)) ?_
      rintro _ ⟨c, rfl⟩
      cases c
      · simp_arith! []
        refine Ok.ret ?_
        exact ⟨_, .inl rfl, b, _, hb, rfl⟩
      · simp_arith! []
        refine Ok.ret ?_
        exact ⟨_, .inl rfl, p, _, hp, rfl⟩
    · rintro _ ⟨env, rfl, b, s10, hb, rfl⟩
      obtain ⟨l', r1, r2, r3⟩ := rem_ok hb
      have rr : rem2 (aD b) (.lst (as.map aD)) = some (.lst (l'.map aD)) := by show Option.map D.lst (rem1 _ _) = _; rw [r1]; rfl
      have hrow : rD (b, here) = .tup [aD b, .lst (here.map .int)] := rfl
      have rl : (rows.map rD).length < 100 := by rw [List.length_map]; omega
      rcases hme with rfl | rfl
      all_goals
        simp_arith! [rr, app1P]
        refine Ok.bind (take_ok _ (k + 100 + 30 * rows.length) (by omega) a5 _ (by omega) (by omega)) ?_
        rintro _ ⟨t', d'', rfl, t0, t1, hp'⟩
        by_cases ht : 0 < t'
        · simp_arith! [ht]
          refine Ok.bind (hours_ok _ _ (by omega) hp' here hho.1 (hho.len h2)) ?_
          rintro _ ⟨mo, here', d3, rfl, q1, q2, q3⟩
          cases mo
          all_goals
            simp_arith! []
            refine Ok.ret ?_
            refine ⟨_, .inl rfl, d3, l', rows ++ [(b, here)], here', _, _, _, by rw [List.map_append]; rfl, by simp, ⟨q1, q2.trans hho.2⟩, by omega, by simp; omega, fun p hp => a3 p (r3 p hp), ?_, q3.up (by simp; omega)⟩
            intro r hr
            rcases List.mem_append.mp hr with hr | hr
            · exact a4 r hr
            · cases List.mem_singleton.mp hr
              exact ⟨a3 b hb, hho⟩
        · simp_arith! [ht]
          refine Ok.ret ?_
          refine ⟨_, .inl rfl, d'', l', rows ++ [(b, here)], here, _, _, _, by rw [List.map_append]; rfl, by simp, hho, by omega, by simp; omega, fun p hp => a3 p (r3 p hp), ?_, hp'.up (by simp; omega)⟩
          intro r hr
          rcases List.mem_append.mp hr with hr | hr
          · exact a4 r hr
          · cases List.mem_singleton.mp hr
            exact ⟨a3 b hb, hho⟩
  · rintro _ ⟨env, rfl, d', rows, s8, s9, s10, rfl, b1, b2, b3⟩
    simp_arith! []
    refine Ok.bind (some_ok _ _ (by omega) b3 (pool0.map .str) m (by show m ≤ 8; omega) (by decide)) ?_
    rintro _ ⟨ys, rest, d2, rfl, c1, c2, c3⟩
    simp_arith! []
    refine Ok.bind (some_ok _ _ (by omega) c3 (rows.map rD) m (by rw [List.length_map]; omega) (by rw [List.length_map]; omega)) ?_
    rintro _ ⟨zs, rest2, d3, rfl, f1, f2, f3⟩
    obtain ⟨ns, hns, g1, g2⟩ : ∃ ns : List Str, ys = ns.map .str ∧ ns.Nodup ∧ ∀ x ∈ ns, x ∈ pool := perm_str c2
    obtain ⟨rs, hrs, g3⟩ : ∃ rs : List ((Int × Int) × List Int), zs = rs.map rD ∧ ∀ r ∈ rs, r ∈ rows := perm_rows f2
    subst hns hrs
    rw [List.length_map] at c1 f1
    have hz : (zipD (ns.map .str) (rs.map rD)).length ≤ sizeLine := by
      have := zip_len (ns.map D.str) (rs.map rD)
      rw [List.length_map] at this
      rw [sz24]; omega
    simp_arith! []
    refine Ok.bind (lcO (fun _ env => ∃ s10 : Option (Md × D), env = [some (.ino, d3), some (.sh, .int h), some (.sh, .int t), some (.sh, .int m), some (.own, .lst []), some (.sh, .lst (ns.map .str)), none, some (.sh, .lst (rows.map rD)), s8, s9, s10, none, none, none]) (fun x o => o = some (zg x)) hz ⟨s10, rfl⟩ ?_) ?_
    · rintro i x env hx ⟨s10, rfl⟩
      obtain ⟨a, r, rfl⟩ := zip_mem (List.mem_of_getElem? hx)
      simp_arith! [rD]
      refine Ok.ret ?_
      exact ⟨⟨_, rfl⟩, rfl⟩
    · rintro _ ⟨os, env, rfl, ⟨s10, rfl⟩, hos⟩
      rw [all2_map hos, zip_kd]
      simp_arith! [dic3]
      refine Ok.ret ?_
      refine ⟨_, zipK3 ns rs, d3, rfl, ?_, ?_, fun k hk => ?_, f3.up (by omega)⟩
      · rw [zipK3_len]; omega
      · rw [zipK3_names (by omega)]; exact g1
      · obtain ⟨a, r, ha, hr, rfl⟩ := zipK3_mem hk
        exact ⟨g2 a ha, b2 r (g3 r hr)⟩
end Pu
end
section
namespace Pu
open PySem hiding fresh Env
open L2 Vf Gn Pv PyProof.Rows
local macro_rules
  | `(tactic| simp_arith! [$ls,*]) => `(tactic| simp -implicitDefEqProofs (disch := (have := Pv.sz24; omega)) only [↓Pv.ckP, ↓Pv.chkP, Pv.nd1, Pv.nd2, Int.reducePow, Pv.sz24, Int.reduceEq, Int.reduceNe, Int.reduceLT, Int.reduceLE, Int.reduceAdd, Int.reduceSub, Nat.reduceEqDiff, Nat.reducePow, Nat.reduceLeDiff, Nat.reduceLT, Nat.reduceMul, Int.reduceToNat, Int.reduceNeg, decide_true, decide_false, ↓Pv.toB, ↓Pv.toF, ↓Pv.toL, ↓Pv.toW, Pv.bI_ok, Pv.bI_as, reduceCtorEq, ne_eq, not_false_eq_true, and_self, and_true, true_and, or_true, true_or, Pv.fs_inoE, runDef, env0, evalS, evalE, evalEs, evalAs, inoA, getAs, Arg.get, backAs, inoIx, opd, readV, Pv.g0, Pv.gS, Pv.s0, Pv.sS, Op.get, Cn.d, R.of_some,  Pv.chkT, Pv.ckT, vw, Vf.fresh, outs, bindP, Pv.moF, Pv.moL, Pv.moD, part?, wipeE, backE,
  Pv.b_le, Pv.b_lt, Pv.b_ge, Pv.b_gt, Pv.b_add, Pv.b_sub, Pv.b_adds, Pv.b_addl, Pv.b_mul, Pv.b_fdiv, Pv.b_mod, Pv.b_gcd, Pv.b_ixl, Pv.b_ixt, Pv.b_max, Pv.b_min, Pv.u_lens, Pv.u_lenl, Pv.u_lent, Pv.u_int, Pv.u_intb, Pv.u_abs, Pv.b_pow, Pv.b_eqd, Pv.b_ned, Pv.u_str, Pv.u_neg, Pv.u_lst, Pv.u_tup, Pv.u_lrng, Pv.u_isn, isNonD, isOwnL, isOwnD, mods, opB, cndB, src, Pv.e_ii, Pv.e_bb, Pv.t_bl, Pv.t_int, Pv.t_lst, Pv.t_tup, Pv.t_non, isT,
  List.length_cons, List.length_nil, List.zip_cons_cons, List.zip_nil_left, List.zip_nil_right, List.map_cons, List.map_nil, List.cons_append, List.nil_append, List.replicate, Nat.sub_self, Nat.reduceAdd, Nat.reduceSub, List.append_nil, List.nodup_nil, eq_self,
  Option.map_some, Option.bind_some, Bool.false_eq_true, Bool.true_eq_false, if_true, if_false, reduceIte, Bool.not_true, Bool.not_false, ino0, ino1, ino2, ino3, ino4, ino5, ino6, ino7, ino8, ino9, ino10, ino11, ino12, ino13, ino14, ino15, ino16, ino17, ino18, ino19, ino20, ino21, ino22, ino23, ino24, ino25, ino26, ino27, ino28, ino29, ino30, ino31, ino32, ino33, ino34, ino35, ino36, ino37, ino38, ino39, ino40, ino41, ino42, ino43, ino44, ino45, ino46, ino47, ino48, ino49, part?, $ls,*])
theorem rg_ne {h : Int} (h1 : 1 ≤ h) : rg h ≠ [] := fun z => by
  have := rg_len h
  rw [z] at this
  simp at this
  omega
theorem any_ok (n k : Nat) (hk : k < 2 ^ 38) {d : D} (hd : Pot k d) (h t : Int) (m : Nat) (h1 : 1 ≤ h) (h2 : h ≤ 24) (m0 : 1 ≤ m) (m1 : m ≤ 8) :
    Ok ((fsT T (n + 4)).run 41 [d, .int h, .int t, .int m]) fun r => ∃ mm ks d', r = ((mm, ownD h t ks), [d']) ∧ ks.length = m ∧ (ks.map (·.1)).Nodup ∧ (∀ k ∈ ks, k.1 ∈ pool ∧ k.2.1 ∈ amts ∧ HOk h k.2.2) ∧ Pot (k + 1000) d' := by
  rw [run_def (d := d41) rfl]
  simp_arith! [d41, b41]
  refine Ok.bind (some_ok _ _ (by omega) hd (pool0.map .str) m (by show m ≤ 8; omega) (by decide)) ?_
  rintro _ ⟨ys, rest, d2, rfl, c1, c2, c3⟩
  obtain ⟨ns, hns, g1, g2⟩ : ∃ ns : List Str, ys = ns.map .str ∧ ns.Nodup ∧ ∀ x ∈ ns, x ∈ pool := perm_str c2
  subst hns
  rw [List.length_map] at c1
  simp_arith! []
  refine Ok.bind (forS (xs := ns.map .str) (fun i env => ∃ (d' : D) (ks : List Kd) (s4 : Option (Md × D)), env = [some (.ino, d'), some (.sh, .int h), some (.sh, .int t), some (.sh, .int m), s4, some (.own, .lst (ns.map .str)), some (.own, .lst (ks.map kD))] ∧ ks.map (·.1) = ns.take i ∧ (∀ k ∈ ks, k.2.1 ∈ amts ∧ HOk h k.2.2) ∧ Pot (k + m + 30 * i) d')
    (by rw [List.length_map, sz24]; omega) ?_ ⟨d2, [], none, rfl, rfl, by simp, c3⟩ ?_) ?_
  · rintro i env ⟨d', ks, s4, rfl, _⟩
    exact ⟨_, rfl⟩
  · rintro i x env hx ⟨d', ks, s4, rfl, a1, a2, a3⟩
    rw [List.getElem?_map, Option.map_eq_some_iff] at hx
    obtain ⟨nm, hn, rfl⟩ := hx
    have hi := (List.getElem?_eq_some_iff.mp hn).1
    have kl : (ks.map kD).length < 100 := by
      have := congrArg List.length a1
      rw [List.length_map, List.length_take] at this
      rw [List.length_map]; omega
    simp_arith! []
    refine Ok.bind (worth_ok _ (k + m + 30 * i) (by omega) a3) ?_
    rintro _ ⟨p, hp, d3, rfl, q1⟩
    simp_arith! [rng_rg]
    refine Ok.bind (hours_ok _ _ (by omega) q1 (rg h) (rg_ne h1) (by rw [rg_len]; omega)) ?_
    rintro _ ⟨mo, here, d4, rfl, q2, q3, q4⟩
    simp_arith! [app1P]
    refine Ok.ret ?_
    refine ⟨_, .inl rfl, d4, ks ++ [(nm, p, here)], _, by rw [List.map_append]; rfl, ?_, ?_, q4.up (by omega)⟩
    · rw [List.map_append, a1, List.take_succ, hn]; rfl
    · intro kk hkk
      rcases List.mem_append.mp hkk with hkk | hkk
      · exact a2 kk hkk
      · cases List.mem_singleton.mp hkk
        exact ⟨hp, q2, q3⟩
  · rintro _ ⟨env, rfl, d', ks, s4, rfl, a1, a2, a3⟩
    rw [List.length_map] at a1 a3
    rw [List.take_length] at a1
    simp_arith! [dic3]
    refine Ok.ret ?_
    refine ⟨_, ks, d', rfl, ?_, by rw [a1]; exact g1, fun kk hkk => ⟨g2 _ (by rw [← a1]; exact List.mem_map.mpr ⟨kk, hkk, rfl⟩), a2 kk hkk⟩, a3.up (by omega)⟩
    rw [← List.length_map (f := fun k : Kd => k.1), a1, c1]
theorem book_of {h t : Int} {ks : List Kd} {m : Nat} (h1 : 1 ≤ h) (h2 : h ≤ 24) (t1 : 1 ≤ t) (t2 : t ≤ 4) (m0 : 1 ≤ m) (m1 : m ≤ 8) (a : ks.length = m) (b : (ks.map (·.1)).Nodup) (c : ∀ k ∈ ks, k.1 ∈ pool ∧ k.2.1 ∈ amts ∧ HOk h k.2.2) : BOk h t ks :=
  ⟨h1, h2, t1, t2, fun z => by subst z; simp at a; omega, by omega, b, c⟩
def Bk (k : Nat) (r : Vf.W × List D) : Prop := ∃ mm h t ks d', r = ((mm, ownD h t ks), [d']) ∧ BOk h t ks ∧ Pot k d'
theorem drawn_ok (n k : Nat) (hk : k < 2 ^ 37) {d : D} (hd : Pot k d) : Ok ((fsT T (n + 5)).run 42 [d]) (Bk (k + 1100)) := by
  rw [run_def (d := d42) rfl]
  simp_arith! [d42, b42]
  refine Ok.bind (take_ok _ k (by omega) hd _ (by omega) (by omega)) ?_
  rintro _ ⟨x1, d1, rfl, l1, u1, p1⟩
  simp_arith! []
  refine Ok.bind (take_ok _ _ (by omega) p1 _ (by omega) (by omega)) ?_
  rintro _ ⟨x2, d2, rfl, l2, u2, p2⟩
  simp_arith! []
  refine Ok.bind (take_ok _ _ (by omega) p2 _ (by omega) (by omega)) ?_
  rintro _ ⟨x3, d3, rfl, l3, u3, p3⟩
  simp_arith! []
  refine Ok.bind (take_ok _ _ (by omega) p3 _ (by omega) (by omega)) ?_
  rintro _ ⟨x4, d4, rfl, l4, u4, p4⟩
  obtain ⟨m, rfl⟩ := Int.eq_ofNat_of_zero_le l3
  have em : (1 : Int) + (m : Int) = ((1 + m : Nat) : Int) := by omega
  by_cases hx : x4 = 0
  · subst hx
    simp_arith! [e_ii, em, beq_self_eq_true]
    refine Ok.bind (agree_ok _ _ (by omega) p4 (2 + x1) (1 + x2) (1 + m) (by omega) (by omega) (by omega) (by omega)) ?_
    rintro _ ⟨mm, ks, d', rfl, a1, a2, a3, a4⟩
    simp_arith! []
    refine Ok.ret ?_
    exact ⟨_, _, _, ks, d', rfl, book_of (by omega) (by omega) (by omega) (by omega) (by omega) (by omega) a1 a2 a3, a4.up (by omega)⟩
  · have hb : (x4 == 0) = false := by simpa using hx
    simp_arith! [e_ii, em, hb]
    refine Ok.bind (any_ok _ _ (by omega) p4 (2 + x1) (1 + x2) (1 + m) (by omega) (by omega) (by omega) (by omega)) ?_
    rintro _ ⟨mm, ks, d', rfl, a1, a2, a3, a4⟩
    simp_arith! []
    refine Ok.ret ?_
    exact ⟨_, _, _, ks, d', rfl, book_of (by omega) (by omega) (by omega) (by omega) (by omega) (by omega) a1 a2 a3, a4.up (by omega)⟩
theorem anyb_ok (n k : Nat) (hk : k < 2 ^ 36) {d : D} (hd : Pot k d) : Ok ((fsT T (n + 6)).run 44 [d]) (Bk (k + 2000)) := by
  rw [run_def (d := d44) rfl]
  simp_arith! [d44, b44]
  refine Ok.bind (take_ok _ k (by omega) hd _ (by omega) (by omega)) ?_
  rintro _ ⟨x1, d1, rfl, l1, u1, p1⟩
  by_cases hx : x1 = 0
  · subst hx
    simp_arith! [e_ii, beq_self_eq_true]
    refine Ok.bind (drawn_ok _ _ (by omega) p1) ?_
    rintro _ ⟨mm, h, t, ks, d', rfl, a1, a2⟩
    simp_arith! []
    refine Ok.ret ?_
    exact ⟨_, h, t, ks, d', rfl, a1, a2.up (by omega)⟩
  have hb : (x1 == 0) = false := by simpa using hx
  simp_arith! [e_ii, hb]
  refine Ok.bind (take_ok _ _ (by omega) p1 _ (by omega) (by omega)) ?_
  rintro _ ⟨x2, d2, rfl, l2, u2, p2⟩
  simp_arith! []
  refine Ok.bind (of_ok _ _ (by omega) p2 _ (by simp) (by simp)) ?_
  rintro _ ⟨hD, d3, rfl, hh, p3⟩
  obtain ⟨h, rfl, h1, h2⟩ : ∃ h : Int, hD = .int h ∧ 1 ≤ h ∧ h ≤ 24 := by
    simp only [List.mem_cons, List.not_mem_nil, or_false] at hh
    rcases hh with rfl | rfl | rfl | rfl
    · exact ⟨1, rfl, by omega, by omega⟩
    · exact ⟨7, rfl, by omega, by omega⟩
    · exact ⟨24, rfl, by omega, by omega⟩
    · exact ⟨1 + x2, rfl, by omega, by omega⟩
  simp_arith! []
  refine Ok.bind (of_ok _ _ (by omega) p3 _ (by simp) (by simp)) ?_
  rintro _ ⟨mD, d4, rfl, hm, p4⟩
  obtain ⟨m, rfl, m1, m2⟩ : ∃ m : Nat, mD = .int m ∧ 1 ≤ m ∧ m ≤ 8 := by
    simp only [List.mem_cons, List.not_mem_nil, or_false] at hm
    rcases hm with rfl | rfl | rfl
    · exact ⟨1, rfl, by omega, by omega⟩
    · exact ⟨5, rfl, by omega, by omega⟩
    · exact ⟨8, rfl, by omega, by omega⟩
  simp_arith! []
  refine Ok.bind (take_ok _ _ (by omega) p4 _ (by omega) (by omega)) ?_
  rintro _ ⟨x5, d5, rfl, l5, u5, p5⟩
  by_cases hx : x5 = 0
  · subst hx
    simp_arith! [e_ii, beq_self_eq_true]
    refine Ok.bind (take_ok _ _ (by omega) p5 _ (by omega) (by omega)) ?_
    rintro _ ⟨x6, d6, rfl, l6, u6, p6⟩
    simp_arith! []
    refine Ok.bind (agree_ok _ _ (by omega) p6 h (1 + x6) m (by omega) (by omega) (by omega) (by omega)) ?_
    rintro _ ⟨mm, ks, d', rfl, a1, a2, a3, a4⟩
    simp_arith! []
    refine Ok.ret ?_
    exact ⟨_, _, _, ks, d', rfl, book_of (by omega) (by omega) (by omega) (by omega) (by omega) (by omega) a1 a2 a3, a4.up (by omega)⟩
  · have hb : (x5 == 0) = false := by simpa using hx
    simp_arith! [e_ii, hb]
    refine Ok.bind (take_ok _ _ (by omega) p5 _ (by omega) (by omega)) ?_
    rintro _ ⟨x6, d6, rfl, l6, u6, p6⟩
    simp_arith! []
    refine Ok.bind (any_ok _ _ (by omega) p6 h (1 + x6) m (by omega) (by omega) (by omega) (by omega)) ?_
    rintro _ ⟨mm, ks, d', rfl, a1, a2, a3, a4⟩
    simp_arith! []
    refine Ok.ret ?_
    exact ⟨_, _, _, ks, d', rfl, book_of (by omega) (by omega) (by omega) (by omega) (by omega) (by omega) a1 a2 a3, a4.up (by omega)⟩
end Pu
end
section
namespace Pu
open PySem hiding fresh Env
open L2 Vf Gn Pv PyProof.Rows
def seg (p : Nat × Nat) : List Int := (List.range (p.2 + 1 - p.1)).map fun i => (p.1 : Int) + Int.ofNat i
theorem seg_len (p : Nat × Nat) : (seg p).length = p.2 + 1 - p.1 := by simp [seg]
theorem seg_step {a b : Nat} (h : a ≤ b) : seg (a, b + 1) = seg (a, b) ++ [((b + 1 : Nat) : Int)] := by
  unfold seg
  show List.map _ (List.range (b + 1 + 1 - a)) = _
  rw [show b + 1 + 1 - a = (b + 1 - a) + 1 by omega, List.range_succ, List.map_append]
  congr 1
  simp
  omega
theorem seg_one (a : Nat) : seg (a, a) = [(a : Int)] := by
  unfold seg
  show List.map _ (List.range (a + 1 - a)) = _
  rw [show a + 1 - a = 1 by omega]
  simp [List.range_succ]
theorem seg_last {a b : Nat} (h : a ≤ b) : (seg (a, b)).getLast? = some (b : Int) := by
  obtain ⟨c, rfl⟩ : ∃ c, b = a + c := ⟨b - a, by omega⟩
  cases c with
  | zero => rw [Nat.add_zero, seg_one]; rfl
  | succ c => rw [show a + (c + 1) = (a + c) + 1 by omega, seg_step (by omega)]; simp
theorem seg_at0 {a b : Nat} (h : a ≤ b) : atI ((seg (a, b)).map D.int) 0 = some (.int a) := by
  have : 0 < ((seg (a, b)).map D.int).length := by rw [List.length_map, seg_len]; show 0 < b + 1 - a; omega
  rw [show (0 : Int) = ((0 : Nat) : Int) by rfl, atI_nat this]
  simp [seg]
theorem seg_atm {a b : Nat} (h : a ≤ b) : atI ((seg (a, b)).map D.int) (-1) = some (.int b) :=
  atI_m1 (by rw [List.getLast?_map, seg_last h]; rfl)
def Sp (H : Nat) (ps : List (Nat × Nat)) : Prop := (∀ p ∈ ps, p.1 ≤ p.2 ∧ p.2 < H) ∧ ps.Pairwise fun p q => p.2 + 2 ≤ q.1
theorem runs_acc {H : Nat} : ∀ (l : List Int) (ps : List (Nat × Nat)), (∀ x ∈ l, 0 ≤ x ∧ x < H) → l.Pairwise (· < ·) → Sp H ps → (∀ p ∈ ps, ∀ x ∈ l, (p.2 : Int) < x) →
    ∃ qs, runsG (ps.map seg) l = qs.map seg ∧ Sp H qs ∧ qs.flatMap seg = ps.flatMap seg ++ l ∧ (ps ≠ [] ∨ l ≠ [] → qs ≠ [])
  | [], ps, _, _, hs, _ => ⟨ps, rfl, hs, by simp, by simp⟩
  | x :: l, ps, hx, hp, hs, hq => by
    obtain ⟨y, rfl⟩ := Int.eq_ofNat_of_zero_le (hx x List.mem_cons_self).1
    have hyH := (hx _ List.mem_cons_self).2
    have hpl := List.pairwise_cons.mp hp
    have rest : ∀ ps' : List (Nat × Nat), Sp H ps' → (∀ p ∈ ps', p.2 ≤ y) → ps'.flatMap seg = ps.flatMap seg ++ [(y : Int)] → ps' ≠ [] → ∃ qs, runsG (ps'.map seg) l = qs.map seg ∧ Sp H qs ∧ qs.flatMap seg = ps.flatMap seg ++ (y : Int) :: l ∧ (ps ≠ [] ∨ (y : Int) :: l ≠ [] → qs ≠ []) := fun ps' h1 h2 h3 h4 => by
      obtain ⟨qs, q1, q2, q3, q4⟩ := runs_acc l ps' (fun z hz => hx z (List.mem_cons_of_mem _ hz)) hpl.2 h1 fun p hp z hz => by
        have := hpl.1 z hz
        have := h2 p hp
        omega
      exact ⟨qs, q1, q2, by rw [q3, h3]; simp, fun _ => q4 (.inl h4)⟩
    show ∃ qs, runsG (stepG (ps.map seg) (y : Int)) l = _ ∧ _
    rcases List.eq_nil_or_concat ps with rfl | ⟨qs, p, rfl⟩
    · rw [show stepG (([] : List (Nat × Nat)).map seg) (y : Int) = [(y, y)].map seg by simp [stepG, seg_one]]
      exact rest [(y, y)] ⟨by simp; omega, by simp⟩ (by simp) (by simp [seg_one]) (by simp)
    · obtain ⟨a, b⟩ := p
      obtain ⟨ab, bH⟩ := hs.1 (a, b) (by simp)
      have hb := hq (a, b) (by simp) (y : Int) List.mem_cons_self
      have hb' : b < y := by simp at hb; omega
      have pq := List.pairwise_append.mp (by simpa using hs.2)
      have e1 : ((qs.concat (a, b)).map seg).getLast? = some (seg (a, b)) := by simp
      by_cases e : b + 1 = y
      · have : stepG ((qs.concat (a, b)).map seg) (y : Int) = ((qs ++ [(a, y)]).map seg) := by
          unfold stepG
          rw [e1]
          dsimp only
          rw [seg_last ab, if_pos (by congr 1; omega)]
          subst e
          rw [List.map_append, List.map_singleton, seg_step ab]
          simp
        rw [this]
        refine rest _ ⟨fun p hp => ?_, ?_⟩ (fun p hp => ?_) ?_ (by simp)
        · rcases List.mem_append.mp hp with hp | hp
          · exact hs.1 p (by simp [hp])
          · cases List.mem_singleton.mp hp; exact ⟨by show a ≤ y; omega, by show y < H; omega⟩
        · refine List.pairwise_append.mpr ⟨pq.1, by simp, fun p hp q hq => ?_⟩
          cases List.mem_singleton.mp hq
          exact pq.2.2 p hp (a, b) (by simp)
        · rcases List.mem_append.mp hp with hp | hp
          · have := hq p (by simp [hp]) (y : Int) List.mem_cons_self; omega
          · cases List.mem_singleton.mp hp; exact Nat.le_refl _
        · subst e
          simp [seg_step ab]
      · have : stepG ((qs.concat (a, b)).map seg) (y : Int) = (((qs ++ [(a, b)]) ++ [(y, y)]).map seg) := by
          unfold stepG
          rw [e1]
          dsimp only
          rw [seg_last ab, if_neg (by simp; omega)]
          simp [seg_one]
        rw [this]
        refine rest _ ⟨fun p hp => ?_, ?_⟩ (fun p hp => ?_) ?_ (by simp)
        · rcases List.mem_append.mp hp with hp | hp
          · exact hs.1 p (by simpa using hp)
          · cases List.mem_singleton.mp hp; exact ⟨Nat.le_refl _, by show y < H; omega⟩
        · refine List.pairwise_append.mpr ⟨by simpa using hs.2, by simp, fun p hp q hq' => ?_⟩
          cases List.mem_singleton.mp hq'
          rcases List.mem_append.mp hp with hp | hp
          · have := pq.2.2 p hp (a, b) (by simp)
            show p.2 + 2 ≤ y
            have : p.2 + 2 ≤ a := this
            omega
          · cases List.mem_singleton.mp hp
            show b + 2 ≤ y
            omega
        · rcases List.mem_append.mp hp with hp | hp
          · have := hq p (by simpa using hp) (y : Int) List.mem_cons_self; omega
          · cases List.mem_singleton.mp hp; exact Nat.le_refl _
        · simp [seg_one]
theorem rg_pw (h : Int) : (rg h).Pairwise (· < ·) := by
  unfold rg
  refine List.pairwise_map.mpr (List.pairwise_lt_range.imp fun h => ?_)
  show (0 : Int) + Int.ofNat _ < 0 + Int.ofNat _
  simp
  omega
theorem rg_in {h x : Int} (hx : x ∈ rg h) : 0 ≤ x ∧ x < h := by
  unfold rg at hx
  obtain ⟨i, hi, rfl⟩ := List.mem_map.mp hx
  have := List.mem_range.mp hi
  show 0 ≤ (0 : Int) + (i : Int) ∧ (0 : Int) + (i : Int) < h
  omega
theorem runs_ok {h : Nat} {hs : List Int} (H : HOk h hs) : ∃ ps, runsG [] hs = ps.map seg ∧ Sp h ps ∧ ps.flatMap seg = hs ∧ ps ≠ [] := by
  obtain ⟨qs, q1, q2, q3, q4⟩ := runs_acc (H := h) hs [] (fun x hx => rg_in (H.2.subset hx)) ((rg_pw h).sublist H.2) ⟨by simp, by simp⟩ (by simp)
  exact ⟨qs, q1, q2, by simpa using q3, q4 (.inr H.1)⟩
end Pu
end
section
namespace Pu
open PySem hiding fresh Env
open L2 Vf Gn Pv PyProof.Rows
def headS (h t : Int) : Str := ((Str.ofString "book " ++ sN h) ++ Str.ofString " ") ++ sN t
def isTup2 (a b : Int) : R (Vf.W × List D) → Bool
  | .ok ((false, .tup [.int x, .int y]), []) => decide (x = a) && decide (y = b)
  | _ => false
def noSp (x : Str) : Bool := !(x.cps.toList.contains 32) && !(x.cps.toList.contains 10) && x.cps.toList.all (· < 1114112)
theorem head_all (n : Nat) : ((List.range 24).all fun h => (List.range 4).all fun t => isTup2 (h + 1 : Nat) (t + 1 : Nat) ((fsT T (n + 6)).run 11 [.str (headS (h + 1 : Nat) (t + 1 : Nat))]) && !((headS (h + 1 : Nat) (t + 1 : Nat)).cps.toList.contains 10) && decide ((headS (h + 1 : Nat) (t + 1 : Nat)).length ≤ 20) && (headS (h + 1 : Nat) (t + 1 : Nat)).cps.toList.all (· < 1114112)) = true := by kernel_rfl
def spanS (a b : Int) : Str := if b = a then sN a else (sN a ++ Str.ofString "-") ++ sN b
theorem span_all (n : Nat) : ((List.range 24).all fun a => (List.range 24).all fun b => decide (b < a) || (isTup2 a b ((fsT T (n + 6)).run 9 [.str (spanS a b)]) && noSp (spanS a b) && decide ((spanS a b).length ≤ 8))) = true := by kernel_rfl
def isTrue1 : R (Vf.W × List D) → Bool
  | .ok ((false, .bl true), []) => true
  | _ => false
theorem name_all (n : Nat) : (pool.all fun x => isTrue1 ((fsT T (n + 6)).run 4 [.str x]) && noSp x && decide (x.length ≤ 8)) = true := by kernel_rfl
def fracS (p : Int × Int) : Str := if p.2 = 1 then sN p.1 else (sN p.1 ++ Str.ofString "/") ++ sN p.2
def isStrR (x : Str) : R (Vf.W × List D) → Bool
  | .ok ((false, .str y), []) => decide (y = x)
  | _ => false
theorem amt_all (n : Nat) : (amts.all fun p => isTup2 p.1 p.2 ((fsT T (n + 6)).run 8 [.str (fracS p)]) && noSp (fracS p) && isTrue1 ((fsT T (n + 6)).run 13 [aD p]) && isStrR (fracS p) ((fsT T (n + 6)).run 28 [aD p]) && decide ((fracS p).length ≤ 8)) = true := by kernel_rfl
theorem num_all : ((List.range 24).all fun a => decide ((sN (a : Nat)).length ≤ 2) && decide ((sN (a : Nat) ++ Str.ofString "-").length ≤ 3) && decide ((Str.ofString "book " ++ sN (a + 1 : Nat)).length ≤ 7) && decide (((Str.ofString "book " ++ sN (a + 1 : Nat)) ++ Str.ofString " ").length ≤ 8)) = true := by kernel_rfl
theorem num_ok {a : Nat} (h : a < 24) : (sN a).length ≤ 2 ∧ (sN a ++ Str.ofString "-").length ≤ 3 ∧ (Str.ofString "book " ++ sN (a + 1 : Nat)).length ≤ 7 ∧ ((Str.ofString "book " ++ sN (a + 1 : Nat)) ++ Str.ofString " ").length ≤ 8 := by
  have := List.all_eq_true.mp num_all a (List.mem_range.mpr h)
  simp only [Bool.and_eq_true, decide_eq_true_eq] at this
  exact ⟨this.1.1.1, this.1.1.2, this.1.2, this.2⟩
theorem tup2_of {a b : Int} {r : R (Vf.W × List D)} (h : isTup2 a b r = true) : r = .ok ((false, .tup [.int a, .int b]), []) := by
  unfold isTup2 at h
  split at h
  · simp only [Bool.and_eq_true, decide_eq_true_eq] at h
    rw [h.1, h.2]
  · cases h
theorem true_of {r : R (Vf.W × List D)} (h : isTrue1 r = true) : r = .ok ((false, .bl true), []) := by
  unfold isTrue1 at h
  split at h
  · rfl
  · cases h
theorem str_of {x : Str} {r : R (Vf.W × List D)} (h : isStrR x r = true) : r = .ok ((false, .str x), []) := by
  unfold isStrR at h
  split at h
  · rw [of_decide_eq_true h]
  · cases h
def Clean (x : Str) : Prop := 32 ∉ x.cps.toList ∧ 10 ∉ x.cps.toList ∧ x.length ≤ 8 ∧ ∀ c ∈ x.cps.toList, c < 1114112
theorem clean_of {x : Str} (h : noSp x = true) (l : x.length ≤ 8) : Clean x := by
  unfold noSp at h
  simp only [Bool.and_eq_true, Bool.not_eq_true', List.contains_eq_mem, decide_eq_false_iff_not, List.all_eq_true, decide_eq_true_eq] at h
  exact ⟨h.1.1, h.1.2, l, h.2⟩
theorem head_ok (n : Nat) {h t : Nat} (h1 : 1 ≤ h) (h2 : h ≤ 24) (t1 : 1 ≤ t) (t2 : t ≤ 4) : (fsT T (n + 6)).run 11 [.str (headS h t)] = .ok ((false, .tup [.int h, .int t]), []) ∧ 10 ∉ (headS h t).cps.toList ∧ (headS h t).length ≤ 20 ∧ ∀ c ∈ (headS h t).cps.toList, c < 1114112 := by
  have := List.all_eq_true.mp (List.all_eq_true.mp (head_all n) (h - 1) (List.mem_range.mpr (by omega))) (t - 1) (List.mem_range.mpr (by omega))
  rw [show h - 1 + 1 = h by omega, show t - 1 + 1 = t by omega] at this
  simp only [Bool.and_eq_true, decide_eq_true_eq, Bool.not_eq_true', List.contains_eq_mem, decide_eq_false_iff_not, List.all_eq_true] at this
  exact ⟨tup2_of this.1.1.1, this.1.1.2, this.1.2, this.2⟩
theorem span_ok (n : Nat) {a b : Nat} (h1 : a ≤ b) (h2 : b < 24) : (fsT T (n + 6)).run 9 [.str (spanS a b)] = .ok ((false, .tup [.int a, .int b]), []) ∧ Clean (spanS a b) := by
  have := List.all_eq_true.mp (List.all_eq_true.mp (span_all n) a (List.mem_range.mpr (by omega))) b (List.mem_range.mpr h2)
  simp only [Bool.or_eq_true, Bool.and_eq_true, decide_eq_true_eq] at this
  rcases this with h | h
  · omega
  · exact ⟨tup2_of h.1.1, clean_of h.1.2 h.2⟩
theorem name_ok (n : Nat) {x : Str} (h : x ∈ pool) : (fsT T (n + 6)).run 4 [.str x] = .ok ((false, .bl true), []) ∧ Clean x := by
  have := List.all_eq_true.mp (name_all n) x h
  simp only [Bool.and_eq_true, decide_eq_true_eq] at this
  exact ⟨true_of this.1.1, clean_of this.1.2 this.2⟩
theorem amt_ok (n : Nat) {p : Int × Int} (h : p ∈ amts) : (fsT T (n + 6)).run 8 [.str (fracS p)] = .ok ((false, aD p), []) ∧ Clean (fracS p) ∧ (fsT T (n + 6)).run 13 [aD p] = .ok ((false, .bl true), []) ∧ (fsT T (n + 6)).run 28 [aD p] = .ok ((false, .str (fracS p)), []) := by
  have := List.all_eq_true.mp (amt_all n) p h
  simp only [Bool.and_eq_true, decide_eq_true_eq] at this
  exact ⟨tup2_of this.1.1.1.1, clean_of this.1.1.1.2 this.2, true_of this.1.1.2, str_of this.1.2⟩
end Pu
end
section
namespace Pu
open PySem hiding fresh Env
open L2 Vf Gn Pv PyProof.Rows TL
local macro_rules
  | `(tactic| simp_arith! [$ls,*]) => `(tactic| simp -implicitDefEqProofs (disch := (have := Pv.sz24; omega)) only [↓Pv.ckP, ↓Pv.chkP, Pv.nd1, Pv.nd2, Int.reducePow, Pv.sz24, Int.reduceEq, Int.reduceNe, Int.reduceLT, Int.reduceLE, Int.reduceAdd, Int.reduceSub, Nat.reduceEqDiff, Nat.reducePow, Nat.reduceLeDiff, Nat.reduceLT, Nat.reduceMul, Int.reduceToNat, Int.reduceNeg, decide_true, decide_false, ↓Pv.toB, ↓Pv.toF, ↓Pv.toL, ↓Pv.toW, Pv.bI_ok, Pv.bI_as, reduceCtorEq, ne_eq, not_false_eq_true, and_self, and_true, true_and, or_true, true_or, Pv.fs_inoE, runDef, env0, evalS, evalE, evalEs, evalAs, inoA, getAs, Arg.get, backAs, inoIx, opd, readV, Pv.g0, Pv.gS, Pv.s0, Pv.sS, Op.get, Cn.d, R.of_some,  Pv.chkT, Pv.ckT, vw, Vf.fresh, outs, bindP, Pv.moF, Pv.moL, Pv.moD, part?, wipeE, backE,
  Pv.b_le, Pv.b_lt, Pv.b_ge, Pv.b_gt, Pv.b_add, Pv.b_sub, Pv.b_adds, Pv.b_addl, Pv.b_mul, Pv.b_fdiv, Pv.b_mod, Pv.b_gcd, Pv.b_ixl, Pv.b_ixt, Pv.b_max, Pv.b_min, Pv.u_lens, Pv.u_lenl, Pv.u_lent, Pv.u_int, Pv.u_intb, Pv.u_abs, Pv.b_pow, Pv.b_eqd, Pv.b_ned, Pv.u_str, Pv.u_neg, Pv.u_lst, Pv.u_tup, Pv.u_lrng, Pv.u_isn, isNonD, isOwnL, isOwnD, mods, opB, cndB, src, Pv.e_ii, Pv.e_bb, Pv.t_bl, Pv.t_int, Pv.t_lst, Pv.t_tup, Pv.t_non, isT,
  List.length_cons, List.length_nil, List.zip_cons_cons, List.zip_nil_left, List.zip_nil_right, List.map_cons, List.map_nil, List.cons_append, List.nil_append, List.replicate, Nat.sub_self, Nat.reduceAdd, Nat.reduceSub, List.append_nil, List.nodup_nil, eq_self,
  Option.map_some, Option.bind_some, Bool.false_eq_true, Bool.true_eq_false, if_true, if_false, reduceIte, Bool.not_true, Bool.not_false, ino0, ino1, ino2, ino3, ino4, ino5, ino6, ino7, ino8, ino9, ino10, ino11, ino12, ino13, ino14, ino15, ino16, ino17, ino18, ino19, ino20, ino21, ino22, ino23, ino24, ino25, ino26, ino27, ino28, ino29, ino30, ino31, ino32, ino33, ino34, ino35, ino36, ino37, ino38, ino39, ino40, ino41, ino42, ino43, ino44, ino45, ino46, ino47, ino48, ino49, part?, $ls,*])
theorem len_app (x y : Str) : (x ++ y).length = x.length + y.length := by rw [len_tl, tl_append, List.length_append, ← len_tl, ← len_tl]
theorem len_join (s : Str) : ∀ ss : List Str, (Txt.join s ss).length ≤ (ss.map fun x => x.length).sum + ss.length * s.length := by
  intro ss
  rw [join_eq]
  induction ss with
  | nil => rw [len_tl, tl_join]; simp [joinL]
  | cons x ss ih =>
    cases ss with
    | nil => rw [len_tl, tl_join]; simp [joinL, len_tl]
    | cons z r =>
      rw [show Str.join s (x :: z :: r) = x ++ s ++ Str.join s (z :: r) from rfl, len_app, len_app]
      simp only [List.map_cons, List.sum_cons, List.length_cons, Nat.add_mul, Nat.one_mul] at ih ⊢
      omega
theorem strs_map : ∀ l : List Str, strsD (l.map .str) = some l
  | [] => rfl
  | x :: l => by rw [List.map_cons, strsD, strs_map l]; rfl
def runW (p : Nat × Nat) : Str := spanS p.1 p.2
theorem log_small {i : Int} (h0 : 0 ≤ i) (h : i < 1000) : i.natAbs.log2 < 1920 := by
  have := Nat.log2_le_self i.natAbs
  omega
theorem spans_rd : ∀ (ps : List (Nat × Nat)), (ps.map seg).map (fun l => D.lst (l.map .int)) = ps.map fun p => D.lst ((seg p).map .int) := fun ps => by rw [List.map_map]; rfl
theorem all_fm {α β : Type} (g : α → D) (f : D → Option D) (k : α → D) : ∀ {l : List α}, (∀ p ∈ l, f (g p) = some (k p)) → (l.map g).filterMap f = l.map k
  | [], _ => rfl
  | x :: l, h => by
    rw [List.map_cons, List.filterMap_cons, h x List.mem_cons_self, List.map_cons, all_fm (β := β) g f k fun p hp => h p (List.mem_cons_of_mem _ hp)]
def spF1 : D → Option D
  | .lst xs => match xs.head?, xs.getLast? with
    | some (.int a), some (.int b) => some (.str (spanS a b))
    | _, _ => none
  | _ => none
theorem spF_seg {a b : Nat} (h : a ≤ b) : spF1 (.lst ((seg (a, b)).map .int)) = some (.str (spanS a b)) := by
  have h0 : ((seg (a, b)).map D.int).head? = some (.int a) := by
    have := seg_at0 h
    rw [show (0 : Int) = ((0 : Nat) : Int) by rfl, atI_nat (by rw [List.length_map, seg_len]; show 0 < b + 1 - a; omega)] at this
    rw [List.head?_eq_getElem?, List.getElem?_eq_getElem (by rw [List.length_map, seg_len]; show 0 < b + 1 - a; omega)]
    exact this
  have h1 : ((seg (a, b)).map D.int).getLast? = some (.int b) := by rw [List.getLast?_map, seg_last h]; rfl
  simp only [spF1, h0, h1]
theorem ints_of : ∀ l : List Int, intsD (l.map .int) = some l
  | [] => rfl
  | x :: l => by rw [List.map_cons, intsD, ints_of l]; rfl
theorem spans_ok (n : Nat) {h : Nat} (h2 : h ≤ 24) {hs : List Int} {ps : List (Nat × Nat)} (hr : runsG [] hs = ps.map seg) (hp : Sp h ps) (hl : hs.length ≤ 24) (hpl : ps.length ≤ 24) : Ok ((fsT T (n + 1)).run 29 [.lst (hs.map .int)]) fun r => r = ((true, .lst (ps.map fun p => .str (runW p))), []) := by
  have so : spansOf (some (.own, .lst [])) (some (.sh, .lst (hs.map .int))) = some (ps.map fun p => D.lst ((seg p).map .int)) := by
    show ((intsD (hs.map D.int)).bind fun ns => if ns.length < 1000000 then some ((runsG [] ns).map fun l => D.lst (l.map .int)) else none) = _
    rw [ints_of, Option.bind_some, if_pos (by omega), hr, spans_rd]
  rw [run_def (d := d29) rfl]
  simp_arith! [d29, b29, noOwn, List.all_cons, List.all_nil, Bool.and_self, so]
  refine Ok.bind (lcSP (xs := ps.map fun p => D.lst ((seg p).map .int)) spF1 (m := .own) rfl ?_ ?_) ?_
  · rw [List.length_map, sz24]; omega
  · intro x hx
    obtain ⟨⟨a, b⟩, hab, rfl⟩ := List.mem_map.mp hx
    obtain ⟨h1, h3⟩ := hp.1 _ hab
    have h1 : a ≤ b := h1
    have h3 : b < h := h3
    have n1 := num_ok (a := a) (by omega)
    have n2 := num_ok (a := b) (by omega)
    have g1 := log_small (i := (a : Int)) (by omega) (by omega)
    have g2 := log_small (i := (b : Int)) (by omega) (by omega)
    rw [spF_seg h1]
    have sl : ((seg (a, b)).map D.int).length = b + 1 - a := by rw [List.length_map, seg_len]
    by_cases e : b = a
    · subst e
      have q : (((b + 1 - b : Nat) : Int) == 1) = true := by
        rw [show b + 1 - b = 1 by omega]; rfl
      simp_arith! [sl, e_ii, q, seg_at0 h1]
      refine Ok.ret ?_
      simp [spanS]
    · have q : (((b + 1 - a : Nat) : Int) == 1) = false := beq_eq_false_iff_ne.mpr (by omega)
      have l0 : (Str.ofString "-").length = 1 := rfl
      simp_arith! [sl, e_ii, q, seg_at0 h1, seg_atm h1]
      refine Ok.ret ?_
      rw [spanS, if_neg (by omega)]
  · rintro _ rfl
    rw [all_fm (β := Unit) _ _ (fun p => .str (runW p)) (fun p hpp => spF_seg (hp.1 p hpp).1)]
    simp_arith! []
    exact Ok.ret rfl
def lineW (k : Kd) (ps : List (Nat × Nat)) : List Str := [Str.ofString "kind", k.1, fracS k.2.1] ++ ps.map runW
def lineS (k : Kd) : Str := Txt.join (Str.ofString " ") ([Str.ofString "kind", k.1, fracS k.2.1] ++ (runsG [] k.2.2).map fun r => match r.head?, r.getLast? with | some a, some b => spanS a b | _, _ => Str.empty)
theorem lineS_eq {k : Kd} {ps : List (Nat × Nat)} {h : Nat} (hr : runsG [] k.2.2 = ps.map seg) (hp : Sp h ps) : lineS k = Txt.join (Str.ofString " ") (lineW k ps) := by
  unfold lineS lineW
  rw [hr, List.map_map]
  congr 2
  refine List.map_congr_left fun p hpp => ?_
  obtain ⟨a, b⟩ := p
  have h1 : a ≤ b := (hp.1 _ hpp).1
  have h0 : (seg (a, b)).head? = some (a : Int) := by
    rw [List.head?_eq_getElem?, List.getElem?_eq_getElem (by rw [seg_len]; show 0 < b + 1 - a; omega)]
    simp [seg]
  show (match (seg (a, b)).head?, (seg (a, b)).getLast? with | some a, some b => spanS a b | _, _ => Str.empty) = _
  rw [h0, seg_last h1]
  rfl
theorem seg_flat_len {H : Nat} : ∀ {ps : List (Nat × Nat)}, (∀ p ∈ ps, p.1 ≤ p.2 ∧ p.2 < H) → ps.length ≤ (ps.flatMap seg).length
  | [], _ => by simp
  | p :: ps, h => by
    have := seg_flat_len (ps := ps) fun q hq => h q (List.mem_cons_of_mem _ hq)
    have h1 := (h p List.mem_cons_self).1
    rw [List.flatMap_cons, List.length_append, seg_len, List.length_cons]
    omega
theorem sum_le {ws : List Str} (h : ∀ w ∈ ws, w.length ≤ 8) : (ws.map fun x => x.length).sum ≤ 8 * ws.length := by
  induction ws with
  | nil => simp
  | cons w ws ih =>
    have := ih fun x hx => h x (List.mem_cons_of_mem _ hx)
    have := h w List.mem_cons_self
    simp only [List.map_cons, List.sum_cons, List.length_cons]
    omega
structure KOk (h : Int) (k : Kd) (H : Nat) (ps : List (Nat × Nat)) : Prop where
  hH : h = H
  h24 : H ≤ 24
  pl : k.1 ∈ pool
  am : k.2.1 ∈ amts
  ho : HOk h k.2.2
  hr : runsG [] k.2.2 = ps.map seg
  sp : Sp H ps
  fl : ps.flatMap seg = k.2.2
  ne : ps ≠ []
  l24 : ps.length ≤ 24
theorem kok_of {h t : Int} {ks : List Kd} (B : BOk h t ks) {k : Kd} (hk : k ∈ ks) : ∃ H ps, KOk h k H ps := by
  obtain ⟨H, rfl⟩ := Int.eq_ofNat_of_zero_le (show 0 ≤ h by have := B.h1; omega)
  have h24 : H ≤ 24 := by have := B.h2; omega
  obtain ⟨a, b, c⟩ := B.ok k hk
  obtain ⟨ps, q1, q2, q3, q4⟩ := runs_ok (h := H) c
  refine ⟨H, ps, rfl, h24, a, b, c, q1, q2, q3, q4, ?_⟩
  have := seg_flat_len q2.1
  rw [q3] at this
  have := c.len (by omega)
  omega
theorem KOk.words {h : Int} {k : Kd} {H : Nat} {ps : List (Nat × Nat)} (K : KOk h k H ps) : ∀ w ∈ lineW k ps, Clean w := by
  intro w hw
  unfold lineW at hw
  rcases List.mem_append.mp hw with hw | hw
  · simp only [List.mem_cons, List.not_mem_nil, or_false] at hw
    rcases hw with rfl | rfl | rfl
    · exact ⟨by decide +kernel, by decide +kernel, by decide +kernel, by decide +kernel⟩
    · exact (name_ok 0 K.pl).2
    · exact (amt_ok 0 K.am).2.1
  · obtain ⟨p, hp, rfl⟩ := List.mem_map.mp hw
    have := K.sp.1 p hp
    have := K.h24
    exact (span_ok 0 (a := p.1) (b := p.2) (by omega) (by omega)).2
theorem KOk.wlen {h : Int} {k : Kd} {H : Nat} {ps : List (Nat × Nat)} (K : KOk h k H ps) : (lineW k ps).length ≤ 27 := by
  have := K.l24
  unfold lineW
  rw [List.length_append, List.length_map]
  simp
  omega
theorem KOk.len {h : Int} {k : Kd} {H : Nat} {ps : List (Nat × Nat)} (K : KOk h k H ps) : (lineS k).length ≤ 250 := by
  rw [lineS_eq K.hr K.sp]
  have h1 := len_join (Str.ofString " ") (lineW k ps)
  have h2 := sum_le fun w hw => (K.words w hw).2.2.1
  have h3 := K.wlen
  have h4 : (Str.ofString " ").length = 1 := rfl
  rw [h4] at h1
  omega
theorem line_ok (n : Nat) {h : Int} {k : Kd} {H : Nat} {ps : List (Nat × Nat)} (K : KOk h k H ps) : Ok ((fsT T (n + 7)).run 30 [kD k]) fun r => r = ((false, .str (lineS k)), []) := by
  have a0 : ∀ a b c : D, atI [a, b, c] 0 = some a := fun _ _ _ => rfl
  have a1 : ∀ a b c : D, atI [a, b, c] 1 = some b := fun _ _ _ => rfl
  have a2 : ∀ a b c : D, atI [a, b, c] 2 = some c := fun _ _ _ => rfl
  have am := (amt_ok n K.am).2.2.2
  have hl := K.ho.len (by have := K.hH; have := K.h24; omega)
  have pl := K.l24
  rw [run_def (d := d30) rfl]
  simp_arith! [d30, b30, kD, isStrD, a0, a1, a2, am]
  refine Ok.bind (spans_ok _ K.h24 K.hr K.sp hl K.l24) ?_
  rintro _ rfl
  have j : bi1 .join (.str (Str.ofString " ")) (.lst ((lineW k ps).map .str)) = vw (.str (lineS k)) := by
    show (match strsD ((lineW k ps).map D.str) with | some ss => ck ((ss.map fun (x : Str) => x.length).sum + ss.length * (Str.ofString " ").length ≤ 16777216) (vw (.str (Txt.join (Str.ofString " ") ss))) | none => none) = _
    rw [strs_map, lineS_eq K.hr K.sp]
    refine ckP ?_
    have h2 := sum_le fun w hw => (K.words w hw).2.2.1
    have h3 := K.wlen
    rw [show (Str.ofString " ").length = 1 from rfl]
    omega
  have e : [D.str (Str.ofString "kind"), D.str k.1, D.str (fracS k.2.1)] ++ ps.map (fun p => D.str (runW p)) = (lineW k ps).map .str := by
    unfold lineW
    rw [List.map_append, List.map_map]
    rfl
  simp_arith! [List.length_map, e]
  rw [j]
  simp_arith! []
  exact Ok.ret rfl
def textS (h t : Int) (ks : List Kd) : Str := Txt.join (Str.ofString "\n") (headS h t :: ks.map lineS)
end Pu
end
section
namespace Pu
open PySem hiding fresh Env
open L2 Vf Gn Pv PyProof.Rows TL
local macro_rules
  | `(tactic| simp_arith! [$ls,*]) => `(tactic| simp -implicitDefEqProofs (disch := (have := Pv.sz24; omega)) only [↓Pv.ckP, ↓Pv.chkP, Pv.nd1, Pv.nd2, Int.reducePow, Pv.sz24, Int.reduceEq, Int.reduceNe, Int.reduceLT, Int.reduceLE, Int.reduceAdd, Int.reduceSub, Nat.reduceEqDiff, Nat.reducePow, Nat.reduceLeDiff, Nat.reduceLT, Nat.reduceMul, Int.reduceToNat, Int.reduceNeg, decide_true, decide_false, ↓Pv.toB, ↓Pv.toF, ↓Pv.toL, ↓Pv.toW, Pv.bI_ok, Pv.bI_as, reduceCtorEq, ne_eq, not_false_eq_true, and_self, and_true, true_and, or_true, true_or, Pv.fs_inoE, runDef, env0, evalS, evalE, evalEs, evalAs, inoA, getAs, Arg.get, backAs, inoIx, opd, readV, Pv.g0, Pv.gS, Pv.s0, Pv.sS, Op.get, Cn.d, R.of_some,  Pv.chkT, Pv.ckT, vw, Vf.fresh, outs, bindP, Pv.moF, Pv.moL, Pv.moD, part?, wipeE, backE,
  Pv.b_le, Pv.b_lt, Pv.b_ge, Pv.b_gt, Pv.b_add, Pv.b_sub, Pv.b_adds, Pv.b_addl, Pv.b_mul, Pv.b_fdiv, Pv.b_mod, Pv.b_gcd, Pv.b_ixl, Pv.b_ixt, Pv.b_max, Pv.b_min, Pv.u_lens, Pv.u_lenl, Pv.u_lent, Pv.u_int, Pv.u_intb, Pv.u_abs, Pv.b_pow, Pv.b_eqd, Pv.b_ned, Pv.u_str, Pv.u_neg, Pv.u_lst, Pv.u_tup, Pv.u_lrng, Pv.u_isn, isNonD, isOwnL, isOwnD, mods, opB, cndB, src, Pv.e_ii, Pv.e_bb, Pv.t_bl, Pv.t_int, Pv.t_lst, Pv.t_tup, Pv.t_non, isT,
  List.length_cons, List.length_nil, List.zip_cons_cons, List.zip_nil_left, List.zip_nil_right, List.map_cons, List.map_nil, List.cons_append, List.nil_append, List.replicate, Nat.sub_self, Nat.reduceAdd, Nat.reduceSub, List.append_nil, List.nodup_nil, eq_self,
  Option.map_some, Option.bind_some, Bool.false_eq_true, Bool.true_eq_false, if_true, if_false, reduceIte, Bool.not_true, Bool.not_false, ino0, ino1, ino2, ino3, ino4, ino5, ino6, ino7, ino8, ino9, ino10, ino11, ino12, ino13, ino14, ino15, ino16, ino17, ino18, ino19, ino20, ino21, ino22, ino23, ino24, ino25, ino26, ino27, ino28, ino29, ino30, ino31, ino32, ino33, ino34, ino35, ino36, ino37, ino38, ino39, ino40, ino41, ino42, ino43, ino44, ino45, ino46, ino47, ino48, ino49, part?, $ls,*])
theorem get_hours (a b c : D) : bi1 .idx (.dic [(.inr (Str.ofString "hours"), a), (.inr (Str.ofString "telescopes"), b), (.inr (Str.ofString "kinds"), c)]) (.str (Str.ofString "hours")) = vw a := by rfl
theorem get_tel (a b c : D) : bi1 .idx (.dic [(.inr (Str.ofString "hours"), a), (.inr (Str.ofString "telescopes"), b), (.inr (Str.ofString "kinds"), c)]) (.str (Str.ofString "telescopes")) = vw b := by rfl
theorem get_kinds (a b c : D) : bi1 .idx (.dic [(.inr (Str.ofString "hours"), a), (.inr (Str.ofString "telescopes"), b), (.inr (Str.ofString "kinds"), c)]) (.str (Str.ofString "kinds")) = vw c := by rfl
theorem lines_len {h t : Int} {ks : List Kd} (B : BOk h t ks) : ∀ w ∈ ks.map lineS, w.length ≤ 250 := by
  intro w hw
  obtain ⟨k, hk, rfl⟩ := List.mem_map.mp hw
  obtain ⟨H, ps, K⟩ := kok_of B hk
  exact K.len
theorem sum_le2 {m : Nat} {ws : List Str} (h : ∀ w ∈ ws, w.length ≤ m) : (ws.map fun (x : Str) => x.length).sum ≤ m * ws.length := by
  induction ws with
  | nil => simp
  | cons w ws ih =>
    have := ih fun x hx => h x (List.mem_cons_of_mem _ hx)
    have := h w List.mem_cons_self
    simp only [List.map_cons, List.sum_cons, List.length_cons, Nat.mul_add, Nat.mul_one]
    omega
theorem BOk.nat {h t : Int} {ks : List Kd} (B : BOk h t ks) : ∃ H K : Nat, h = H ∧ t = K ∧ 1 ≤ H ∧ H ≤ 24 ∧ 1 ≤ K ∧ K ≤ 4 := by
  obtain ⟨h1, h2, h3, h4⟩ := B
  exact ⟨h.toNat, t.toNat, by omega, by omega, by omega, by omega, by omega, by omega⟩
theorem BOk.head {h t : Int} {ks : List Kd} (B : BOk h t ks) : 10 ∉ (headS h t).cps.toList ∧ (headS h t).length ≤ 20 := by
  obtain ⟨H, K, rfl, rfl, h1, h2, h3, h4⟩ := B.nat
  exact ⟨(head_ok 0 h1 h2 h3 h4).2.1, (head_ok 0 h1 h2 h3 h4).2.2.1⟩
theorem join_head {x : Str} {ls : List Str} (hx : x.length ≤ 20) (hl : ∀ w ∈ ls, w.length ≤ 250) (h8 : ls.length ≤ 8) : bi1 .join (.str (Str.ofString "\n")) (.lst ((x :: ls).map .str)) = vw (.str (Txt.join (Str.ofString "\n") (x :: ls))) := by
  show (match strsD ((x :: ls).map D.str) with | some ss => ck ((ss.map fun (x : Str) => x.length).sum + ss.length * (Str.ofString "\n").length ≤ 16777216) (vw (.str (Txt.join (Str.ofString "\n") ss))) | none => none) = _
  rw [strs_map]
  refine ckP ?_
  have h2 := sum_le2 hl
  rw [show (Str.ofString "\n").length = 1 from rfl]
  simp only [List.map_cons, List.sum_cons, List.length_cons]
  omega
def lnF : D → Option D
  | .tup [.str n, .tup [.int a, .int b], .lst hs] => (intsD hs).map fun l => .str (lineS (n, (a, b), l))
  | _ => none
theorem lnF_kD (k : Kd) : lnF (kD k) = some (.str (lineS k)) := by
  show (intsD (k.2.2.map D.int)).map _ = _
  rw [ints_of]; rfl
theorem text_ok (n : Nat) {h t : Int} {ks : List Kd} (B : BOk h t ks) : Ok ((fsT T (n + 8)).run 31 [ownD h t ks]) fun r => r = ((false, .str (textS h t ks)), []) := by
  have l8 := B.len
  have g1 := log_small (i := h) (by have := B.h1; omega) (by have := B.h2; omega)
  have g2 := log_small (i := t) (by have := B.t1; omega) (by have := B.t2; omega)
  obtain ⟨H, K, rfl, rfl, q1, q2, q3, q4⟩ := B.nat
  have n1 := (num_ok (a := H - 1) (by omega)).2.2
  rw [show H - 1 + 1 = H by omega] at n1
  have n2 := (num_ok (a := K) (by omega)).1
  have b5 : (Str.ofString "book ").length = 5 := rfl
  have b1 : (Str.ofString " ").length = 1 := rfl
  have n4 : (sN H).length ≤ 2 := by have := n1.1; rw [len_app] at this; omega
  have n5 := n1.1
  have n6 := n1.2
  rw [run_def (d := d31) rfl]
  simp_arith! [d31, b31, ownD, get_hours, get_tel, get_kinds, isStrD]
  refine Ok.bind (lcP lnF (by rw [List.length_map, sz24]; omega) ?_) ?_
  · intro x hx
    obtain ⟨k, hk, rfl⟩ := List.mem_map.mp hx
    obtain ⟨_, _, KK⟩ := kok_of B hk
    rw [lnF_kD]
    simp_arith! []
    refine Ok.bind (line_ok _ KK) ?_
    rintro _ rfl
    simp_arith! []
    exact Ok.ret rfl
  · rintro _ rfl
    rw [all_fm (β := Unit) kD lnF (fun k => .str (lineS k)) (fun k _ => lnF_kD k)]
    have e : D.str (headS H K) :: ks.map (fun k => D.str (lineS k)) = ((headS H K) :: ks.map lineS).map .str := by rw [List.map_cons, List.map_map]; rfl
    have e0 : Str.ofString "book " ++ sN H ++ Str.ofString " " ++ sN K = headS H K := rfl
    have jh := join_head (x := headS H K) (ls := ks.map lineS) B.head.2 (lines_len B) (by rw [List.length_map]; exact l8)
    simp_arith! [List.length_map, e0]
    rw [e, jh]
    simp_arith! []
    exact Ok.ret rfl
theorem b_lrng2 (i j : Int) : bi1 .lrng2 (.int i) (.int j) = ck (-(2 ^ 62) ≤ i ∧ i < 2 ^ 62 ∧ -(2 ^ 62) ≤ j ∧ j < 2 ^ 62 ∧ (j - i).toNat ≤ sizeLine) (Vf.fresh (.lst (rngD i (j - i).toNat))) := rfl
theorem seg_rng (a b : Nat) : rngD a ((b : Int) + 1 - a).toNat = (seg (a, b)).map .int := by
  unfold rngD seg
  rw [List.map_map, show ((b : Int) + 1 - a).toNat = b + 1 - a by omega]
  rfl
theorem flat_last {ps : List (Nat × Nat)} {a b : Nat} (h : a ≤ b) : (((ps ++ [(a, b)]).flatMap seg).map D.int).getLast? = some (.int b) := by
  rw [List.flatMap_append, List.flatMap_singleton, List.map_append, List.getLast?_append, List.getLast?_map, seg_last h]
  rfl
theorem flat_lt {H : Nat} {ps : List (Nat × Nat)} (hp : ∀ p ∈ ps, p.2 < H) : (ps.flatMap seg).length ≤ ps.length * H := by
  induction ps with
  | nil => simp
  | cons p ps ih =>
    have := ih fun q hq => hp q (List.mem_cons_of_mem _ hq)
    have h1 := hp p List.mem_cons_self
    rw [List.flatMap_cons, List.length_append, seg_len, List.length_cons, Nat.add_mul, Nat.one_mul]
    omega
theorem hspans_ok (n : Nat) {H : Nat} (h24 : H ≤ 24) {ps : List (Nat × Nat)} (S : Sp H ps) (hl : ps.length ≤ 24) : Ok ((fsT T (n + 7)).run 10 [.lst (ps.map fun p => .str (runW p)), .int H]) fun r => r = ((false, .tup ((ps.flatMap seg).map .int)), []) := by
  rw [run_def (d := d10) rfl]
  simp_arith! [d10, b10]
  refine Ok.bind (forO (fun i env => ∃ s3 s4 s5 : Option (Md × D), env = [some (.sh, .lst (ps.map fun p => .str (runW p))), some (.sh, .int H), some (.own, .lst (((ps.take i).flatMap seg).map .int)), s3, s4, s5]) ⟨none, none, none, rfl⟩ ?_) ?_
  · rintro i x env hx ⟨s3, s4, s5, rfl⟩
    rw [List.getElem?_map, Option.map_eq_some_iff] at hx
    obtain ⟨⟨a, b⟩, hp, rfl⟩ := hx
    have hi := (List.getElem?_eq_some_iff.mp hp).1
    have hm := List.mem_of_getElem? hp
    have ab : a ≤ b := (S.1 _ hm).1
    have bH : b < H := (S.1 _ hm).2
    have so := (span_ok n (a := a) (b := b) ab (by omega)).1
    have tk : ps.take (i + 1) = ps.take i ++ [(a, b)] := by rw [List.take_succ, hp]; rfl
    have fl := flat_lt (H := H) (ps := ps.take i) fun p hp => (S.1 p (List.mem_of_mem_take hp)).2
    have fl2 : ((ps.take i).flatMap seg).length ≤ 24 * 24 := Nat.le_trans fl (Nat.mul_le_mul (by rw [List.length_take]; omega) h24)
    have rl : (runW (a, b)) = spanS a b := rfl
    have fin : (((ps.take i).flatMap seg).map D.int) ++ ((seg (a, b)).map D.int) = (((ps.take (i + 1)).flatMap seg).map .int) := by rw [tk, List.flatMap_append, List.flatMap_singleton, List.map_append]
    have la : ((((ps.take i).flatMap seg).map D.int)).length ≤ 600 := by rw [List.length_map]; omega
    have lb : ((seg (a, b)).map D.int).length ≤ 600 := by rw [List.length_map, seg_len]; show b + 1 - a ≤ 600; omega
    have c2 : decide ((H : Int) ≤ (b : Int)) = false := decide_eq_false (by omega)
    rcases List.eq_nil_or_concat (ps.take i) with e | ⟨qs, ⟨a', b'⟩, e⟩
    · have em : (((ps.take i).flatMap seg).map D.int).isEmpty = true := by rw [e]; rfl
      have c1 : decide ((a : Int) < 0) = false := decide_eq_false (by omega)
      simp_arith! [rl, so, em, a20, a21, c1, c2, b_lrng2, seg_rng, fin]
      refine Ok.ret ?_
      exact ⟨_, .inl rfl, _, _, _, rfl⟩
    · rw [List.concat_eq_append] at e
      have pm : (a', b') ∈ ps.take i := by rw [e]; simp
      have ab' : a' ≤ b' := (S.1 _ (List.mem_of_mem_take pm)).1
      have gl := atI_m1 (show (((ps.take i).flatMap seg).map D.int).getLast? = some (.int b') by rw [e]; exact flat_last ab')
      have em : (((ps.take i).flatMap seg).map D.int).isEmpty = false := by
        cases q : ((ps.take i).flatMap seg).map D.int with
        | nil => rw [q] at gl; cases gl
        | cons x l => rfl
      have sep : b' + 2 ≤ a := by
        have := S.2
        rw [← List.take_append_drop (i + 1) ps, tk] at this
        exact (List.pairwise_append.mp (List.pairwise_append.mp this).1).2.2 _ pm (a, b) (by simp)
      have c1 : decide ((a : Int) < (b' : Int) + 2) = false := decide_eq_false (by omega)
      simp_arith! [rl, so, em, gl, a20, a21, c1, c2, b_lrng2, seg_rng, fin]
      refine Ok.ret ?_
      exact ⟨_, .inl rfl, _, _, _, rfl⟩
  · rintro _ ⟨env, rfl, s3, s4, s5, rfl⟩
    rw [List.length_map, List.take_length]
    simp_arith! []
    exact Ok.ret rfl
end Pu
end
section
namespace Pu
open PySem hiding fresh Env
open L2 Vf Gn Pv PyProof.Rows TL
local macro_rules
  | `(tactic| simp_arith! [$ls,*]) => `(tactic| simp -implicitDefEqProofs (disch := (have := Pv.sz24; omega)) only [↓Pv.ckP, ↓Pv.chkP, Pv.nd1, Pv.nd2, Int.reducePow, Pv.sz24, Int.reduceEq, Int.reduceNe, Int.reduceLT, Int.reduceLE, Int.reduceAdd, Int.reduceSub, Nat.reduceEqDiff, Nat.reducePow, Nat.reduceLeDiff, Nat.reduceLT, Nat.reduceMul, Int.reduceToNat, Int.reduceNeg, decide_true, decide_false, ↓Pv.toB, ↓Pv.toF, ↓Pv.toL, ↓Pv.toW, Pv.bI_ok, Pv.bI_as, reduceCtorEq, ne_eq, not_false_eq_true, and_self, and_true, true_and, or_true, true_or, Pv.fs_inoE, runDef, env0, evalS, evalE, evalEs, evalAs, inoA, getAs, Arg.get, backAs, inoIx, opd, readV, Pv.g0, Pv.gS, Pv.s0, Pv.sS, Op.get, Cn.d, R.of_some,  Pv.chkT, Pv.ckT, vw, Vf.fresh, outs, bindP, Pv.moF, Pv.moL, Pv.moD, part?, wipeE, backE,
  Pv.b_le, Pv.b_lt, Pv.b_ge, Pv.b_gt, Pv.b_add, Pv.b_sub, Pv.b_adds, Pv.b_addl, Pv.b_mul, Pv.b_fdiv, Pv.b_mod, Pv.b_gcd, Pv.b_ixl, Pv.b_ixt, Pv.b_max, Pv.b_min, Pv.u_lens, Pv.u_lenl, Pv.u_lent, Pv.u_int, Pv.u_intb, Pv.u_abs, Pv.b_pow, Pv.b_eqd, Pv.b_ned, Pv.u_str, Pv.u_neg, Pv.u_lst, Pv.u_tup, Pv.u_lrng, Pv.u_isn, isNonD, isOwnL, isOwnD, mods, opB, cndB, src, Pv.e_ii, Pv.e_bb, Pv.t_bl, Pv.t_int, Pv.t_lst, Pv.t_tup, Pv.t_non, isT,
  List.length_cons, List.length_nil, List.zip_cons_cons, List.zip_nil_left, List.zip_nil_right, List.map_cons, List.map_nil, List.cons_append, List.nil_append, List.replicate, Nat.sub_self, Nat.reduceAdd, Nat.reduceSub, List.append_nil, List.nodup_nil, eq_self,
  Option.map_some, Option.bind_some, Bool.false_eq_true, Bool.true_eq_false, if_true, if_false, reduceIte, Bool.not_true, Bool.not_false, ino0, ino1, ino2, ino3, ino4, ino5, ino6, ino7, ino8, ino9, ino10, ino11, ino12, ino13, ino14, ino15, ino16, ino17, ino18, ino19, ino20, ino21, ino22, ino23, ino24, ino25, ino26, ino27, ino28, ino29, ino30, ino31, ino32, ino33, ino34, ino35, ino36, ino37, ino38, ino39, ino40, ino41, ino42, ino43, ino44, ino45, ino46, ino47, ino48, ino49, part?, $ls,*])
theorem split_line {h : Int} {k : Kd} {H : Nat} {ps : List (Nat × Nat)} (K : KOk h k H ps) : Txt.split (lineS k) (Str.ofString " ") = lineW k ps := by
  rw [lineS_eq K.hr K.sp]
  exact split_join (s := 32) (S := []) rfl (by decide +kernel) (by unfold lineW; simp) fun p hp => (K.words p hp).1
theorem b_split (a b : Str) : bi1 .split (.str a) (.str b) = ck ((b.length == 0) = false ∧ a.length + 2 ≤ sizeLine) (Vf.fresh (.lst ((Txt.split a b).map .str))) := rfl
theorem eq_kind : dEq (.str (Str.ofString "kind")) (.str (Str.ofString "kind")) = some true := by kernel_rfl
theorem eq_book : dEq (.str (Str.ofString "book")) (.str (Str.ofString "book")) = some true := by kernel_rfl
theorem slc_l (xs : List D) (lo hi : Option Int) : slc1 (.lst xs) lo hi = Vf.fresh (.lst (Vf.cutD xs lo hi)) := rfl
theorem cut3 (a b c : D) (l : List D) : Vf.cutD (a :: b :: c :: l) (some 3) none = l := by
  unfold Vf.cutD HT.sIx
  simp
theorem cut1 (a : D) (l : List D) : Vf.cutD (a :: l) (some 1) none = l := by
  unfold Vf.cutD HT.sIx
  simp
theorem at4_0 (a : D) (l : List D) : atI (a :: l) 0 = some a := by
  have := atI_nat (xs := a :: l) (i := 0) (by simp)
  exact this
theorem at4_1 (a b c : D) (l : List D) : atI (a :: b :: c :: l) 1 = some b := by
  have := atI_nat (xs := a :: b :: c :: l) (i := 1) (by simp)
  exact this
theorem at4_2 (a b c : D) (l : List D) : atI (a :: b :: c :: l) 2 = some c := by
  have := atI_nat (xs := a :: b :: c :: l) (i := 2) (by simp)
  exact this
theorem kind_ok (n : Nat) {h : Int} {k : Kd} {H : Nat} {ps : List (Nat × Nat)} (K : KOk h k H ps) : Ok ((fsT T (n + 8)).run 12 [.str (lineS k), .int H]) fun r => r = ((false, .tup [.str k.1, aD k.2.1, .tup (k.2.2.map .int)]), []) := by
  have hl := K.len
  have sp := split_line K
  have s1 : ((Str.ofString " ").length == 0) = false := rfl
  have wl : lineW k ps = Str.ofString "kind" :: k.1 :: fracS k.2.1 :: ps.map runW := rfl
  have nm : (fsT T (n + 7)).run 4 [.str k.1] = _ := (name_ok (n + 1) K.pl).1
  have am1 : (fsT T (n + 7)).run 8 [.str (fracS k.2.1)] = _ := (amt_ok (n + 1) K.am).1
  have am2 : (fsT T (n + 7)).run 13 [aD k.2.1] = _ := (amt_ok (n + 1) K.am).2.2.1
  have p0 : 0 < ps.length := List.length_pos_iff.mpr K.ne
  have pl := K.l24
  have mm : (ps.map runW).map D.str = ps.map fun p => .str (runW p) := by rw [List.map_map]; rfl
  have c1 : decide ((((ps.map fun p => D.str (runW p)).length + 1 + 1 + 1 : Nat) : Int) < 4) = false := decide_eq_false (by rw [List.length_map]; omega)
  rw [run_def (d := d12) rfl]
  simp_arith! [d12, b12, isStrD, b_split, s1, sp, wl, slc_l, mm, c1, at4_0, at4_1, at4_2, eq_kind, nm, am1, cut3]
  refine Ok.bind (hspans_ok _ K.h24 K.sp K.l24) ?_
  rintro _ rfl
  simp_arith! [am2, at4_1]
  rw [K.fl]
  exact Ok.ret rfl
end Pu
end
section
namespace Pu
open PySem hiding fresh Env
open L2 Vf Gn Pv PyProof.Rows TL
local macro_rules
  | `(tactic| simp_arith! [$ls,*]) => `(tactic| simp -implicitDefEqProofs (disch := (have := Pv.sz24; omega)) only [↓Pv.ckP, ↓Pv.chkP, Pv.nd1, Pv.nd2, Int.reducePow, Pv.sz24, Int.reduceEq, Int.reduceNe, Int.reduceLT, Int.reduceLE, Int.reduceAdd, Int.reduceSub, Nat.reduceEqDiff, Nat.reducePow, Nat.reduceLeDiff, Nat.reduceLT, Nat.reduceMul, Int.reduceToNat, Int.reduceNeg, decide_true, decide_false, ↓Pv.toB, ↓Pv.toF, ↓Pv.toL, ↓Pv.toW, Pv.bI_ok, Pv.bI_as, reduceCtorEq, ne_eq, not_false_eq_true, and_self, and_true, true_and, or_true, true_or, Pv.fs_inoE, runDef, env0, evalS, evalE, evalEs, evalAs, inoA, getAs, Arg.get, backAs, inoIx, opd, readV, Pv.g0, Pv.gS, Pv.s0, Pv.sS, Op.get, Cn.d, R.of_some,  Pv.chkT, Pv.ckT, vw, Vf.fresh, outs, bindP, Pv.moF, Pv.moL, Pv.moD, part?, wipeE, backE,
  Pv.b_le, Pv.b_lt, Pv.b_ge, Pv.b_gt, Pv.b_add, Pv.b_sub, Pv.b_adds, Pv.b_addl, Pv.b_mul, Pv.b_fdiv, Pv.b_mod, Pv.b_gcd, Pv.b_ixl, Pv.b_ixt, Pv.b_max, Pv.b_min, Pv.u_lens, Pv.u_lenl, Pv.u_lent, Pv.u_int, Pv.u_intb, Pv.u_abs, Pv.b_pow, Pv.b_eqd, Pv.b_ned, Pv.u_str, Pv.u_neg, Pv.u_lst, Pv.u_tup, Pv.u_lrng, Pv.u_isn, isNonD, isOwnL, isOwnD, mods, opB, cndB, src, Pv.e_ii, Pv.e_bb, Pv.t_bl, Pv.t_int, Pv.t_lst, Pv.t_tup, Pv.t_non, isT,
  List.length_cons, List.length_nil, List.zip_cons_cons, List.zip_nil_left, List.zip_nil_right, List.map_cons, List.map_nil, List.cons_append, List.nil_append, List.replicate, Nat.sub_self, Nat.reduceAdd, Nat.reduceSub, List.append_nil, List.nodup_nil, eq_self,
  Option.map_some, Option.bind_some, Bool.false_eq_true, Bool.true_eq_false, if_true, if_false, reduceIte, Bool.not_true, Bool.not_false, ino0, ino1, ino2, ino3, ino4, ino5, ino6, ino7, ino8, ino9, ino10, ino11, ino12, ino13, ino14, ino15, ino16, ino17, ino18, ino19, ino20, ino21, ino22, ino23, ino24, ino25, ino26, ino27, ino28, ino29, ino30, ino31, ino32, ino33, ino34, ino35, ino36, ino37, ino38, ino39, ino40, ino41, ino42, ino43, ino44, ino45, ino46, ino47, ino48, ino49, part?, $ls,*])
def wsD (ks : List Kd) : List (Key × D) := ks.map fun k => (.inr k.1, aD k.2.1)
def hsD (ks : List Kd) : List (Key × D) := ks.map fun k => (.inr k.1, .tup (k.2.2.map .int))
def botK (ks : List Kd) : Int := ks.foldl (fun b k => ((Nat.lcm b.natAbs k.2.1.2.natAbs : Nat) : Int)) 1
def wgt (b : Int) (k : Kd) : Int := k.2.1.1 * b.fdiv k.2.1.2
def wtD (ks : List Kd) : List (Key × D) := ks.map fun k => (.inr k.1, .int (wgt (botK ks) k))
def bookD (h t : Int) (ks : List Kd) : D := .obj 0 [(Str.ofString "text", .str (textS h t ks)), (Str.ofString "hours", .int h), (Str.ofString "telescopes", .int t), (Str.ofString "worths", .dic (wsD ks)), (Str.ofString "kind_hours", .dic (hsD ks)), (Str.ofString "names", .tup (ks.map fun k => .str k.1)), (Str.ofString "bottom", .int (botK ks)), (Str.ofString "weights", .dic (wtD ks))]
theorem b_lcm (i j : Int) : bi1 .lcm (.int i) (.int j) = ck (i.natAbs < 2 ^ 64 ∧ j.natAbs < 2 ^ 64) (vw (.int (Nat.lcm i.natAbs j.natAbs : Nat))) := rfl
theorem u_lvals (kvs : List (Key × D)) : un1 .lvals (.dic kvs) = Vf.fresh (.lst (kvs.map (·.2))) := rfl
theorem u_dkeys (kvs : List (Key × D)) : un1 .dkeys (.dic kvs) = vw (.tup (kvs.map fun kv => Vf.kD kv.1)) := rfl
theorem u_lend (kvs : List (Key × D)) : un1 .len (.dic kvs) = vw (.int kvs.length) := rfl
theorem t_dic (kvs : List (Key × D)) : dtruth (.dic kvs) = some (!kvs.isEmpty) := rfl
def bots : List Int := [1, 2, 3, 6, 1000, 3000]
theorem lcm_in : ∀ b ∈ bots, ∀ q ∈ [(1 : Int), 2, 3, 1000], ((Nat.lcm b.natAbs q.natAbs : Nat) : Int) ∈ bots := by decide
theorem amt_den : ∀ p ∈ amts, p.2 ∈ [(1 : Int), 2, 3, 1000] := by decide
theorem bots_small : ∀ b ∈ bots, 0 < b ∧ b < 5000 := by decide
theorem bot_take {ks : List Kd} {i : Nat} {k : Kd} (hk : ks[i]? = some k) : botK (ks.take (i + 1)) = ((Nat.lcm (botK (ks.take i)).natAbs k.2.1.2.natAbs : Nat) : Int) := by
  have tk : ks.take (i + 1) = ks.take i ++ [k] := by rw [List.take_succ, hk]; rfl
  rw [tk]
  unfold botK
  rw [List.foldl_append]
  rfl
theorem bot_in {ks : List Kd} (h : ∀ k ∈ ks, k.2.1 ∈ amts) : botK ks ∈ bots := by
  have key : ∀ (l : List Kd) (b : Int), b ∈ bots → (∀ k ∈ l, k.2.1 ∈ amts) → l.foldl (fun b k => ((Nat.lcm b.natAbs k.2.1.2.natAbs : Nat) : Int)) b ∈ bots := by
    intro l
    induction l with
    | nil => intro b hb _; exact hb
    | cons k l ih =>
      intro b hb h
      exact ih _ (lcm_in b hb _ (amt_den _ (h k List.mem_cons_self))) fun q hq => h q (List.mem_cons_of_mem _ hq)
  exact key ks 1 (by decide) h
theorem shared_ok (n : Nat) {ks : List Kd} (h : ∀ k ∈ ks, k.2.1 ∈ amts) : Ok ((fsT T (n + 1)).run 5 [.lst (ks.map fun k => aD k.2.1)]) fun r => r = ((false, .int (botK ks)), []) := by
  rw [run_def (d := d5) rfl]
  simp_arith! [d5, b5]
  refine Ok.bind (forO (fun i env => ∃ (s2 s3 : Option (Md × D)), env = [some (.sh, .lst (ks.map fun k => aD k.2.1)), some (.sh, .int (botK (ks.take i))), s2, s3]) ⟨none, none, rfl⟩ ?_) ?_
  · rintro i x env hx ⟨s2, s3, rfl⟩
    rw [List.getElem?_map, Option.map_eq_some_iff] at hx
    obtain ⟨k, hk, rfl⟩ := hx
    have hm := List.mem_of_getElem? hk
    have s := amt_small _ (h k hm)
    have hb2 := bots_small _ (bot_in (ks := ks.take i) fun q hq => h q (List.mem_of_mem_take hq))
    have bt := bot_take hk
    generalize botK (ks.take i) = b at *
    simp_arith! [aD, b_lcm, ← bt]
    refine Ok.ret ?_
    exact ⟨_, .inl rfl, _, _, rfl⟩
  · rintro _ ⟨env, rfl, s2, s3, rfl⟩
    rw [List.length_map, List.take_length]
    simp_arith! []
    exact Ok.ret rfl
theorem prop_all {b : Int} : ∀ {ks : List Kd}, (∀ k ∈ ks, k.2.1 ∈ amts) → propL b (wsD ks) = some (ks.map fun k => (.inr k.1, .int (wgt b k)))
  | [], _ => rfl
  | k :: ks, h => by
    have e := prop_all (b := b) (ks := ks) fun x hx => h x (List.mem_cons_of_mem _ hx)
    have s := amt_small _ (h k List.mem_cons_self)
    show (if k.2.1.2 ≠ 0 ∧ k.2.1.2.natAbs < 1073741824 ∧ (k.2.1.1.natAbs < 2 ^ 64 ∨ (b.fdiv k.2.1.2).natAbs < 2 ^ 64) then (propL b (wsD ks)).map _ else none) = _
    rw [if_pos ⟨by omega, by omega, .inl (by omega)⟩, e]
    rfl
theorem put_new {kvs : List (Key × D)} {k : Key} {v : D} (h : ∀ kv ∈ kvs, kv.1 ≠ k) : putD kvs k v = kvs ++ [(k, v)] := by
  unfold putD
  rw [if_neg]
  simp only [List.any_eq_true, decide_eq_true_eq, not_exists, not_and]
  exact h
theorem merge_new : ∀ {more : List (Key × D)} {kvs : List (Key × D)}, (more.map (·.1)).Nodup → (∀ kv ∈ more, ∀ q ∈ kvs, q.1 ≠ kv.1) → mergeD kvs more = kvs ++ more
  | [], kvs, _, _ => by unfold mergeD; simp
  | kv :: more, kvs, nd, h => by
    have nd' := List.nodup_cons.mp (show (kv.1 :: more.map (·.1)).Nodup by simpa using nd)
    have e : mergeD kvs (kv :: more) = mergeD (putD kvs kv.1 kv.2) more := rfl
    rw [e, put_new (h kv List.mem_cons_self), merge_new nd'.2, List.append_assoc]
    · rfl
    · intro q hq p hp
      rcases List.mem_append.mp hp with hp | hp
      · exact h q (List.mem_cons_of_mem _ hq) p hp
      · cases List.mem_singleton.mp hp
        exact fun z => nd'.1 (List.mem_map.mpr ⟨q, hq, z.symm⟩)
theorem tops_ok (n : Nat) {b : Int} {ks : List Kd} (nd : (ks.map (·.1)).Nodup) (h : ∀ k ∈ ks, k.2.1 ∈ amts) (h8 : ks.length ≤ 8) : Ok ((fsT T (n + 1)).run 6 [.int b, .dic (wsD ks)]) fun r => r = ((true, .dic (ks.map fun k => (.inr k.1, .int (wgt b k)))), []) := by
  rw [run_def (d := d6) rfl]
  have nd2 : ((ks.map fun k => ((.inr k.1 : Key), D.int (wgt b k))).map (·.1)).Nodup := by
    rw [List.map_map]
    refine List.pairwise_map.mpr ((List.pairwise_map.mp nd).imp fun h e => h (Sum.inr.inj e))
  have pd : propD (.sh, .dic (wsD ks)) (.sh, .int b) = some (.dic (ks.map fun k => (.inr k.1, .int (wgt b k)))) := by
    show (if (wsD ks).length < sizeLine then (propL b (wsD ks)).map fun l => D.dic (mergeD [] l) else none) = _
    rw [if_pos (by unfold wsD; rw [List.length_map, sz24]; omega), prop_all h]
    show some (D.dic (mergeD [] _)) = _
    rw [merge_new nd2 (by simp)]
    rfl
  simp_arith! [d6, b6, pd]
  exact Ok.ret rfl
theorem val_none {kvs : List (Key × D)} {k : Key} (h : ∀ kv ∈ kvs, kv.1 ≠ k) : valD kvs k = none := by
  unfold Vf.valD
  rw [List.find?_eq_none.mpr fun x hx => by simpa using h x hx]; rfl
theorem put1 {kvs : List (Key × D)} {nm : Str} {v : D} (h : ∀ kv ∈ kvs, kv.1 ≠ .inr nm) (l : kvs.length < 1000000) : putD1 (.str nm) v (.dic kvs) = some (.dic (kvs ++ [(.inr nm, v)])) := by
  show (if kvs.length < 1000000 then some (D.dic (putD kvs (.inr nm) v)) else none) = _
  rw [if_pos l, put_new h]
theorem enum_at : ∀ (xs : List D) (k : Int) (i : Nat), (enumD k xs)[i]? = (xs[i]?).map fun x => D.tup [.int (k + i), x]
  | [], k, i => by simp [enumD]
  | x :: xs, k, 0 => by simp [enumD]
  | x :: xs, k, i + 1 => by
    rw [enumD, List.getElem?_cons_succ, List.getElem?_cons_succ, enum_at xs (k + 1) i]
    congr 1
    funext y
    congr 3
    omega
theorem enum_len : ∀ (xs : List D) (k : Int), (enumD k xs).length = xs.length
  | [], k => rfl
  | x :: xs, k => by rw [enumD, List.length_cons, enum_len xs, List.length_cons]
theorem not_in_join {s : Nat} {S : List Nat} (hS : s ∉ S) : ∀ {l : List (List Nat)}, (∀ w ∈ l, s ∉ w) → s ∉ joinL S l
  | [], _ => by simp [joinL]
  | [p], h => h p List.mem_cons_self
  | p :: q :: r, h => by
    rw [joinL, List.mem_append, List.mem_append, not_or, not_or]
    exact ⟨h p List.mem_cons_self, hS, not_in_join hS fun w hw => h w (List.mem_cons_of_mem _ hw)⟩
theorem split_text {h t : Int} {ks : List Kd} (B : BOk h t ks) : Txt.split (textS h t ks) (Str.ofString "\n") = headS h t :: ks.map lineS := by
  unfold textS
  refine split_join (s := 10) (S := []) rfl (by decide +kernel) (by simp) fun p hp => ?_
  rcases List.mem_cons.mp hp with rfl | hp
  · exact B.head.1
  · obtain ⟨k, hk, rfl⟩ := List.mem_map.mp hp
    obtain ⟨H, ps, K⟩ := kok_of B hk
    rw [lineS_eq K.hr K.sp, join_eq, tl_join]
    exact not_in_join (by decide) fun w hw => by
      obtain ⟨w', hw', rfl⟩ := List.mem_map.mp hw
      exact (K.words w' hw').2.1
theorem take_map {α β : Type} (f : α → β) (l : List α) (i : Nat) : (l.take i).map f = (l.map f).take i := by rw [List.map_take]
theorem make_ok (m : Nat) {h t : Int} {ks : List Kd} (B : BOk h t ks) : Ok ((fsT T (m + 11)).make 0 [.str (textS h t ks)]) fun d => d = bookD h t ks := by
  have l8 := B.len
  have sp := split_text B
  have s1 : ((Str.ofString "\n").length == 0) = false := rfl
  have tl : (textS h t ks).length ≤ 3000 := by
    have h1 := len_join (Str.ofString "\n") (headS h t :: ks.map lineS)
    have h2 := sum_le2 (lines_len B)
    have h3 := B.head.2
    rw [show (Str.ofString "\n").length = 1 from rfl] at h1
    simp only [List.map_cons, List.sum_cons, List.length_cons, List.length_map] at h1 h2
    show (Txt.join _ _).length ≤ _
    have h5 : (List.map (fun (x : Str) => x.length) (List.map lineS ks)).sum ≤ 250 * ks.length := by simpa using h2
    omega
  have jh := join_head (x := headS h t) (ls := ks.map lineS) B.head.2 (lines_len B) (by rw [List.length_map]; exact l8)
  rw [show Txt.join (Str.ofString "\n") (headS h t :: ks.map lineS) = textS h t ks from rfl, List.map_cons] at jh
  have hd : (fsT T (m + 9)).run 11 [.str (headS h t)] = .ok ((false, .tup [.int h, .int t]), []) := by
    obtain ⟨H, K, rfl, rfl, q1, q2, q3, q4⟩ := B.nat
    exact (head_ok (m + 3) q1 q2 q3 q4).1
  rw [make_def (ci := ci0) rfl]
  unfold runCls
  have tw : ∀ a b : D, two (.tup [a, b]) = some (a, b) := fun _ _ => rfl
  simp_arith! [ci0, bi0, envC, isStrD, b_split, s1, sp, at4_0, hd, jh, tw, slc_l, cut1]
  refine Ok.bind (forO (fun i env => ∃ s4 s5 s6 s7 s8 s9 : Option (Md × D), env = [none, some (.sh, .str (textS h t ks)),
                  some (.own, .lst (D.str (headS h t) :: List.map D.str (List.map lineS ks))),
                  some (.sh, D.tup [D.int h, D.int t]), s4, s5, s6, s7, s8, s9,
                  some (.sh, .str (textS h t ks)), some (.sh, .int h), some (.sh, .int t),
                  some (.own, .dic (wsD (ks.take i))), some (.own, .dic (hsD (ks.take i))), none, none, none]) ⟨none, none, none, none, none, none, rfl⟩ ?_) ?_
  · rintro i x env hx ⟨s4, s5, s6, s7, s8, s9, rfl⟩
    rw [enum_at, List.map_map, List.getElem?_map, Option.map_map, Option.map_eq_some_iff] at hx
    obtain ⟨k, hk, rfl⟩ := hx
    have hi := (List.getElem?_eq_some_iff.mp hk).1
    obtain ⟨H, ps, K⟩ := kok_of B (List.mem_of_getElem? hk)
    have hH := K.hH
    subst hH
    have tk : ks.take (i + 1) = ks.take i ++ [k] := by rw [List.take_succ, hk]; rfl
    have nd : ∀ q ∈ ks.take i, q.1 ≠ k.1 := by
      have := B.nd
      rw [← List.take_append_drop (i + 1) ks, tk, List.map_append, List.map_append] at this
      have := (List.pairwise_append.mp (List.pairwise_append.mp this).1).2.2
      intro q hq
      exact this _ (List.mem_map.mpr ⟨q, hq, rfl⟩) _ (by simp)
    have w1 : ∀ kv ∈ wsD (ks.take i), kv.1 ≠ (.inr k.1 : Key) := by
      intro kv hkv e
      obtain ⟨q, hq, rfl⟩ := List.mem_map.mp hkv
      exact nd q hq (Sum.inr.inj e)
    have w2 : ∀ kv ∈ hsD (ks.take i), kv.1 ≠ (.inr k.1 : Key) := by
      intro kv hkv e
      obtain ⟨q, hq, rfl⟩ := List.mem_map.mp hkv
      exact nd q hq (Sum.inr.inj e)
    have l1 : (wsD (ks.take i)).length = i := by unfold wsD; rw [List.length_map, List.length_take]; omega
    have l2 : (hsD (ks.take i)).length = i := by unfold hsD; rw [List.length_map, List.length_take]; omega
    have p1 := put1 (v := aD k.2.1) w1 (by omega)
    have p2 := put1 (v := .tup (k.2.2.map .int)) w2 (by omega)
    have f1 : wsD (ks.take i) ++ [(.inr k.1, aD k.2.1)] = wsD (ks.take (i + 1)) := by rw [tk]; unfold wsD; rw [List.map_append]; rfl
    have f2 : hsD (ks.take i) ++ [(.inr k.1, .tup (k.2.2.map .int))] = hsD (ks.take (i + 1)) := by rw [tk]; unfold hsD; rw [List.map_append]; rfl
    have inn : bi1 .inn (.str k.1) (.dic (wsD (ks.take i))) = vw (.bl false) := by
      show vw (.bl (Vf.valD (wsD (ks.take i)) (.inr k.1)).isSome) = _
      rw [val_none w1]; rfl
    have ne8 : (((i : Nat) : Int) == 8) = false := beq_eq_false_iff_ne.mpr (by omega)
    simp_arith! [Function.comp]
    refine Ok.bind (kind_ok (m + 1) K) ?_
    rintro _ rfl
    simp_arith! [at4_0, inn, u_lend, l1, e_ii, ne8, p1, p2, f1, f2]
    refine Ok.ret ?_
    exact ⟨_, .inl rfl, _, _, _, _, _, _, rfl⟩
  · rintro _ ⟨env, rfl, s4, s5, s6, s7, s8, s9, rfl⟩
    rw [enum_len, List.length_map, List.length_map, List.take_length]
    have ne : (wsD ks).isEmpty = false := by
      have := B.ne
      cases ks <;> simp_all [wsD]
    have nm : (wsD ks).map (fun kv => Vf.kD kv.1) = ks.map fun k => .str k.1 := by unfold wsD; rw [List.map_map]; rfl
    have vals : (wsD ks).map (·.2) = ks.map fun k => aD k.2.1 := by unfold wsD; rw [List.map_map]; rfl
    simp_arith! [t_dic, ne, u_dkeys, nm, u_lvals, vals]
    refine Ok.bind (shared_ok _ (fun k hk => (B.ok k hk).2.1)) ?_
    rintro _ rfl
    simp_arith! []
    refine Ok.bind (tops_ok _ B.nd (fun k hk => (B.ok k hk).2.1) l8) ?_
    rintro _ rfl
    simp_arith! []
    show Ok (R.ok (bookD h t ks)) _
    exact Ok.ret rfl
end Pu
end
section
namespace Pu
open PySem hiding fresh Env
open L2 Vf Gn Pv PyProof.Rows TL
local macro_rules
  | `(tactic| simp_arith [$ls,*]) => `(tactic| simp -implicitDefEqProofs (disch := (have := Pv.sz24; omega)) only [↓Pv.ckP, ↓Pv.chkP, Pv.nd1, Pv.nd2, Int.reducePow, Pv.sz24, Int.reduceEq, Int.reduceNe, Int.reduceLT, Int.reduceLE, Int.reduceAdd, Int.reduceSub, Nat.reduceEqDiff, Nat.reducePow, Nat.reduceLeDiff, Nat.reduceLT, Nat.reduceMul, Int.reduceToNat, Int.reduceNeg, decide_true, decide_false, ↓Pv.toB, ↓Pv.toF, ↓Pv.toL, ↓Pv.toW, Pv.bI_ok, Pv.bI_as, reduceCtorEq, ne_eq, not_false_eq_true, and_self, and_true, true_and, or_true, true_or, Pv.fs_inoE, runDef, env0, evalS, evalE, evalEs, evalAs, inoA, getAs, Arg.get, backAs, inoIx, opd, readV, Pv.g0, Pv.gS, Pv.s0, Pv.sS, Op.get, Cn.d, R.of_some,  Pv.chkT, Pv.ckT, vw, Vf.fresh, outs, bindP, Pv.moF, Pv.moL, Pv.moD, part?, wipeE, backE,
  Pv.b_le, Pv.b_lt, Pv.b_ge, Pv.b_gt, Pv.b_add, Pv.b_sub, Pv.b_adds, Pv.b_addl, Pv.b_mul, Pv.b_fdiv, Pv.b_mod, Pv.b_gcd, Pv.b_ixl, Pv.b_ixt, Pv.b_max, Pv.b_min, Pv.u_lens, Pv.u_lenl, Pv.u_lent, Pv.u_int, Pv.u_intb, Pv.u_abs, Pv.b_pow, Pv.b_eqd, Pv.b_ned, Pv.u_str, Pv.u_neg, Pv.u_lst, Pv.u_tup, Pv.u_lrng, Pv.u_isn, isNonD, isOwnL, isOwnD, mods, opB, cndB, src, Pv.e_ii, Pv.e_bb, Pv.t_bl, Pv.t_int, Pv.t_lst, Pv.t_tup, Pv.t_non, Pv.iT1, Pv.iT2, Pv.iT3, Pv.iT4, Pv.iT5, Pv.iT6, Pv.iT7, Pv.iT8, Pv.iT9, Pv.iT10,
  List.length_cons, List.length_nil, List.zip_cons_cons, List.zip_nil_left, List.zip_nil_right, List.map_cons, List.map_nil, List.cons_append, List.nil_append, List.replicate, Nat.sub_self, Nat.reduceAdd, Nat.reduceSub, List.append_nil, List.nodup_nil, eq_self,
  Option.map_some, Option.bind_some, Bool.false_eq_true, Bool.true_eq_false, if_true, if_false, reduceIte, Bool.not_true, Bool.not_false, part?, ino0, ino1, ino2, ino3, ino4, ino5, ino6, ino7, ino8, ino9, ino10, ino11, ino12, ino13, ino14, ino15, ino16, ino17, ino18, ino19, ino20, ino21, ino22, ino23, ino24, ino25, ino26, ino27, ino28, ino29, ino30, ino31, ino32, ino33, ino34, ino35, ino36, ino37, ino38, ino39, ino40, ino41, ino42, ino43, ino44, ino45, ino46, ino47, ino48, ino49, $ls,*])
abbrev Yes (x : R (Vf.W × List D)) : Prop := Ok x fun r => r = ((false, .bl true), [])
abbrev Is (x : R (Vf.W × List D)) (d : D) : Prop := Ok x fun r => r = ((false, d), [])
abbrev Chs (x : Str) : Prop := ∀ c ∈ x.cps.toList, c < 1114112
theorem strok_of {x : Str} (h : Chs x) : PyData.strOk x = true := by
  unfold PyData.strOk
  rw [← Array.all_toList, List.all_eq_true]
  intro c hc
  exact decide_eq_true (h c hc)
theorem mem_join {S : List Nat} {c : Nat} : ∀ {l : List (List Nat)}, c ∈ joinL S l → c ∈ S ∨ ∃ w ∈ l, c ∈ w
  | [], h => by simp [joinL] at h
  | [p], h => .inr ⟨p, List.mem_cons_self, h⟩
  | p :: q :: r, h => by
    rw [joinL, List.mem_append, List.mem_append] at h
    rcases h with h | h | h
    · exact .inr ⟨p, List.mem_cons_self, h⟩
    · exact .inl h
    · rcases mem_join h with h | ⟨w, hw, h⟩
      · exact .inl h
      · exact .inr ⟨w, List.mem_cons_of_mem _ hw, h⟩
theorem chs_join {s : Str} {ls : List Str} (hs : Chs s) (hl : ∀ w ∈ ls, Chs w) : Chs (Txt.join s ls) := by
  intro c hc
  rw [join_eq] at hc
  have hc : c ∈ tl (Str.join s ls) := hc
  rw [tl_join] at hc
  rcases mem_join hc with h | ⟨w, hw, h⟩
  · exact hs c h
  · obtain ⟨w', hw', rfl⟩ := List.mem_map.mp hw
    exact hl w' hw' c h
theorem chs_text {h t : Int} {ks : List Kd} (B : BOk h t ks) : Chs (textS h t ks) := by
  refine chs_join (by decide +kernel) fun w hw => ?_
  rcases List.mem_cons.mp hw with rfl | hw
  · obtain ⟨H, K, rfl, rfl, q1, q2, q3, q4⟩ := B.nat
    exact (head_ok 0 q1 q2 q3 q4).2.2.2
  · obtain ⟨k, hk, rfl⟩ := List.mem_map.mp hw
    obtain ⟨H, ps, K⟩ := kok_of B hk
    rw [lineS_eq K.hr K.sp]
    exact chs_join (by decide +kernel) fun w hw => (K.words w hw).2.2.2
theorem chs_pool {x : Str} (h : x ∈ pool) : Chs x := (name_ok 0 h).2.2.2.2
theorem on2 (n : Nat) : (fsT T (n + 2)).on = true := rfl
theorem eqf2 (n : Nat) : (fsT T (n + 2)).eqf 0 = some 48 := rfl
theorem lnf2 (n : Nat) : (fsT T (n + 2)).lnf 0 = some 49 := rfl
theorem run12 (n : Nat) : (fsT T (n + 2)).run1 = (fsT T (n + 1)).run := rfl
theorem at_text (h t : Int) (ks : List Kd) : att1 (bookD h t ks) 0 (Str.ofString "text") = vw (.str (textS h t ks)) := by rfl
theorem at_hours (h t : Int) (ks : List Kd) : att1 (bookD h t ks) 0 (Str.ofString "hours") = vw (.int h) := by rfl
theorem at_tel (h t : Int) (ks : List Kd) : att1 (bookD h t ks) 0 (Str.ofString "telescopes") = vw (.int t) := by rfl
theorem at_worths (h t : Int) (ks : List Kd) : att1 (bookD h t ks) 0 (Str.ofString "worths") = vw (.dic (wsD ks)) := by rfl
theorem at_kh (h t : Int) (ks : List Kd) : att1 (bookD h t ks) 0 (Str.ofString "kind_hours") = vw (.dic (hsD ks)) := by rfl
theorem at_names (h t : Int) (ks : List Kd) : att1 (bookD h t ks) 0 (Str.ofString "names") = vw (.tup (ks.map fun k => .str k.1)) := by rfl
theorem t_cls (h t : Int) (ks : List Kd) : isT (.cls 0 1) (bookD h t ks) = some true := rfl
theorem eq_ok (n : Nat) {h t h' t' : Int} {ks ks' : List Kd} (c1 : Chs (textS h t ks)) (c2 : Chs (textS h' t' ks')) : Is ((fsT T (n + 1)).run 48 [bookD h t ks, bookD h' t' ks']) (.bl (textS h t ks == textS h' t' ks')) := by
  rw [run_def (d := d48) rfl]
  simp_arith [d48, b48, t_cls, at_text, e_ss _ _ (strok_of c1) (strok_of c2)]
  exact Ok.ret rfl
theorem eq_no (n : Nat) {h t : Int} {ks : List Kd} {x : D} (hx : isT (.cls 0 1) x = some false) : Is ((fsT T (n + 1)).run 48 [bookD h t ks, x]) (.bl false) := by
  rw [run_def (d := d48) rfl]
  simp_arith [d48, b48, hx]
  exact Ok.ret rfl
theorem len_ok (n : Nat) {h t : Int} {ks : List Kd} : Is ((fsT T (n + 1)).run 49 [bookD h t ks]) (.int ks.length) := by
  rw [run_def (d := d49) rfl]
  simp_arith [d49, b49, at_names, List.length_map]
  exact Ok.ret rfl
theorem is_int (n : Nat) (i : Int) : Yes ((fsT T (n + 1)).run 43 [.int i, .int i]) := by
  rw [run_def (d := d43) rfl]
  simp_arith [d43, b43, e_ii, beq_self_eq_true]
  exact Ok.ret rfl
theorem is_str (n : Nat) {x : Str} (h : Chs x) : Yes ((fsT T (n + 1)).run 43 [.str x, .str x]) := by
  rw [run_def (d := d43) rfl]
  simp_arith [d43, b43, e_ss _ _ (strok_of h) (strok_of h), beq_self_eq_true]
  exact Ok.ret rfl
theorem zip_self {x : D} : ∀ {xs : List D}, x ∈ zipD xs xs → ∃ y ∈ xs, x = .tup [y, y]
  | y :: xs, h => by
    rw [zipD] at h
    rcases List.mem_cons.mp h with rfl | h
    · exact ⟨y, List.mem_cons_self, rfl⟩
    · obtain ⟨z, hz, e⟩ := zip_self h
      exact ⟨z, List.mem_cons_of_mem _ hz, e⟩
theorem all_true (l : List D) : un1 .all (.lst (l.filterMap fun _ => some (.bl true))) = vw (.bl true) := by
  have : boolsD (l.filterMap fun _ => some (D.bl true)) = some (l.map fun _ => true) := by
    induction l with
    | nil => rfl
    | cons x l ih =>
      show boolsD (D.bl true :: _) = _
      rw [boolsD, ih]; rfl
  show (match boolsD (l.filterMap fun _ => some (D.bl true)) with | some ns => vw (.bl (ns.all id)) | none => none) = _
  rw [this]
  have e : (l.map fun _ => true).all id = true := by
    rw [List.all_eq_true]
    intro x hx
    obtain ⟨_, _, rfl⟩ := List.mem_map.mp hx
    rfl
  show vw (.bl ((l.map fun _ => true).all id)) = _
  rw [e]
theorem is_tup (n : Nat) {xs : List D} (hl : xs.length ≤ 1000) (h : ∀ x ∈ xs, Yes ((fsT T (n + 1)).run 43 [x, x])) : Yes ((fsT T (n + 2)).run 43 [.tup xs, .tup xs]) := by
  rw [run_def (d := d43) rfl]
  simp_arith [d43, b43, e_ii, beq_self_eq_true]
  refine Ok.bind (lcP (fun _ => some (.bl true)) (by have := zip_len xs xs; rw [sz24]; omega) ?_) ?_
  · intro x hx
    obtain ⟨y, hy, rfl⟩ := zip_self hx
    simp_arith []
    refine Ok.bind (h y hy) ?_
    rintro _ rfl
    simp_arith []
    exact Ok.ret rfl
  · rintro _ rfl
    simp_arith [all_true]
    exact Ok.ret rfl
theorem r0 (n : Nat) (i : Int) : (fsT T (n + 1)).run 0 [.int i] = .ok ((false, .bl true), []) := by
  rw [run_def (d := d0) rfl]; rfl
theorem within_ok (n : Nat) {i lo hi : Int} (h1 : lo ≤ i) (h2 : i ≤ hi) : Yes ((fsT T (n + 2)).run 1 [.int i, .int lo, .int hi]) := by
  rw [run_def (d := d1) rfl]
  simp_arith [d1, b1, r0, h1, h2]
  exact Ok.ret rfl
theorem is_hour_ok (n : Nat) {h t i : Int} {ks : List Kd} (h1 : 0 ≤ i) (h2 : i < h) : Yes ((fsT T (n + 3)).run 15 [bookD h t ks, .int i]) := by
  rw [run_def (d := d15) rfl]
  simp_arith [d15, b15, at_hours]
  refine Ok.bind (within_ok _ h1 (show i ≤ h - 1 by omega)) ?_
  rintro _ rfl
  simp_arith []
  exact Ok.ret rfl
theorem check_hour_ok (n : Nat) {h t i : Int} {ks : List Kd} (h1 : 0 ≤ i) (h2 : i < h) : Is ((fsT T (n + 4)).run 17 [bookD h t ks, .int i]) .non := by
  rw [run_def (d := d17) rfl]
  simp_arith [d17, b17]
  refine Ok.bind (is_hour_ok _ h1 h2) ?_
  rintro _ rfl
  simp_arith []
  exact Ok.ret rfl
theorem in_names {ks : List Kd} {k : Kd} (hk : k ∈ ks) : bi1 .inn (.str k.1) (.tup (ks.map fun k => .str k.1)) = vw (.bl true) := by
  show (if flatD (.str k.1) = true ∧ (ks.map fun k => D.str k.1).all flatD = true then vw (.bl ((ks.map fun k => D.str k.1).any fun y => eqF y (.str k.1))) else none) = _
  rw [if_pos ⟨rfl, by rw [List.all_eq_true]; intro x hx; obtain ⟨q, _, rfl⟩ := List.mem_map.mp hx; rfl⟩]
  have : ((ks.map fun k => D.str k.1).any fun y => eqF y (.str k.1)) = true := List.any_eq_true.mpr ⟨.str k.1, List.mem_map.mpr ⟨k, hk, rfl⟩, by simp [eqF]⟩
  rw [this]
theorem check_kind_ok (n : Nat) {h t : Int} {ks : List Kd} {k : Kd} (hk : k ∈ ks) : Is ((fsT T (n + 2)).run 16 [bookD h t ks, .str k.1]) .non := by
  have e : Yes ((fsT T (n + 1)).run 14 [bookD h t ks, .str k.1]) := by
    rw [run_def (d := d14) rfl]
    simp_arith [d14, b14, at_names, in_names hk]
    exact Ok.ret rfl
  rw [run_def (d := d16) rfl]
  simp_arith [d16, b16]
  refine Ok.bind e ?_
  rintro _ rfl
  simp_arith []
  exact Ok.ret rfl
theorem val_at {ks : List Kd} (f : Kd → D) {k : Kd} (nd : (ks.map (·.1)).Nodup) (hk : k ∈ ks) : Vf.valD (ks.map fun k => ((.inr k.1 : Key), f k)) (.inr k.1) = some (f k) := by
  unfold Vf.valD
  induction ks with
  | nil => simp at hk
  | cons q ks ih =>
    rw [List.map_cons, List.find?_cons]
    by_cases e : q.1 = k.1
    · have : q = k := by
        rcases List.mem_cons.mp hk with h | h
        · exact h.symm
        · exact absurd (List.mem_map.mpr ⟨k, h, e.symm⟩) (List.nodup_cons.mp (by simpa using nd)).1
      subst this
      simp
    · rw [show decide ((Sum.inr q.1 : Key) = .inr k.1) = false from decide_eq_false fun z => e (Sum.inr.inj z)]
      refine ih (List.nodup_cons.mp (by simpa using nd)).2 ((List.mem_cons.mp hk).resolve_left fun z => e (by rw [z]))
theorem idx_dic {kvs : List (Key × D)} {x : Str} {d : D} (h : Vf.valD kvs (.inr x) = some d) : bi1 .idx (.dic kvs) (.str x) = vw d := by
  show (match Vf.valD kvs (.inr x) with | some d => vw d | none => none) = _
  rw [h]
theorem worth_k (n : Nat) {h t : Int} {ks : List Kd} {k : Kd} (nd : (ks.map (·.1)).Nodup) (hk : k ∈ ks) : Is ((fsT T (n + 3)).run 18 [bookD h t ks, .str k.1]) (aD k.2.1) := by
  rw [run_def (d := d18) rfl]
  simp_arith [d18, b18]
  refine Ok.bind (check_kind_ok _ hk) ?_
  rintro _ rfl
  simp_arith [at_worths, idx_dic (val_at (fun k => aD k.2.1) nd hk), wsD]
  exact Ok.ret rfl
theorem hours_k (n : Nat) {h t : Int} {ks : List Kd} {k : Kd} (nd : (ks.map (·.1)).Nodup) (hk : k ∈ ks) : Is ((fsT T (n + 3)).run 19 [bookD h t ks, .str k.1]) (.tup (k.2.2.map .int)) := by
  rw [run_def (d := d19) rfl]
  simp_arith [d19, b19]
  refine Ok.bind (check_kind_ok _ hk) ?_
  rintro _ rfl
  simp_arith [at_kh, idx_dic (val_at (fun k => .tup (k.2.2.map .int)) nd hk), hsD]
  exact Ok.ret rfl
end Pu
end
section
namespace Pu
open PySem hiding fresh Env
open L2 Vf Gn Pv PyProof.Rows TL
local macro_rules
  | `(tactic| simp_arith [$ls,*]) => `(tactic| simp -implicitDefEqProofs (disch := (have := Pv.sz24; omega)) only [↓Pv.ckP, ↓Pv.chkP, Pv.nd1, Pv.nd2, Int.reducePow, Pv.sz24, Int.reduceEq, Int.reduceNe, Int.reduceLT, Int.reduceLE, Int.reduceAdd, Int.reduceSub, Nat.reduceEqDiff, Nat.reducePow, Nat.reduceLeDiff, Nat.reduceLT, Nat.reduceMul, Int.reduceToNat, Int.reduceNeg, decide_true, decide_false, ↓Pv.toB, ↓Pv.toF, ↓Pv.toL, ↓Pv.toW, Pv.bI_ok, Pv.bI_as, reduceCtorEq, ne_eq, not_false_eq_true, and_self, and_true, true_and, or_true, true_or, Pv.fs_inoE, runDef, env0, evalS, evalE, evalEs, evalAs, inoA, getAs, Arg.get, backAs, inoIx, opd, readV, Pv.g0, Pv.gS, Pv.s0, Pv.sS, Op.get, Cn.d, R.of_some,  Pv.chkT, Pv.ckT, vw, Vf.fresh, outs, bindP, Pv.moF, Pv.moL, Pv.moD, part?, wipeE, backE,
  Pv.b_le, Pv.b_lt, Pv.b_ge, Pv.b_gt, Pv.b_add, Pv.b_sub, Pv.b_adds, Pv.b_addl, Pv.b_mul, Pv.b_fdiv, Pv.b_mod, Pv.b_gcd, Pv.b_ixl, Pv.b_ixt, Pv.b_max, Pv.b_min, Pv.u_lens, Pv.u_lenl, Pv.u_lent, Pv.u_int, Pv.u_intb, Pv.u_abs, Pv.b_pow, Pv.b_eqd, Pv.b_ned, Pv.u_str, Pv.u_neg, Pv.u_lst, Pv.u_tup, Pv.u_lrng, Pv.u_isn, isNonD, isOwnL, isOwnD, mods, opB, cndB, src, Pv.e_ii, Pv.e_bb, Pv.t_bl, Pv.t_int, Pv.t_lst, Pv.t_tup, Pv.t_non, Pv.iT1, Pv.iT2, Pv.iT3, Pv.iT4, Pv.iT5, Pv.iT6, Pv.iT7, Pv.iT8, Pv.iT9, Pv.iT10,
  List.length_cons, List.length_nil, List.zip_cons_cons, List.zip_nil_left, List.zip_nil_right, List.map_cons, List.map_nil, List.cons_append, List.nil_append, List.replicate, Nat.sub_self, Nat.reduceAdd, Nat.reduceSub, List.append_nil, List.nodup_nil, eq_self,
  Option.map_some, Option.bind_some, Bool.false_eq_true, Bool.true_eq_false, if_true, if_false, reduceIte, Bool.not_true, Bool.not_false, part?, ino0, ino1, ino2, ino3, ino4, ino5, ino6, ino7, ino8, ino9, ino10, ino11, ino12, ino13, ino14, ino15, ino16, ino17, ino18, ino19, ino20, ino21, ino22, ino23, ino24, ino25, ino26, ino27, ino28, ino29, ino30, ino31, ino32, ino33, ino34, ino35, ino36, ino37, ino38, ino39, ino40, ino41, ino42, ino43, ino44, ino45, ino46, ino47, ino48, ino49, $ls,*])
def nmF : D → Option D
  | .tup [.str n, _, _] => some (.str n)
  | _ => none
theorem names_ok (n : Nat) {h t : Int} {ks : List Kd} (B : BOk h t ks) : Ok ((fsT T (n + 1)).run 32 [ownD h t ks]) fun r => r = ((true, .lst (ks.map fun k => .str k.1)), []) := by
  have l8 := B.len
  rw [run_def (d := d32) rfl]
  simp_arith [d32, b32, ownD, get_kinds]
  refine Ok.bind (lcP nmF (by rw [List.length_map, sz24]; omega) ?_) ?_
  · intro x hx
    obtain ⟨k, hk, rfl⟩ := List.mem_map.mp hx
    simp_arith [kD]
    exact Ok.ret rfl
  · rintro _ rfl
    rw [all_fm (β := Unit) kD nmF (fun k => .str k.1) (fun k _ => rfl)]
    simp_arith []
    exact Ok.ret rfl
def kF (nm : Str) : D → Option D
  | .tup [.str n, a, b] => if n = nm then some (.tup [.str n, a, b]) else none
  | _ => none
theorem kF_kD (nm : Str) (k : Kd) : kF nm (kD k) = if k.1 = nm then some (kD k) else none := rfl
theorem kF_one {ks : List Kd} {k : Kd} (nd : (ks.map (·.1)).Nodup) (hk : k ∈ ks) : (ks.map kD).filterMap (kF k.1) = [kD k] := by
  induction ks with
  | nil => simp at hk
  | cons q ks ih =>
    have nd' := List.nodup_cons.mp (show (q.1 :: ks.map (·.1)).Nodup by simpa using nd)
    rw [List.map_cons, List.filterMap_cons, kF_kD]
    by_cases e : q.1 = k.1
    · have : q = k := by
        rcases List.mem_cons.mp hk with h | h
        · exact h.symm
        · exact absurd (List.mem_map.mpr ⟨k, h, e.symm⟩) nd'.1
      subst this
      rw [if_pos rfl]
      have : (ks.map kD).filterMap (kF q.1) = [] := by
        rw [List.filterMap_eq_nil_iff]
        intro x hx
        obtain ⟨z, hz, rfl⟩ := List.mem_map.mp hx
        rw [kF_kD, if_neg fun w => nd'.1 (List.mem_map.mpr ⟨z, hz, w⟩)]
      rw [this]
    · rw [if_neg e]
      exact ih nd'.2 ((List.mem_cons.mp hk).resolve_left fun z => e (by rw [z]))
theorem kind_k (n : Nat) {h t : Int} {ks : List Kd} {k : Kd} (B : BOk h t ks) (hk : k ∈ ks) : Is ((fsT T (n + 1)).run 33 [ownD h t ks, .str k.1]) (kD k) := by
  have l8 := B.len
  rw [run_def (d := d33) rfl]
  simp_arith [d33, b33, ownD, get_kinds]
  refine Ok.bind (lcP (kF k.1) (by rw [List.length_map, sz24]; omega) ?_) ?_
  · intro x hx
    obtain ⟨q, hq, rfl⟩ := List.mem_map.mp hx
    have e := e_ss _ _ (strok_of (chs_pool (B.ok q hq).1)) (strok_of (chs_pool (B.ok k hk).1))
    rw [kF_kD]
    by_cases z : q.1 = k.1
    · have zz : (q.1 == k.1) = true := by rw [z]; simp
      rw [if_pos z]
      simp_arith [kD, at4_0, e, zz]
      exact Ok.ret rfl
    · have zz : (q.1 == k.1) = false := by simpa using z
      rw [if_neg z]
      simp_arith [kD, at4_0, e, zz]
      exact Ok.ret rfl
  · rintro _ rfl
    rw [kF_one B.nd hk]
    simp_arith [at4_0]
    exact Ok.ret rfl
theorem lworth (n : Nat) {h t : Int} {ks : List Kd} {k : Kd} (B : BOk h t ks) (hk : k ∈ ks) : Is ((fsT T (n + 2)).run 34 [ownD h t ks, .str k.1]) (aD k.2.1) := by
  rw [run_def (d := d34) rfl]
  simp_arith [d34, b34]
  refine Ok.bind (kind_k _ B hk) ?_
  rintro _ rfl
  simp_arith [kD, at4_1]
  exact Ok.ret rfl
theorem lhours (n : Nat) {h t : Int} {ks : List Kd} {k : Kd} (B : BOk h t ks) (hk : k ∈ ks) : Is ((fsT T (n + 2)).run 35 [ownD h t ks, .str k.1]) (.lst (k.2.2.map .int)) := by
  rw [run_def (d := d35) rfl]
  simp_arith [d35, b35]
  refine Ok.bind (kind_k _ B hk) ?_
  rintro _ rfl
  simp_arith [kD, at4_2]
  exact Ok.ret rfl
def gtF (i : Int) : D → Option D
  | .int x => if i < x then some (.int x) else none
  | _ => none
theorem llater (n : Nat) {h t : Int} {ks : List Kd} {k : Kd} (B : BOk h t ks) (hk : k ∈ ks) (i : Int) : Ok ((fsT T (n + 3)).run 36 [ownD h t ks, .str k.1, .int i]) fun r => r = ((true, .lst ((k.2.2.map D.int).filterMap (gtF i))), []) := by
  have hl := (B.ok k hk).2.2.len B.h2
  rw [run_def (d := d36) rfl]
  simp_arith [d36, b36]
  refine Ok.bind (lhours _ B hk) ?_
  rintro _ rfl
  simp_arith []
  refine Ok.bind (lcP (gtF i) (by rw [List.length_map, sz24]; omega) ?_) ?_
  · intro x hx
    obtain ⟨q, hq, rfl⟩ := List.mem_map.mp hx
    by_cases z : i < q
    · rw [show gtF i (.int q) = some (.int q) from if_pos z]
      simp_arith [z]
      exact Ok.ret rfl
    · rw [show gtF i (.int q) = none from if_neg z]
      simp_arith [z]
      exact Ok.ret rfl
  · rintro _ rfl
    simp_arith []
    exact Ok.ret rfl
theorem later_k (n : Nat) {h t : Int} {ks : List Kd} {k : Kd} (B : BOk h t ks) (hk : k ∈ ks) {i : Int} (i0 : 0 ≤ i) (i1 : i < h) : Is ((fsT T (n + 5)).run 21 [bookD h t ks, .str k.1, .int i]) (.tup ((k.2.2.map D.int).filterMap (gtF i))) := by
  have hl := (B.ok k hk).2.2.len B.h2
  rw [run_def (d := d21) rfl]
  simp_arith [d21, b21]
  refine Ok.bind (check_kind_ok _ hk) ?_
  rintro _ rfl
  simp_arith []
  refine Ok.bind (check_hour_ok _ i0 i1) ?_
  rintro _ rfl
  simp_arith [at_kh, idx_dic (val_at (fun k => .tup (k.2.2.map .int)) B.nd hk), hsD]
  refine Ok.bind (lcP (gtF i) (by rw [List.length_map, sz24]; omega) ?_) ?_
  · intro x hx
    obtain ⟨q, hq, rfl⟩ := List.mem_map.mp hx
    by_cases z : i < q
    · rw [show gtF i (.int q) = some (.int q) from if_pos z]
      simp_arith [z]
      exact Ok.ret rfl
    · rw [show gtF i (.int q) = none from if_neg z]
      simp_arith [z]
      exact Ok.ret rfl
  · rintro _ rfl
    simp_arith []
    exact Ok.ret rfl
/-- who is up -/
def upL (i : Int) (ks : List Kd) : List Str := (ks.filter fun k => k.2.2.contains i).map (·.1)
theorem in_ints (i : Int) (l : List Int) : bi1 .inn (.int i) (.lst (l.map .int)) = vw (.bl (l.contains i)) ∧ bi1 .inn (.int i) (.tup (l.map .int)) = vw (.bl (l.contains i)) := by
  have fl : (l.map D.int).all flatD = true := by rw [List.all_eq_true]; intro x hx; obtain ⟨q, _, rfl⟩ := List.mem_map.mp hx; rfl
  have an : ((l.map D.int).any fun y => eqF y (.int i)) = l.contains i := by
    rw [List.any_map]
    induction l with
    | nil => rfl
    | cons x l ih =>
      rw [List.any_cons, ih (by rw [List.map_cons, List.all_cons] at fl; exact (Bool.and_eq_true_iff.mp fl).2)]
      show (x == i || l.contains i) = (x :: l).contains i
      rw [List.contains_cons]
      congr 1
      exact Bool.beq_comm
  constructor
  · show (if flatD (.int i) = true ∧ (l.map D.int).all flatD = true then vw (.bl ((l.map D.int).any fun y => eqF y (.int i))) else none) = _
    rw [if_pos ⟨rfl, fl⟩, an]
  · show (if flatD (.int i) = true ∧ (l.map D.int).all flatD = true then vw (.bl ((l.map D.int).any fun y => eqF y (.int i))) else none) = _
    rw [if_pos ⟨rfl, fl⟩, an]
theorem sort_strs (l : List Str) (h : l.length < 64) : un1 .sorted (.lst (l.map .str)) = Vf.fresh (.lst ((sortS l).map .str)) := by
  show (match strsD (l.map D.str) with | some ss => ck (ss.length < 64) (Vf.fresh (.lst ((sortS ss).map .str))) | none => _) = _
  rw [strs_map]
  exact ckP h
def upF (i : Int) : D → Option D
  | .tup [.str n, _, .lst hs] => match intsD hs with
    | some l => if l.contains i then some (.str n) else none
    | none => none
  | _ => none
theorem upF_kD (i : Int) (k : Kd) : upF i (kD k) = if k.2.2.contains i then some (.str k.1) else none := by
  show (match intsD (k.2.2.map D.int) with | some l => if l.contains i then some (D.str k.1) else none | none => none) = _
  rw [ints_of]
theorem upF_all (i : Int) : ∀ ks : List Kd, (ks.map kD).filterMap (upF i) = (upL i ks).map .str
  | [] => rfl
  | k :: ks => by
    rw [List.map_cons, List.filterMap_cons, upF_kD, upF_all i ks]
    unfold upL
    rw [List.filter_cons]
    by_cases h : i ∈ k.2.2 <;> simp [h]
theorem lup (n : Nat) {h t : Int} {ks : List Kd} (B : BOk h t ks) (i : Int) : Ok ((fsT T (n + 1)).run 37 [ownD h t ks, .int i]) fun r => r = ((true, .lst ((sortS (upL i ks)).map .str)), []) := by
  have l8 := B.len
  have ul : (upL i ks).length < 64 := by unfold upL; rw [List.length_map]; have := List.length_filter_le (fun k : Kd => k.2.2.contains i) ks; omega
  rw [run_def (d := d37) rfl]
  simp_arith [d37, b37, ownD, get_kinds]
  refine Ok.bind (lcP (upF i) (by rw [List.length_map, sz24]; omega) ?_) ?_
  · intro x hx
    obtain ⟨k, hk, rfl⟩ := List.mem_map.mp hx
    rw [upF_kD]
    by_cases z : k.2.2.contains i = true
    · rw [if_pos z]
      simp_arith [kD, (in_ints _ _).1, z]
      exact Ok.ret rfl
    · rw [if_neg z]
      have z' : k.2.2.contains i = false := by simpa using z
      simp_arith [kD, (in_ints _ _).1, z']
      exact Ok.ret rfl
  · rintro _ rfl
    rw [upF_all]
    simp_arith [sort_strs _ ul]
    exact Ok.ret rfl
end Pu
end
section
set_option exponentiation.threshold 5000
namespace Pu
open PySem hiding fresh Env
open L2 Vf Gn Pv PyProof.Rows TL
local macro_rules
  | `(tactic| simp_arith [$ls,*]) => `(tactic| simp -implicitDefEqProofs (disch := (have := Pv.sz24; omega)) only [↓Pv.ckP, ↓Pv.chkP, Pv.nd1, Pv.nd2, Int.reducePow, Pv.sz24, Int.reduceEq, Int.reduceNe, Int.reduceLT, Int.reduceLE, Int.reduceAdd, Int.reduceSub, Nat.reduceEqDiff, Nat.reducePow, Nat.reduceLeDiff, Nat.reduceLT, Nat.reduceMul, Int.reduceToNat, Int.reduceNeg, decide_true, decide_false, ↓Pv.toB, ↓Pv.toF, ↓Pv.toL, ↓Pv.toW, Pv.bI_ok, Pv.bI_as, reduceCtorEq, ne_eq, not_false_eq_true, and_self, and_true, true_and, or_true, true_or, Pv.fs_inoE, runDef, env0, evalS, evalE, evalEs, evalAs, inoA, getAs, Arg.get, backAs, inoIx, opd, readV, Pv.g0, Pv.gS, Pv.s0, Pv.sS, Op.get, Cn.d, R.of_some,  Pv.chkT, Pv.ckT, vw, Vf.fresh, outs, bindP, Pv.moF, Pv.moL, Pv.moD, part?, wipeE, backE,
  Pv.b_le, Pv.b_lt, Pv.b_ge, Pv.b_gt, Pv.b_add, Pv.b_sub, Pv.b_adds, Pv.b_addl, Pv.b_mul, Pv.b_fdiv, Pv.b_mod, Pv.b_gcd, Pv.b_ixl, Pv.b_ixt, Pv.b_max, Pv.b_min, Pv.u_lens, Pv.u_lenl, Pv.u_lent, Pv.u_int, Pv.u_intb, Pv.u_abs, Pv.b_pow, Pv.b_eqd, Pv.b_ned, Pv.u_str, Pv.u_neg, Pv.u_lst, Pv.u_tup, Pv.u_lrng, Pv.u_isn, isNonD, isOwnL, isOwnD, mods, opB, cndB, src, Pv.e_ii, Pv.e_bb, Pv.t_bl, Pv.t_int, Pv.t_lst, Pv.t_tup, Pv.t_non, Pv.iT1, Pv.iT2, Pv.iT3, Pv.iT4, Pv.iT5, Pv.iT6, Pv.iT7, Pv.iT8, Pv.iT9, Pv.iT10,
  List.length_cons, List.length_nil, List.zip_cons_cons, List.zip_nil_left, List.zip_nil_right, List.map_cons, List.map_nil, List.cons_append, List.nil_append, List.replicate, Nat.sub_self, Nat.reduceAdd, Nat.reduceSub, List.append_nil, List.nodup_nil, eq_self,
  Option.map_some, Option.bind_some, Bool.false_eq_true, Bool.true_eq_false, if_true, if_false, reduceIte, Bool.not_true, Bool.not_false, part?, ino0, ino1, ino2, ino3, ino4, ino5, ino6, ino7, ino8, ino9, ino10, ino11, ino12, ino13, ino14, ino15, ino16, ino17, ino18, ino19, ino20, ino21, ino22, ino23, ino24, ino25, ino26, ino27, ino28, ino29, ino30, ino31, ino32, ino33, ino34, ino35, ino36, ino37, ino38, ino39, ino40, ino41, ino42, ino43, ino44, ino45, ino46, ino47, ino48, ino49, $ls,*])
def gU (ks : List Kd) (i : Int) : D → Option D
  | .str n => match ks.find? (fun k => decide (k.1 = n)) with
    | some k => if k.2.2.contains i then some (.str n) else none
    | none => none
  | _ => none
theorem find_k {ks : List Kd} {k : Kd} (nd : (ks.map (·.1)).Nodup) (hk : k ∈ ks) : ks.find? (fun q => decide (q.1 = k.1)) = some k := by
  induction ks with
  | nil => simp at hk
  | cons q ks ih =>
    have nd' := List.nodup_cons.mp (show (q.1 :: ks.map (·.1)).Nodup by simpa using nd)
    rw [List.find?_cons]
    by_cases e : q.1 = k.1
    · have : q = k := by
        rcases List.mem_cons.mp hk with h | h
        · exact h.symm
        · exact absurd (List.mem_map.mpr ⟨k, h, e.symm⟩) nd'.1
      subst this
      simp
    · rw [decide_eq_false e]
      exact ih nd'.2 ((List.mem_cons.mp hk).resolve_left fun z => e (by rw [z]))
theorem gU_k {ks : List Kd} {k : Kd} (nd : (ks.map (·.1)).Nodup) (hk : k ∈ ks) (i : Int) : gU ks i (.str k.1) = if k.2.2.contains i then some (.str k.1) else none := by
  unfold gU
  dsimp only
  rw [find_k nd hk]
theorem gU_all {ks : List Kd} (nd : (ks.map (·.1)).Nodup) (i : Int) : (ks.map fun k => D.str k.1).filterMap (gU ks i) = (upL i ks).map .str := by
  have key : ∀ l : List Kd, (∀ k ∈ l, k ∈ ks) → (l.map fun k => D.str k.1).filterMap (gU ks i) = (upL i l).map .str := by
    intro l
    induction l with
    | nil => intro _; rfl
    | cons k l ih =>
      intro h
      rw [List.map_cons, List.filterMap_cons, gU_k nd (h k List.mem_cons_self), ih fun q hq => h q (List.mem_cons_of_mem _ hq)]
      unfold upL
      rw [List.filter_cons]
      by_cases z : i ∈ k.2.2 <;> simp [z]
  exact key ks fun _ h => h
theorem up_k (n : Nat) {h t : Int} {ks : List Kd} (B : BOk h t ks) {i : Int} (i0 : 0 ≤ i) (i1 : i < h) : Is ((fsT T (n + 5)).run 20 [bookD h t ks, .int i]) (.tup ((sortS (upL i ks)).map .str)) := by
  have l8 := B.len
  have ul : (upL i ks).length < 64 := by unfold upL; rw [List.length_map]; have := List.length_filter_le (fun k : Kd => k.2.2.contains i) ks; omega
  rw [run_def (d := d20) rfl]
  simp_arith [d20, b20]
  refine Ok.bind (check_hour_ok _ i0 i1) ?_
  rintro _ rfl
  simp_arith [at_names]
  refine Ok.bind (lcP (gU ks i) (by rw [List.length_map, sz24]; omega) ?_) ?_
  · intro x hx
    obtain ⟨k, hk, rfl⟩ := List.mem_map.mp hx
    rw [gU_k B.nd hk]
    by_cases z : k.2.2.contains i = true
    · rw [if_pos z]
      simp_arith [at_kh, idx_dic (val_at (fun k => .tup (k.2.2.map .int)) B.nd hk), hsD, (in_ints _ _).2, z]
      exact Ok.ret rfl
    · rw [if_neg z]
      have z' : k.2.2.contains i = false := by simpa using z
      simp_arith [at_kh, idx_dic (val_at (fun k => .tup (k.2.2.map .int)) B.nd hk), hsD, (in_ints _ _).2, z']
      exact Ok.ret rfl
  · rintro _ rfl
    rw [gU_all B.nd]
    simp_arith [sort_strs _ ul]
    exact Ok.ret rfl
theorem is_ints (n : Nat) {l : List D} (hl : l.length ≤ 1000) (h : ∀ x ∈ l, ∃ i : Int, x = .int i) : Yes ((fsT T (n + 2)).run 43 [.tup l, .tup l]) :=
  is_tup _ hl fun x hx => by
    obtain ⟨i, rfl⟩ := h x hx
    exact is_int _ i
theorem is_names (n : Nat) {l : List D} (hl : l.length ≤ 1000) (h : ∀ x ∈ l, ∃ s : Str, x = .str s ∧ Chs s) : Yes ((fsT T (n + 2)).run 43 [.tup l, .tup l]) :=
  is_tup _ hl fun x hx => by
    obtain ⟨i, rfl, c⟩ := h x hx
    exact is_str _ c
theorem sum_ints (l : List Int) : un1 .sum (.lst (l.map .int)) = vw (.int l.sum) := by
  show (match intsD (l.map D.int) with | some ns => vw (.int ns.sum) | none => none) = _
  rw [ints_of]
theorem cut_1 (l : List Int) : Vf.cutD (l.map D.int) none (some 1) = (l.take 1).map .int := by
  unfold Vf.cutD HT.sIx
  rw [List.map_take]
  simp
theorem slc_l2 (xs : List D) (lo hi : Option Int) : slc1 (.lst xs) lo hi = Vf.fresh (.lst (Vf.cutD xs lo hi)) := rfl
theorem pot_fin {a b : Int} (a0 : 0 ≤ a) : Pot 0 (.lst [.int a, .int (b.fmod 2305843009213693921), .int 0]) :=
  ⟨a, b.fmod 2305843009213693921, 0, rfl, a0, Int.fmod_nonneg_of_pos _ (by decide), Int.fmod_lt_of_pos _ (by decide), Int.le_refl _, by simp⟩
theorem pot_ok (n : Nat) (ns : List Int) (hn : ns.length ≤ 63) (i : Nat) (hi : i < 2) : Ok ((fsT T (n + 1)).run 22 [.lst (ns.map .int), .int i]) fun r => ∃ p, r = ((true, p), []) ∧ Pot 0 p := by
  have tail : ∀ c : Int, ∃ a : Int, (if c < 0 then -c else c) = a ∧ 0 ≤ a := fun c => ⟨_, rfl, by split <;> omega⟩
  rw [run_def (d := d22) rfl]
  by_cases hl : (i : Int) < ns.length
  · obtain ⟨x, hx, e⟩ := atI_mem (xs := ns.map D.int) (t := (i : Int)) (by omega) (by rw [List.length_map]; exact hl)
    obtain ⟨c, _, rfl⟩ := List.mem_map.mp hx
    obtain ⟨a, ha, a0⟩ := tail c
    by_cases hg : (1000000000000000000 : Int) ≤ a
    · simp_arith [d22, b22, List.length_map, hl, e, ha, hg]
      exact Ok.ret ⟨_, rfl, pot_fin (Int.mul_nonneg (Int.fmod_nonneg_of_pos _ (by decide)) (by decide))⟩
    · simp_arith [d22, b22, List.length_map, hl, e, ha, hg]
      exact Ok.ret ⟨_, rfl, pot_fin (Int.mul_nonneg (Int.fmod_nonneg_of_pos _ (by decide)) (by decide))⟩
  · obtain ⟨a, ha, a0⟩ := tail ((ns.take 1).sum.fmod 1000003 + 1181 * (i : Int) + 521)
    by_cases hg : (1000000000000000000 : Int) ≤ a
    · simp_arith [d22, b22, List.length_map, hl, slc_l2, cut_1, sum_ints, ha, hg]
      exact Ok.ret ⟨_, rfl, pot_fin (Int.mul_nonneg (Int.fmod_nonneg_of_pos _ (by decide)) (by decide))⟩
    · simp_arith [d22, b22, List.length_map, hl, slc_l2, cut_1, sum_ints, ha, hg]
      exact Ok.ret ⟨_, rfl, pot_fin (Int.mul_nonneg (Int.fmod_nonneg_of_pos _ (by decide)) (by decide))⟩
theorem cells_ok (n : Nat) (ns : List Int) : Ok ((fsT T (n + 1)).run 26 [.lst (ns.map .int), .int 2]) fun r => ∃ c : Nat, c ≤ 2 ∧ r = ((true, .lst (rngD 0 c)), []) := by
  rw [run_def (d := d26) rfl]
  have key : ∃ c : Nat, c ≤ 2 ∧ (if (if (ns.length : Int) < 2 then (ns.length : Int) else 2) > 1 then (if (ns.length : Int) < 2 then (ns.length : Int) else 2) else 1) = (c : Int) := by
    by_cases h : (ns.length : Int) < 2
    · rw [if_pos h]
      by_cases h1 : (ns.length : Int) > 1
      · rw [if_pos h1]; exact ⟨ns.length, by omega, rfl⟩
      · rw [if_neg h1]; exact ⟨1, by omega, rfl⟩
    · rw [if_neg h]; exact ⟨2, by omega, rfl⟩
  obtain ⟨c, hc, e⟩ := key
  simp_arith [d26, b26, List.length_map, e, Int.toNat_natCast]
  exact Ok.ret ⟨c, hc, rfl⟩
end Pu
end
section
set_option exponentiation.threshold 5000
namespace Pu
open PySem hiding fresh Env
open L2 Vf Gn Pv PyProof.Rows TL
local macro_rules
  | `(tactic| simp_arith [$ls,*]) => `(tactic| simp -implicitDefEqProofs (disch := (have := Pv.sz24; omega)) only [↓Pv.ckP, ↓Pv.chkP, Pv.nd1, Pv.nd2, Int.reducePow, Pv.sz24, Int.reduceEq, Int.reduceNe, Int.reduceLT, Int.reduceLE, Int.reduceAdd, Int.reduceSub, Nat.reduceEqDiff, Nat.reducePow, Nat.reduceLeDiff, Nat.reduceLT, Nat.reduceMul, Int.reduceToNat, Int.reduceNeg, decide_true, decide_false, ↓Pv.toB, ↓Pv.toF, ↓Pv.toL, ↓Pv.toW, Pv.bI_ok, Pv.bI_as, reduceCtorEq, ne_eq, not_false_eq_true, and_self, and_true, true_and, or_true, true_or, Pv.fs_inoE, runDef, env0, evalS, evalE, evalEs, evalAs, inoA, getAs, Arg.get, backAs, inoIx, opd, readV, Pv.g0, Pv.gS, Pv.s0, Pv.sS, Op.get, Cn.d, R.of_some,  Pv.chkT, Pv.ckT, vw, Vf.fresh, outs, bindP, Pv.moF, Pv.moL, Pv.moD, part?, wipeE, backE,
  Pv.b_le, Pv.b_lt, Pv.b_ge, Pv.b_gt, Pv.b_add, Pv.b_sub, Pv.b_adds, Pv.b_addl, Pv.b_mul, Pv.b_fdiv, Pv.b_mod, Pv.b_gcd, Pv.b_ixl, Pv.b_ixt, Pv.b_max, Pv.b_min, Pv.u_lens, Pv.u_lenl, Pv.u_lent, Pv.u_int, Pv.u_intb, Pv.u_abs, Pv.b_pow, Pv.b_eqd, Pv.b_ned, Pv.u_str, Pv.u_neg, Pv.u_lst, Pv.u_tup, Pv.u_lrng, Pv.u_isn, isNonD, isOwnL, isOwnD, mods, opB, cndB, src, Pv.e_ii, Pv.e_bb, Pv.t_bl, Pv.t_int, Pv.t_lst, Pv.t_tup, Pv.t_non, Pv.iT1, Pv.iT2, Pv.iT3, Pv.iT4, Pv.iT5, Pv.iT6, Pv.iT7, Pv.iT8, Pv.iT9, Pv.iT10,
  List.length_cons, List.length_nil, List.zip_cons_cons, List.zip_nil_left, List.zip_nil_right, List.map_cons, List.map_nil, List.cons_append, List.nil_append, List.replicate, Nat.sub_self, Nat.reduceAdd, Nat.reduceSub, List.append_nil, List.nodup_nil, eq_self,
  Option.map_some, Option.bind_some, Bool.false_eq_true, Bool.true_eq_false, if_true, if_false, reduceIte, Bool.not_true, Bool.not_false, part?, ino0, ino1, ino2, ino3, ino4, ino5, ino6, ino7, ino8, ino9, ino10, ino11, ino12, ino13, ino14, ino15, ino16, ino17, ino18, ino19, ino20, ino21, ino22, ino23, ino24, ino25, ino26, ino27, ino28, ino29, ino30, ino31, ino32, ino33, ino34, ino35, ino36, ino37, ino38, ino39, ino40, ino41, ino42, ino43, ino44, ino45, ino46, ino47, ino48, ino49, $ls,*])
theorem pl2 (a b : D) : permL [1, 0] [a, b] = [b, a] := rfl
theorem pl3 (a b c : D) : permL [2, 1, 0] [a, b, c] = [c, b, a] := rfl
theorem a_ok (n : Nat) {p : Int × Int} : Yes ((fsT T (n + 2)).run 43 [aD p, aD p]) :=
  is_ints _ (by simp) fun x hx => by
    simp only [List.mem_cons, List.not_mem_nil, or_false] at hx
    rcases hx with rfl | rfl
    · exact ⟨_, rfl⟩
    · exact ⟨_, rfl⟩
theorem gt_len (i : Int) (l : List Int) (h : l.length ≤ 24) : ((l.map D.int).filterMap (gtF i)).length ≤ 1000 := by
  have := List.length_filterMap_le (gtF i) (l.map D.int)
  rw [List.length_map] at this
  omega
theorem gt_ints (i : Int) (l : List Int) : ∀ x ∈ (l.map D.int).filterMap (gtF i), ∃ j : Int, x = .int j := by
  intro x hx
  obtain ⟨y, hy, e⟩ := List.mem_filterMap.mp hx
  obtain ⟨z, _, rfl⟩ := List.mem_map.mp hy
  unfold gtF at e
  dsimp only at e
  split at e
  · cases e; exact ⟨_, rfl⟩
  · cases e
theorem sort_mem {x : Str} : ∀ {l : List Str}, x ∈ sortS l → x ∈ l := by
  have ins : ∀ (y : Str) (l : List Str), x ∈ insS y l → x = y ∨ x ∈ l := by
    intro y l
    induction l with
    | nil => intro h; simp [insS] at h; exact .inl h
    | cons z l ih =>
      intro h
      unfold insS at h
      split at h
      · rcases List.mem_cons.mp h with rfl | h
        · exact .inr List.mem_cons_self
        · rcases ih h with h | h
          · exact .inl h
          · exact .inr (List.mem_cons_of_mem _ h)
      · rcases List.mem_cons.mp h with rfl | h
        · exact .inl rfl
        · exact .inr h
  intro l
  induction l with
  | nil => intro h; simp [sortS] at h
  | cons y l ih =>
    intro h
    rcases ins y _ h with rfl | h
    · exact List.mem_cons_self
    · exact List.mem_cons_of_mem _ (ih h)
theorem sort_len : ∀ l : List Str, (sortS l).length = l.length := by
  have ins : ∀ (y : Str) (l : List Str), (insS y l).length = l.length + 1 := by
    intro y l
    induction l with
    | nil => rfl
    | cons z l ih => unfold insS; split <;> simp [ih]
  intro l
  induction l with
  | nil => rfl
  | cons y l ih => rw [sortS, ins, ih]; rfl
theorem up_is (n : Nat) {h t : Int} {ks : List Kd} (B : BOk h t ks) (i : Int) : Yes ((fsT T (n + 2)).run 43 [.tup ((sortS (upL i ks)).map .str), .tup ((sortS (upL i ks)).map .str)]) := by
  have l8 := B.len
  refine is_names _ ?_ fun x hx => ?_
  · rw [List.length_map, sort_len]
    unfold upL
    rw [List.length_map]
    have := List.length_filter_le (fun k : Kd => k.2.2.contains i) ks
    omega
  · obtain ⟨s, hs, rfl⟩ := List.mem_map.mp hx
    obtain ⟨k, hk, rfl⟩ := List.mem_map.mp (sort_mem hs)
    exact ⟨_, rfl, chs_pool (B.ok k (List.mem_filter.mp hk).1).1⟩
theorem kinds_ok (n : Nat) {h t : Int} {ks : List Kd} (B : BOk h t ks) : Yes ((fsT T (n + 6)).run 45 [ownD h t ks, bookD h t ks]) := by
  have l8 := B.len
  have h1 := B.h1
  have h2 := B.h2
  rw [run_def (d := d45) rfl]
  simp_arith [d45, b45]
  refine Ok.bind (names_ok _ B) ?_
  rintro _ rfl
  simp_arith []
  refine Ok.bind (forO (fun i env => ∃ s2 s3 s4 : Option (Md × D), env = [some (.sh, ownD h t ks), some (.sh, bookD h t ks), s2, s3, s4]) ⟨none, none, none, rfl⟩ ?_) ?_
  · rintro i x env hx ⟨s2, s3, s4, rfl⟩
    obtain ⟨k, hk, rfl⟩ := List.mem_map.mp (List.mem_of_getElem? hx)
    have hl := (B.ok k hk).2.2.len B.h2
    simp_arith []
    refine Ok.bind (lhours _ B hk) ?_
    rintro _ rfl
    simp_arith []
    refine Ok.bind (worth_k _ B.nd hk) ?_
    rintro _ rfl
    simp_arith []
    refine Ok.bind (lworth _ B hk) ?_
    rintro _ rfl
    simp_arith []
    refine Ok.bind (a_ok _) ?_
    rintro _ rfl
    simp_arith [pl2, List.all_cons, List.all_nil, Bool.and_self]
    refine Ok.bind (hours_k _ B.nd hk) ?_
    rintro _ rfl
    simp_arith []
    refine Ok.bind (is_ints _ (by rw [List.length_map]; omega) fun x hx => by obtain ⟨j, _, rfl⟩ := List.mem_map.mp hx; exact ⟨j, rfl⟩) ?_
    rintro _ rfl
    simp_arith [ownD, get_hours]
    refine Ok.bind (forO (fun i env => ∃ s4 : Option (Md × D), env = [some (.sh, ownD h t ks), some (.sh, bookD h t ks), some (.sh, .str k.1), some (.sh, .tup (k.2.2.map .int)), s4]) ⟨s4, rfl⟩ ?_) ?_
    · rintro i x env hx ⟨s4, rfl⟩
      obtain ⟨j, rfl, j0, j1⟩ : ∃ j : Int, x = .int j ∧ 0 ≤ j ∧ j < h := by
        have hm := List.mem_of_getElem? hx
        simp only [List.mem_cons, List.not_mem_nil, or_false] at hm
        rcases hm with rfl | rfl | rfl
        · exact ⟨0, rfl, by omega, by omega⟩
        · refine ⟨_, rfl, Int.fdiv_nonneg (by omega) (by omega), ?_⟩
          rw [Int.fdiv_eq_ediv_of_nonneg _ (by omega)]
          omega
        · exact ⟨h - 1, rfl, by omega, by omega⟩
      simp_arith [pl3, List.all_cons, List.all_nil, Bool.and_self]
      refine Ok.bind (later_k _ B hk j0 j1) ?_
      rintro _ rfl
      simp_arith []
      refine Ok.bind (llater _ B hk j) ?_
      rintro _ rfl
      simp_arith []
      refine Ok.bind (is_ints _ (gt_len _ _ hl) (gt_ints _ _)) ?_
      rintro _ rfl
      simp_arith []
      refine Ok.ret ?_
      exact ⟨_, .inl rfl, _, rfl⟩
    · rintro _ ⟨env, rfl, s4, rfl⟩
      simp_arith []
      refine Ok.ret ?_
      exact ⟨_, .inl rfl, _, _, _, rfl⟩
  · rintro _ ⟨env, rfl, s2, s3, s4, rfl⟩
    simp_arith [ownD, get_hours]
    refine Ok.bind (lcO (fun i env => ∃ s4 : Option (Md × D), env = [some (.sh, ownD h t ks), some (.sh, bookD h t ks), s2, s3, s4]) (fun x o => o = some (.bl true)) (by rw [len_rng, sz24]; omega) ⟨s4, rfl⟩ ?_) ?_
    · rintro i x env hx ⟨s4, rfl⟩
      obtain ⟨hi, rfl⟩ := rng_at hx
      simp_arith [pl2, List.all_cons, List.all_nil, Bool.and_self]
      refine Ok.bind (up_k _ B (by omega) hi) ?_
      rintro _ rfl
      simp_arith []
      refine Ok.bind (lup _ B i) ?_
      rintro _ rfl
      simp_arith []
      refine Ok.bind (up_is _ B i) ?_
      rintro _ rfl
      simp_arith []
      refine Ok.ret ?_
      exact ⟨⟨_, rfl⟩, rfl⟩
    · rintro _ ⟨os, env, rfl, ⟨s4, rfl⟩, ha⟩
      have e : os.filterMap id = (rngD 0 h.toNat).filterMap fun _ => some (.bl true) := by
        rw [all2_map (g := fun _ => .bl true) ha]
        induction (rngD 0 h.toNat) with
        | nil => rfl
        | cons x l ih => rw [List.map_cons, List.filterMap_cons, ih]
      rw [e]
      simp_arith [all_true]
      exact Ok.ret rfl
end Pu
end
section
set_option exponentiation.threshold 5000
namespace Pu
open PySem hiding fresh Env
open L2 Vf Gn Pv PyProof.Rows TL
local macro_rules
  | `(tactic| simp_arith [$ls,*]) => `(tactic| simp -implicitDefEqProofs (disch := (have := Pv.sz24; omega)) only [↓Pv.ckP, ↓Pv.chkP, Pv.nd1, Pv.nd2, Int.reducePow, Pv.sz24, Int.reduceEq, Int.reduceNe, Int.reduceLT, Int.reduceLE, Int.reduceAdd, Int.reduceSub, Nat.reduceEqDiff, Nat.reducePow, Nat.reduceLeDiff, Nat.reduceLT, Nat.reduceMul, Int.reduceToNat, Int.reduceNeg, decide_true, decide_false, ↓Pv.toB, ↓Pv.toF, ↓Pv.toL, ↓Pv.toW, Pv.bI_ok, Pv.bI_as, reduceCtorEq, ne_eq, not_false_eq_true, and_self, and_true, true_and, or_true, true_or, Pv.fs_inoE, runDef, env0, evalS, evalE, evalEs, evalAs, inoA, getAs, Arg.get, backAs, inoIx, opd, readV, Pv.g0, Pv.gS, Pv.s0, Pv.sS, Op.get, Cn.d, R.of_some,  Pv.chkT, Pv.ckT, vw, Vf.fresh, outs, bindP, Pv.moF, Pv.moL, Pv.moD, part?, wipeE, backE,
  Pv.b_le, Pv.b_lt, Pv.b_ge, Pv.b_gt, Pv.b_add, Pv.b_sub, Pv.b_adds, Pv.b_addl, Pv.b_mul, Pv.b_fdiv, Pv.b_mod, Pv.b_gcd, Pv.b_ixl, Pv.b_ixt, Pv.b_max, Pv.b_min, Pv.u_lens, Pv.u_lenl, Pv.u_lent, Pv.u_int, Pv.u_intb, Pv.u_abs, Pv.b_pow, Pv.b_eqd, Pv.b_ned, Pv.u_str, Pv.u_neg, Pv.u_lst, Pv.u_tup, Pv.u_lrng, Pv.u_isn, isNonD, isOwnL, isOwnD, mods, opB, cndB, src, Pv.e_ii, Pv.e_bb, Pv.t_bl, Pv.t_int, Pv.t_lst, Pv.t_tup, Pv.t_non, Pv.iT1, Pv.iT2, Pv.iT3, Pv.iT4, Pv.iT5, Pv.iT6, Pv.iT7, Pv.iT8, Pv.iT9, Pv.iT10,
  List.length_cons, List.length_nil, List.zip_cons_cons, List.zip_nil_left, List.zip_nil_right, List.map_cons, List.map_nil, List.cons_append, List.nil_append, List.replicate, Nat.sub_self, Nat.reduceAdd, Nat.reduceSub, List.append_nil, List.nodup_nil, eq_self,
  Option.map_some, Option.bind_some, Bool.false_eq_true, Bool.true_eq_false, if_true, if_false, reduceIte, Bool.not_true, Bool.not_false, part?, ino0, ino1, ino2, ino3, ino4, ino5, ino6, ino7, ino8, ino9, ino10, ino11, ino12, ino13, ino14, ino15, ino16, ino17, ino18, ino19, ino20, ino21, ino22, ino23, ino24, ino25, ino26, ino27, ino28, ino29, ino30, ino31, ino32, ino33, ino34, ino35, ino36, ino37, ino38, ino39, ino40, ino41, ino42, ino43, ino44, ino45, ino46, ino47, ino48, ino49, $ls,*])
theorem bk_obj (h t : Int) (ks : List Kd) : isObj 0 (bookD h t ks) = true := rfl
theorem bk_ok (h t : Int) (ks : List Kd) : okY 1 (bookD h t ks) = true := rfl
theorem ok_str (x : Str) : okY 1 (.str x) = true := rfl
theorem ok_int (x : Int) : okY 1 (.int x) = true := rfl
theorem ok_tup (x : List D) : okY 1 (.tup x) = true := rfl
theorem bl_of (b : Bool) : blOf (.bl b) = some b := rfl
theorem len_of (n : Nat) (h : n < 1000) : lenOf (.int (n : Int)) = some (n : Int) := by
  have h1 : 0 ≤ (n : Int) := by omega
  have h2 : (n : Int) < 2 ^ 62 := by omega
  unfold lenOf
  dsimp only
  rw [if_pos ⟨h1, h2⟩]
theorem moO (h t : Int) (ks : List Kd) : modeOf true (ownD h t ks) = .own := rfl
theorem text_ne {h t t' : Int} {ks : List Kd} (B : BOk h t ks) (B' : BOk h t' ks) (e : t ≠ t') : (textS h t ks == textS h t' ks) = false := by
  refine beq_eq_false_iff_ne.mpr fun z => e ?_
  have s1 := split_text B
  have s2 := split_text B'
  rw [z, s2] at s1
  have hh : headS h t' = headS h t := (List.cons.inj s1).1
  obtain ⟨H, K, rfl, rfl, q1, q2, q3, q4⟩ := B.nat
  obtain ⟨H', K', e1, rfl, _, _, q3', q4'⟩ := B'.nat
  have a := (head_ok 0 q1 q2 q3 q4).1
  have b := (head_ok 0 q1 q2 q3' q4').1
  rw [hh, a] at b
  have b := Vf.R.ok.inj b
  simp only [Prod.mk.injEq, D.tup.injEq, List.cons.injEq, D.int.injEq] at b
  omega
theorem other_ok {h t : Int} {ks : List Kd} (B : BOk h t ks) : BOk h (t.fmod 4 + 1) ks ∧ t ≠ t.fmod 4 + 1 := by
  have h1 := B.t1
  have h2 := B.t2
  have f0 := Int.fmod_nonneg_of_pos t (b := 4) (by decide)
  have f1 := Int.fmod_lt_of_pos t (b := 4) (by decide)
  refine ⟨{ B with t1 := by omega, t2 := by omega }, ?_⟩
  have : t = 1 ∨ t = 2 ∨ t = 3 ∨ t = 4 := by omega
  rcases this with rfl | rfl | rfl | rfl <;> decide
theorem due_is (n : Nat) {h t : Int} {ks : List Kd} (B : BOk h t ks) : Yes ((fsT T (n + 3)).run 43 [.tup [.str (textS h t ks), .int h, .int t, .tup (ks.map fun k => .str k.1), .int ks.length], .tup [.str (textS h t ks), .int h, .int t, .tup (ks.map fun k => .str k.1), .int ks.length]]) := by
  have l8 := B.len
  refine is_tup _ (by simp) fun x hx => ?_
  simp only [List.mem_cons, List.not_mem_nil, or_false] at hx
  rcases hx with rfl | rfl | rfl | rfl | rfl
  · exact is_str _ (chs_text B)
  · exact is_int _ _
  · exact is_int _ _
  · exact is_names _ (by rw [List.length_map]; omega) fun x hx => by
      obtain ⟨k, hk, rfl⟩ := List.mem_map.mp hx
      exact ⟨_, rfl, chs_pool (B.ok k hk).1⟩
  · exact is_int _ _
theorem right_ok (m : Nat) {d : D} (hd : Pot 0 d) : Ok ((fsT T (m + 12)).run 46 [d]) fun r => ∃ d', r = ((false, .bl true), [d']) := by
  rw [run_def (d := d46) rfl]
  simp_arith [d46, b46]
  refine Ok.bind (forO (fun i env => ∃ (d' : D) (s1 s2 s3 s4 s5 s6 s7 s8 : Option (Md × D)), env = [some (.ino, d'), s1, s2, s3, s4, s5, s6, s7, s8] ∧ Pot (2000 * i) d') ⟨d, none, none, none, none, none, none, none, none, rfl, hd⟩ ?_) ?_
  · rintro i x env hx ⟨d', s1, s2, s3, s4, s5, s6, s7, s8, rfl, hp⟩
    obtain ⟨hi, rfl⟩ := rng_at (m := 3) hx
    simp_arith []
    refine Ok.bind (anyb_ok _ (2000 * i) (by omega) hp) ?_
    rintro _ ⟨mm, h, t, ks, d2, rfl, B, hp2⟩
    have l8 := B.len
    have lt : (textS h t ks).length ≤ 3000 := by
      have h1 := len_join (Str.ofString "\n") (headS h t :: ks.map lineS)
      have h2 := sum_le2 (lines_len B)
      have h3 := B.head.2
      rw [show (Str.ofString "\n").length = 1 from rfl] at h1
      simp only [List.map_cons, List.sum_cons, List.length_cons, List.length_map] at h1 h2
      show (Txt.join _ _).length ≤ _
      have h5 : (List.map (fun (x : Str) => x.length) (List.map lineS ks)).sum ≤ 250 * ks.length := by simpa using h2
      omega
    obtain ⟨B2, tne⟩ := other_ok B
    have c1 := chs_text B
    have c2 := chs_text B2
    have sp := split_text B
    have s1' : ((Str.ofString "\n").length == 0) = false := rfl
    have jh := join_head (x := headS h (t.fmod 4 + 1)) (ls := ks.map lineS) B2.head.2 (lines_len B) (by rw [List.length_map]; exact l8)
    rw [show Txt.join (Str.ofString "\n") (headS h (t.fmod 4 + 1) :: ks.map lineS) = textS h (t.fmod 4 + 1) ks from rfl, List.map_cons] at jh
    obtain ⟨H, K, eh, et, q1, q2, q3, q4⟩ := B.nat
    have g1 := log_small (i := h) (by omega) (by omega)
    have g2 := log_small (i := t.fmod 4 + 1) (by have := B2.t1; omega) (by have := B2.t2; omega)
    have n1 := (num_ok (a := H - 1) (by omega)).2.2
    rw [show H - 1 + 1 = H by omega, ← eh] at n1
    have b5 : (Str.ofString "book ").length = 5 := rfl
    have b1 : (Str.ofString " ").length = 1 := rfl
    have n4 : (sN h).length ≤ 2 := by have := n1.1; rw [len_app] at this; omega
    have n5 := n1.1
    have n6 := n1.2
    have n7 : (sN (t.fmod 4 + 1)).length ≤ 2 := by
      obtain ⟨_, K2, _, e2, _, _, _, _⟩ := B2.nat
      rw [e2]
      exact (num_ok (a := K2) (by have := B2.t2; omega)).1
    have lks : (ks.length : Int) < 4611686018427387904 := by omega
    have lof := len_of ks.length (by omega)
    have e0 : Str.ofString "book " ++ sN h ++ Str.ofString " " ++ sN (t.fmod 4 + 1) = headS h (t.fmod 4 + 1) := rfl
    cases mm
    all_goals
      simp_arith [moO]
      refine Ok.bind (text_ok _ B) ?_
      rintro _ rfl
      simp_arith [on2]
      refine Ok.bind (make_ok m B) ?_
      rintro _ rfl
      simp_arith [on2]
      refine Ok.bind (make_ok m B) ?_
      rintro _ rfl
      simp_arith [ownD, get_hours, get_tel]
      refine Ok.bind (names_ok _ B) ?_
      rintro _ rfl
      simp_arith [ownD, get_kinds, List.length_map, at_text, at_hours, at_tel, at_names, on2, bk_obj, lnf2, run12]
      refine Ok.bind (len_ok _) ?_
      rintro _ rfl
      simp_arith [lof]
      refine Ok.bind (due_is _ B) ?_
      rintro _ rfl
      simp_arith [on2, bk_obj, bk_ok, eqf2, run12]
      refine Ok.bind (eq_ok _ c1 c1) ?_
      rintro _ rfl
      simp_arith [bl_of, beq_self_eq_true, on2, bk_obj, bk_ok, eqf2, run12]
      refine Ok.bind (eq_ok _ c1 c1) ?_
      rintro _ rfl
      simp_arith [bl_of, beq_self_eq_true, on2, bk_obj, bk_ok, ok_str, eqf2, run12]
      refine Ok.bind (eq_no (x := .str (textS h t ks)) _ rfl) ?_
      rintro _ rfl
      simp_arith [bl_of, on2, bk_obj, bk_ok, ok_str, ok_int, eqf2, run12]
      refine Ok.bind (eq_no (x := .int 0) _ rfl) ?_
      rintro _ rfl
      simp_arith [bl_of, on2, bk_obj, bk_ok, ok_str, ok_int, ok_tup, eqf2, run12]
      refine Ok.bind (eq_no (x := .tup [.str (textS h t ks)]) _ rfl) ?_
      rintro _ rfl
      simp_arith [bl_of, b_split, s1', sp, isStrD, get_hours, get_tel, slc_l2, cut1, List.length_map, e0, jh, on2]
      refine Ok.bind (make_ok m B2) ?_
      rintro _ rfl
      simp_arith [on2, bk_obj, bk_ok, eqf2, run12]
      refine Ok.bind (eq_ok _ c2 c1) ?_
      rintro _ rfl
      simp_arith [bl_of, text_ne B2 B (fun z => tne z.symm), on2, bk_obj, bk_ok, eqf2, run12]
      refine Ok.bind (eq_ok _ c2 c1) ?_
      rintro _ rfl
      simp_arith [bl_of, text_ne B2 B (fun z => tne z.symm), on2, bk_obj, bk_ok, eqf2, run12]
      refine Ok.bind (kinds_ok _ B) ?_
      rintro _ rfl
      simp_arith []
      refine Ok.ret ?_
      exact ⟨_, .inl rfl, _, _, _, _, _, _, _, _, _, rfl, hp2.up (by omega)⟩
  · rintro _ ⟨env, rfl, d', s1, s2, s3, s4, s5, s6, s7, s8, rfl, hp⟩
    simp_arith []
    exact Ok.ret ⟨_, rfl⟩
end Pu
end
section
namespace Pu
open PySem hiding fresh Env
open L2 Vf Gn Pv PyProof.Rows TL
local macro_rules
  | `(tactic| simp_arith [$ls,*]) => `(tactic| simp -implicitDefEqProofs (disch := (have := Pv.sz24; omega)) only [↓Pv.ckP, ↓Pv.chkP, Pv.nd1, Pv.nd2, Int.reducePow, Pv.sz24, Int.reduceEq, Int.reduceNe, Int.reduceLT, Int.reduceLE, Int.reduceAdd, Int.reduceSub, Nat.reduceEqDiff, Nat.reducePow, Nat.reduceLeDiff, Nat.reduceLT, Nat.reduceMul, Int.reduceToNat, Int.reduceNeg, decide_true, decide_false, ↓Pv.toB, ↓Pv.toF, ↓Pv.toL, ↓Pv.toW, Pv.bI_ok, Pv.bI_as, reduceCtorEq, ne_eq, not_false_eq_true, and_self, and_true, true_and, or_true, true_or, Pv.fs_inoE, runDef, env0, evalS, evalE, evalEs, evalAs, inoA, getAs, Arg.get, backAs, inoIx, opd, readV, Pv.g0, Pv.gS, Pv.s0, Pv.sS, Op.get, Cn.d, R.of_some,  Pv.chkT, Pv.ckT, vw, Vf.fresh, outs, bindP, Pv.moF, Pv.moL, Pv.moD, part?, wipeE, backE,
  Pv.b_le, Pv.b_lt, Pv.b_ge, Pv.b_gt, Pv.b_add, Pv.b_sub, Pv.b_adds, Pv.b_addl, Pv.b_mul, Pv.b_fdiv, Pv.b_mod, Pv.b_gcd, Pv.b_ixl, Pv.b_ixt, Pv.b_max, Pv.b_min, Pv.u_lens, Pv.u_lenl, Pv.u_lent, Pv.u_int, Pv.u_intb, Pv.u_abs, Pv.b_pow, Pv.b_eqd, Pv.b_ned, Pv.u_str, Pv.u_neg, Pv.u_lst, Pv.u_tup, Pv.u_lrng, Pv.u_isn, isNonD, isOwnL, isOwnD, mods, opB, cndB, src, Pv.e_ii, Pv.e_bb, Pv.t_bl, Pv.t_int, Pv.t_lst, Pv.t_tup, Pv.t_non, Pv.iT1, Pv.iT2, Pv.iT3, Pv.iT4, Pv.iT5, Pv.iT6, Pv.iT7, Pv.iT8, Pv.iT9, Pv.iT10,
  List.length_cons, List.length_nil, List.zip_cons_cons, List.zip_nil_left, List.zip_nil_right, List.map_cons, List.map_nil, List.cons_append, List.nil_append, List.replicate, Nat.sub_self, Nat.reduceAdd, Nat.reduceSub, List.append_nil, List.nodup_nil, eq_self,
  Option.map_some, Option.bind_some, Bool.false_eq_true, Bool.true_eq_false, if_true, if_false, reduceIte, Bool.not_true, Bool.not_false, part?, ino0, ino1, ino2, ino3, ino4, ino5, ino6, ino7, ino8, ino9, ino10, ino11, ino12, ino13, ino14, ino15, ino16, ino17, ino18, ino19, ino20, ino21, ino22, ino23, ino24, ino25, ino26, ino27, ino28, ino29, ino30, ino31, ino32, ino33, ino34, ino35, ino36, ino37, ino38, ino39, ino40, ino41, ino42, ino43, ino44, ino45, ino46, ino47, ino48, ino49, $ls,*])
theorem whole_ok (m : Nat) (ns : List Int) (hn : ns.length ≤ 63) : Ok ((fsT T (m + 13)).run 47 [.lst (ns.map .int)]) fun r => r = ((false, .bl true), []) := by
  rw [run_def (d := d47) rfl]
  simp_arith [d47, b47]
  refine Ok.bind (cells_ok _ ns) ?_
  rintro _ ⟨c, hc, rfl⟩
  simp_arith []
  refine Ok.bind (lcP (fun _ => some (.bl true)) (by rw [len_rng, sz24]; omega) ?_) ?_
  · intro x hx
    obtain ⟨i, hi⟩ := List.getElem?_of_mem hx
    obtain ⟨h1, rfl⟩ := rng_at (m := c) hi
    simp_arith []
    refine Ok.bind (pot_ok _ ns hn i (by omega)) ?_
    rintro _ ⟨p, rfl, hp⟩
    simp_arith []
    refine Ok.bind (right_ok m hp) ?_
    rintro _ ⟨d', rfl⟩
    simp_arith []
    exact Ok.ret rfl
  · rintro _ rfl
    simp_arith [all_true]
    exact Ok.ret rfl
theorem run_law (ns : List Int) (hn : ns.length ≤ 63) : ∃ os, Vf.call Gn.T (14 + 1) 47 [.lst (ns.map .int)] = .ok ((false, .bl true), os) :=
  ⟨[], (whole_ok 2 ns hn).eq⟩
end Pu
end
set_option maxRecDepth 100000 in
set_option maxHeartbeats 8000000 in
theorem PySem.Challenge.cw_wheneverclear_k00_texts_of_books_holds : PySem.Challenge.rw_wheneverclear_k00_texts_of_books.Holds := by
  exact Asm.law_of 14 ⟨rfl, by decide, by decide⟩ Pu.run_law
