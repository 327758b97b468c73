import PyProof.Rows.All
import Wide.All
import OpenK.AllK
import Wide.FinOn
import HandS.ForMost
import HandS.ForExc
import HandS.HotCalls
import HandS.Style
import HandS.StrMore
import HandS.IsInst
import HandS.TupAny
import HandS.TupMul
import HandS.Deep
import HandS.Flow
import HandS.Defaults
import HandS.DictComp
import PySem.Challenge.RW_keepsapart_k00_place_exactly
set_option Elab.async false
set_option linter.all false
set_option maxRecDepth 100000
set_option maxHeartbeats 8000000
namespace PL
open L2 PySem PyProof.Rows PySem.Spec
/-! ## data as trees -/
inductive D where
  | non
  | bl (b : Bool)
  | int (i : Int)
  | str (s : Str)
  | tup (xs : List D)
  | lst (xs : List D)
  /-- a list that came from outside, only read -/
  | arg (xs : List D)
instance : Inhabited D := ⟨.non⟩
mutual
inductive Rep (K : PySem.W.Frag) (F : Hp) : D → V → Prop
  | non : Rep K F .non .non
  | bl (b : Bool) : Rep K F (.bl b) (.bl b)
  | int (i : Int) : Rep K F (.int i) (.int i)
  | str (x : Str) : Rep K F (.str x) (.str x)
  | tup {a : Addr} {xs : List D} {vs : List V} : SqT K F a vs → Reps K F xs vs → Rep K F (.tup xs) (.ref a)
  | lst {a : Addr} {xs : List D} {vs : List V} : F a = some (.lst vs) → Reps K F xs vs → Rep K F (.lst xs) (.ref a)
  | arg {a : Addr} {xs : List D} {vs : List V} : SqL K F a vs → Reps K F xs vs → Rep K F (.arg xs) (.ref a)
inductive Reps (K : PySem.W.Frag) (F : Hp) : List D → List V → Prop
  | nil : Reps K F [] []
  | cons {d : D} {v : V} {ds : List D} {vs : List V} : Rep K F d v → Reps K F ds vs → Reps K F (d :: ds) (v :: vs)
end
/-- F lies within H -/
abbrev Sub (F H : Hp) : Prop := Same F H
theorem sqT_mono {K : PySem.W.Frag} {F H : Hp} {a : Addr} {xs : List V} (e : Sub F H) (h : SqT K F a xs) : SqT K H a xs := by
  (rcases h with (h | ⟨o, h⟩) | h)
  · exact .inl (.inl (e _ _ h))
  · (exact .inl (.inr ⟨o, e _ _ h⟩))
  · exact .inr h
theorem sqL_mono {K : PySem.W.Frag} {F H : Hp} {a : Addr} {xs : List V} (e : Sub F H) (h : SqL K F a xs) : SqL K H a xs := by
  (rcases h with (h | ⟨o, h⟩) | h)
  · exact .inl (.inl (e _ _ h))
  · (exact .inl (.inr ⟨o, e _ _ h⟩))
  · exact .inr h
section
variable {K : PySem.W.Frag} {F F' H : Hp}
mutual
theorem Rep.mono (e : Sub F F') : ∀ {d : D} {v : V}, Rep K F d v → Rep K F' d v
  | _, _, .non => .non
  | _, _, .bl b => .bl b
  | _, _, .int i => .int i
  | _, _, .str x => .str x
  | _, _, .tup h r => .tup (sqT_mono e h) (Reps.mono e r)
  | _, _, .lst h r => .lst (e _ _ h) (Reps.mono e r)
  | _, _, .arg h r => .arg (sqL_mono e h) (Reps.mono e r)
theorem Reps.mono (e : Sub F F') : ∀ {ds : List D} {vs : List V}, Reps K F ds vs → Reps K F' ds vs
  | _, _, .nil => .nil
  | _, _, .cons h r => .cons (Rep.mono e h) (Reps.mono e r)
end
theorem Reps.length : ∀ {ds : List D} {vs : List V}, Reps K F ds vs → ds.length = vs.length
  | _, _, .nil => rfl
  | _, _, .cons _ r => congrArg (· + 1) r.length
theorem Reps.append : ∀ {ds es : List D} {vs ws : List V}, Reps K F ds vs → Reps K F es ws → Reps K F (ds ++ es) (vs ++ ws)
  | _, _, _, _, .nil, s => s
  | _, _, _, _, .cons h r, s => .cons h (Reps.append r s)
theorem Reps.get : ∀ {ds : List D} {vs : List V} {i : Nat} {d : D}, Reps K F ds vs → ds[i]? = some d → ∃ v, vs[i]? = some v ∧ Rep K F d v
  | _, _, _, _, .nil, e => (by simp at e)
  | _, _, 0, _, .cons r _, e => (by simp at e; subst e; exact ⟨_, rfl, r⟩)
  | _, _, i + 1, d, .cons _ t, e => by
    obtain ⟨u, h1, h2⟩ := Reps.get (i := i) (d := d) t (by simpa using e)
    (exact ⟨u, by simpa using h1, h2⟩)
theorem Reps.getV : ∀ {ds : List D} {vs : List V} {i : Nat} {v : V}, Reps K F ds vs → vs[i]? = some v → ∃ d, ds[i]? = some d ∧ Rep K F d v
  | _, _, _, _, .nil, e => (by simp at e)
  | _, _, 0, _, .cons r _, e => (by simp at e; subst e; exact ⟨_, rfl, r⟩)
  | _, _, i + 1, d, .cons _ t, e => by
    obtain ⟨u, h1, h2⟩ := Reps.getV (i := i) (v := d) t (by simpa using e)
    (exact ⟨u, by simpa using h1, h2⟩)
theorem Reps.set {d : D} {v : V} (r : Rep K F d v) : ∀ {ds : List D} {vs : List V} (i : Nat), Reps K F ds vs → Reps K F (ds.set i d) (vs.set i v)
  | _, _, _, .nil => .nil
  | _, _, 0, .cons _ t => (.cons r t)
  | _, _, i + 1, .cons q t => .cons q (Reps.set r i t)
theorem Reps.take : ∀ {ds : List D} {vs : List V} (n : Nat), Reps K F ds vs → Reps K F (ds.take n) (vs.take n)
  | _, _, 0, _ => .nil
  | _, _, _ + 1, .nil => .nil
  | _, _, n + 1, .cons r t => .cons r (Reps.take n t)
theorem Reps.drop : ∀ {ds : List D} {vs : List V} (n : Nat), Reps K F ds vs → Reps K F (ds.drop n) (vs.drop n)
  | _, _, 0, r => r
  | _, _, _ + 1, .nil => .nil
  | _, _, n + 1, .cons _ t => Reps.drop n t
theorem Reps.eraseIdx : ∀ {ds : List D} {vs : List V} (i : Nat), Reps K F ds vs → Reps K F (ds.eraseIdx i) (vs.eraseIdx i)
  | _, _, _, .nil => .nil
  | _, _, 0, .cons _ t => t
  | _, _, i + 1, .cons q t => .cons q (Reps.eraseIdx i t)
theorem Reps.reverse {ds : List D} {vs : List V} (h : Reps K F ds vs) : Reps K F ds.reverse vs.reverse := by
  induction ds generalizing vs with
  | nil => cases h; exact .nil
  | cons d ds ih =>
    cases h with
    | cons h t =>
      (rw [List.reverse_cons, List.reverse_cons])
      exact (ih t).append (.cons h .nil)
theorem Reps.rep {ds : List D} {vs : List V} (h : Reps K F ds vs) : ∀ k : Nat, Reps K F (List.replicate k ds).flatten (List.replicate k vs).flatten
  | 0 => .nil
  | k + 1 => by
    (rw [List.replicate_succ, List.replicate_succ, List.flatten_cons, List.flatten_cons])
    exact h.append (h.rep k)
theorem Reps.strs : ∀ (xs : List Str), Reps K F (xs.map .str) (xs.map V.str)
  | [] => .nil
  | x :: xs => .cons (.str x) (Reps.strs xs)
theorem Reps.ints : ∀ (xs : List Int), Reps K F (xs.map .int) (xs.map V.int)
  | [] => .nil
  | x :: xs => .cons (.int x) (Reps.ints xs)
end
/-! ## slots, states, results -/
inductive Slot where
  | un
  /-- frozen -/
  | fz (d : D)
  /-- a list that this slot alone holds -/
  | ow (d : D)
  /-- a list that is lent: read, never kept -/
  | bw (d : D)
  /-- an argument that is changed in place -/
  | io (d : D)
abbrev Env := List Slot
def Slot.val : Slot → Option D
  | .un => none
  | .fz d => some d
  | .ow d => some d
  | .bw d => some d
  | .io d => some d
/-- an error: its class, its fields -/
structure Er where
  c : Str
  ns : List Str
  vs : List D
inductive Rz (α : Type) where
  | ok (a : α) (e : Env)
  | er (x : Er) (e : Env)
  | bad
abbrev M (α : Type) := Env → Rz α
def M.ret {α : Type} (a : α) : M α := fun e => .ok a e
def M.bind {α β : Type} (m : M α) (f : α → M β) : M β := fun e => match m e with
  | .ok a e' => f a e'
  | .er x e' => .er x e'
  | .bad => .bad
def M.lift {α : Type} (o : Option α) : M α := fun e => match o with
  | some a => .ok a e
  | none => .bad
instance : Monad M where
  pure := M.ret
  bind := M.bind
/-- what an expression gives: a frozen value, a new list, the slot's own -/
inductive Opd where
  | v (d : D)
  | n (d : D)
  | s (i : Nat)
def Opd.fz : Opd → Opd
  | .n d => .v d
  | o => o
/-- its value as it stands -/
def rd : Opd → M D
  | .v d => M.ret d
  | .n d => M.ret d
  | .s i => fun e => match (e[i]?).bind Slot.val with
    | some d => .ok d e
    | none => .bad
/-- it is kept elsewhere -/
def cns : Opd → M D
  | .v d => M.ret d
  | .n d => M.ret d
  | .s i => fun e => match e[i]? with
    | some (.fz d) => .ok d e
    | some (.ow d) => .ok d (e.set i (.fz d))
    | _ => .bad
/-- arguments of a call -/
inductive Arg where
  | fz (d : D)
  | bw (d : D)
  | io (d : D)
/-- what a call ends with: the value (new: no one else holds it), the arguments' states -/
inductive FRes where
  | ok (new : Bool) (d : D) (outs : List D)
  | er (x : Er) (outs : List D)
  | bad
end PL
namespace PL
open L2 PySem PyProof.Rows PySem.Spec
/-! ## operations on trees; none: the layer says nothing -/
inductive BOp where | add | sub | mul | fdiv | mod | pow
inductive COp where | eq | ne | lt | le | gt | ge | isin | notin
inductive Ty where | int | str | list | tuple | bool
inductive Blt where | len | int | list | tuple
inductive Mth where | strip | upper | count | find
inductive Kon where | non | tru | fls
/-- a flat value -/
def D.sc : D → Option V
  | .non => some .non
  | .bl b => some (.bl b)
  | .int i => some (.int i)
  | .str x => some (.str x)
  | _ => none
mutual
def D.pd : D → PyData
  | .non => .none
  | .bl b => .bool b
  | .int i => .int i
  | .str x => .str x
  | .tup xs => .tuple (D.pds xs)
  | .lst xs => .list (D.pds xs)
  | .arg xs => .list (D.pds xs)
def D.pds : List D → List PyData
  | [] => []
  | d :: ds => D.pd d :: D.pds ds
end
def eqD (a b : D) : Option Bool :=
  match a.sc, b.sc with
  | some x, some y => if scal x y = true then some (decide (x = y)) else none
  | _, _ => if SeqAt.shaped a.pd = true ∧ SeqAt.shaped b.pd = true then some (PyData.eqv a.pd b.pd) else none
def inL (a : D) (xs : List D) (deep : Bool) : Option Bool :=
  match a.sc with
  | some x => if xs.all (fun y => y.sc.isSome) = true then some (xs.any fun y => PyData.eqv y.pd a.pd)
    else if deep = true ∧ SeqAt.shaped a.pd = true ∧ SeqAt.shaped (.list (D.pds xs)) = true then some (xs.any fun y => PyData.eqv y.pd a.pd) else none
  | none => if deep = true ∧ SeqAt.shaped a.pd = true ∧ SeqAt.shaped (.list (D.pds xs)) = true then some (xs.any fun y => PyData.eqv y.pd a.pd) else none
def inD (a b : D) : Option Bool :=
  match b with
  | .str y => match a with
    | .str x => some (!(Builtin.Str.occurrences y x 0 y.length 1).isEmpty)
    | _ => none
  | .lst xs => inL a xs true
  | .tup xs => inL a xs false
  | _ => none
def binD (o : BOp) (a b : D) : Option Opd :=
  match o, a, b with
  | .add, .int i, .int j => some (.v (.int (i + j)))
  | .add, .str x, .str y => if x.length + y.length ≤ sizeLine then some (.v (.str (x ++ y))) else none
  | .add, .tup xs, .tup ys => if xs.length + ys.length ≤ sizeLine then some (.v (.tup (xs ++ ys))) else none
  | .add, .lst xs, .lst ys => if xs.length + ys.length ≤ sizeLine then some (.n (.lst (xs ++ ys))) else none
  | .sub, .int i, .int j => some (.v (.int (i - j)))
  | .mul, .int i, .int j => if (-(2 ^ 64) < i ∧ i < 2 ^ 64) ∨ (-(2 ^ 64) < j ∧ j < 2 ^ 64) then some (.v (.int (i * j))) else none
  | .mul, .str x, .int k => if 0 ≤ k ∧ k ≤ 1000 ∧ x.length ≤ 1000 then some (.v (.str (Txt.mul x k))) else none
  | .mul, .lst xs, .int k => if -(2 ^ 63) ≤ k ∧ k < 2 ^ 63 ∧ xs.length * k.toNat ≤ sizeLine then some (.n (.lst (List.replicate k.toNat xs).flatten)) else none
  | .mul, .tup xs, .int k => if xs ≠ [] ∧ 2 ≤ k ∧ k ≤ 1000 ∧ xs.length ≤ 1000 then some (.v (.tup (List.replicate k.toNat xs).flatten)) else none
  | .fdiv, .int i, .int j => if j ≠ 0 ∧ j.natAbs < 1073741824 then some (.v (.int (i.fdiv j))) else none
  | .mod, .int i, .int j => if j ≠ 0 then some (.v (.int (i.fmod j))) else none
  | .pow, .int i, .int j => if 0 ≤ j ∧ j ≤ 1000000 ∧ i.natAbs < 2 ^ 64 then some (.v (.int (i ^ j.toNat))) else none
  | _, _, _ => none
def cmpD (o : COp) (a b : D) : Option Bool :=
  match o with
  | .eq => eqD a b
  | .ne => (eqD a b).map (!·)
  | .isin => inD a b
  | .notin => (inD a b).map (!·)
  | .lt => match a, b with
    | .int i, .int j => some (decide (i < j))
    | .str x, .str y => some (decide (x.cps.toList < y.cps.toList))
    | _, _ => none
  | .le => match a, b with
    | .int i, .int j => some (decide (i ≤ j))
    | _, _ => none
  | .gt => match a, b with
    | .int i, .int j => some (decide (j < i))
    | _, _ => none
  | .ge => match a, b with
    | .int i, .int j => some (decide (j ≤ i))
    | _, _ => none
def truD : D → Option Bool
  | .non => some false
  | .bl b => some b
  | .int i => some (i != 0)
  | .str x => if x.length ≤ sizeLine then some ((x.length : Int) != 0) else none
  | .tup xs => some (!xs.isEmpty)
  | .lst xs => some (!xs.isEmpty)
  | .arg xs => none
def isiD (t : Ty) : D → Bool
  | .non => false
  | .bl _ => match t with | .int => true | .bool => true | _ => false
  | .int _ => match t with | .int => true | _ => false
  | .str _ => match t with | .str => true | _ => false
  | .tup _ => match t with | .tuple => true | _ => false
  | .lst _ => match t with | .list => true | _ => false
  | .arg _ => match t with | .list => true | _ => false
/-- is None, is True, is False -/
def isD (k : Kon) (d : D) : Option Bool :=
  match k with
  | .non => match d with | .non => some true | _ => some false
  | .tru => match d with | .bl b => some b | _ => some false
  | .fls => match d with | .bl b => some (!b) | _ => some false
def subD (a i : D) : Option D :=
  match i with
  | .int k => match a with
    | .lst xs => atI xs k
    | .tup xs => atI xs k
    | .str z => if z.length ≤ sizeLine then (atI z.cps.toList k).map fun c => .str ⟨#[c]⟩ else none
    | _ => none
  | _ => none
/-- as the layer's cut of values -/
def cutD {α : Type} (xs : List α) (lo hi : Option Int) : List α := (xs.drop (HT.sIx xs.length 0 lo)).take (HT.sIx xs.length xs.length hi - HT.sIx xs.length 0 lo)
def sliD (a : D) (lo hi : Option Int) : Option Opd :=
  match a with
  | .lst xs => some (.n (.lst (cutD xs lo hi)))
  | .arg xs => some (.n (.lst (cutD xs lo hi)))
  | .tup xs => some (.v (.tup (cutD xs lo hi)))
  | .str z => if z.length ≤ sizeLine then some (.v (.str (cutS z lo hi))) else none
  | _ => none
def revD (a : D) : Option Opd :=
  match a with
  | .lst xs => some (.n (.lst xs.reverse))
  | _ => none
def bltD (f : Blt) (ds : List D) : Option Opd :=
  match f, ds with
  | .len, [.str z] => if z.length ≤ sizeLine then some (.v (.int z.length)) else none
  | .len, [.lst xs] => some (.v (.int xs.length))
  | .len, [.tup xs] => some (.v (.int xs.length))
  | .int, [.int i] => some (.v (.int i))
  | .list, [.lst xs] => some (.n (.lst xs))
  | .list, [.tup xs] => some (.n (.lst xs))
  | .tuple, [.lst xs] => some (.v (.tup xs))
  | .tuple, [.tup xs] => some (.v (.tup xs))
  | _, _ => none
def mthD (m : Mth) (a : D) (ds : List D) : Option Opd :=
  match m, a, ds with
  | .strip, .str x, [.str y] => if x.length ≤ sizeLine then some (.v (.str (Txt.stripChars x y))) else none
  | .upper, .str x, [] => if x.length ≤ 5592405 then some (.v (.str (Txt.upper x))) else none
  | .count, .str x, [.str y] => some (.v (.int (Txt.count x y)))
  | .find, .str x, [.str y] => some (.v (.int (Txt.find x y)))
  | _, _, _ => none
/-- what a walk over it gives -/
def itD : D → Option (List D)
  | .lst xs => some xs
  | .tup xs => some xs
  | .str z => some (z.cps.toList.map fun c => .str ⟨#[c]⟩)
  | _ => none
def rngD (lo hi : D) : Option (List D) :=
  match lo, hi with
  | .int i, .int j => if -(2 ^ 62) ≤ i ∧ i < 2 ^ 62 ∧ -(2 ^ 62) ≤ j ∧ j < 2 ^ 62 then some ((List.range (j - i).toNat).map fun (k : Nat) => .int (i + k)) else none
  | _, _ => none
/-! ## the syntax -/
/-- a parameter's value: a positional argument, a keyword's, a default -/
inductive Src where
  | pos (i : Nat)
  | kw (i : Nat)
  | dfl (d : D)
inductive Ex where
  | var (i : Nat)
  | int (i : Int)
  | bl (b : Bool)
  | non
  | str (s : Str)
  /-- a constant of the module -/
  | gl (x : Str)
  | bin (o : BOp) (a b : Ex)
  | neg (a : Ex)
  | not (a : Ex)
  | and (a b : Ex)
  | or (a b : Ex)
  | ite (c a b : Ex)
  | cmp (o : COp) (a b : Ex)
  | chain (o p : COp) (a b c : Ex)
  | is (neg : Bool) (k : Kon) (a : Ex)
  | tup (es : Ex)
  | lst (es : Ex)
  | sub (a i : Ex)
  | sli (a lo hi : Ex)
  | rev (a : Ex)
  | blt (f : Blt) (es : Ex)
  | mth (m : Mth) (a es : Ex)
  | isi (t : Ty) (a : Ex)
  /-- io: which arguments the def changes in place; src: where each parameter's value comes from -/
  | call (f : Str) (io : List Bool) (src : List Src) (es ks : Ex)
  /-- [elt for tg in it if c] -/
  | lc (tg : List Nat) (it c elt : Ex)
  /-- walked: a list, a tuple, a text; range(a), range(a, b) -/
  | seq (a : Ex)
  | rng (a b : Ex)
  /-- an empty part of a slice, no condition; one that is there; a value's truth -/
  | no
  | so (a : Ex)
  | nil
  | cons (a b : Ex)
inductive St where
  | skip
  | seq (a b : St)
  | set (i : Nat) (e : Ex)
  | unp (is : List Nat) (e : Ex)
  | par (i j : Nat) (a b : Ex)
  | sset (i : Nat) (ix e : Ex)
  | app (i : Nat) (e : Ex)
  | exp (e : Ex)
  | ret (e : Ex)
  | retN
  | ifs (c : Ex) (a b : St)
  | whl (c : Ex) (b : St)
  | fr (tg : List Nat) (it : Ex) (b : St)
  | brk
  | cnt
/-! ## what it does -/
structure Ora where
  call : Str → List Arg → FRes
  gv : Str → Option D
  fuel : Nat
/-- a slot is stored -/
def setS (i : Nat) (s : Slot) (e : Env) : Option Env :=
  match e[i]? with
  | some .un => some (e.set i s)
  | some (.fz _) => some (e.set i s)
  | some (.ow _) => some (e.set i s)
  | _ => none
/-- a target: one name, or several of a tuple -/
def unpS : List Nat → List D → Env → Option Env
  | [], [], e => some e
  | i :: is, d :: ds, e => (setS i (.fz d) e).bind (unpS is ds)
  | _, _, _ => none
def asgT (tg : List Nat) (d : D) (e : Env) : Option Env :=
  match tg with
  | [i] => setS i (.fz d) e
  | is => match d with
    | .tup ds => unpS is ds e
    | _ => none
/-- a thing that is walked -/
def wlk : Opd → M D
  | .v d => M.ret d
  | .n d => M.ret d
  | .s i => fun e => match e[i]? with
    | some (.fz d) => .ok d e
    | some (.bw d) => .ok d e
    | some (.ow d) => .ok d (e.set i (.fz d))
    | _ => .bad
/-- arguments at a call -/
def argS (m : Bool) : Option Slot → Option Arg
  | some (.fz d) => if m = true then none else some (.fz d)
  | some (.ow d) => some (if m = true then .io d else .bw d)
  | some (.bw d) => if m = true then none else some (.bw d)
  | some (.io d) => some (if m = true then .io d else .bw d)
  | _ => none
def argO (e : Env) (m : Bool) : Opd → Option Arg
  | .v d => if m = true then none else some (.fz d)
  | .n d => if m = true then none else some (.fz d)
  | .s i => argS m e[i]?
def argsO (e : Env) : List Bool → List Opd → Option (List Arg)
  | _, [] => some []
  | [], o :: os => (argO e false o).bind fun a => (argsO e [] os).map fun as => a :: as
  | m :: ms, o :: os => (argO e m o).bind fun a => (argsO e ms os).map fun as => a :: as
/-- which slots are handed on -/
def slotsO : List Opd → List Nat
  | [] => []
  | .s i :: os => i :: slotsO os
  | _ :: os => slotsO os
/-- what is changed in place is handed on once -/
def once (all : List Nat) : List Bool → List Opd → Bool
  | true :: ms, .s i :: os => (all.count i == 1) && once all ms os
  | _ :: ms, _ :: os => once all ms os
  | _, _ => true
/-- the changed arguments come back -/
def back1 (i : Nat) (d : D) (e : Env) : Env := match e[i]? with
  | some (.ow _) => e.set i (.ow d)
  | some (.io _) => e.set i (.io d)
  | _ => e
def back : List Bool → List Opd → List D → Env → Env
  | true :: ms, .s i :: os, d :: ds, e => back ms os ds (back1 i d e)
  | _ :: ms, _ :: os, _ :: ds, e => back ms os ds e
  | _, _, _, e => e
def wipeS (e : Env) : List Nat → Env
  | [] => e
  | i :: is => (wipeS e is).set i .un
def wiped (e : Env) : List Nat → Bool
  | [] => true
  | i :: is => (match e[i]? with | some .un => true | _ => false) && wiped e is
/-- the turns of a comprehension -/
def lcL (tg : List Nat) (c : M Bool) (elt : M D) : List D → M (List D)
  | [] => M.ret []
  | d :: ds => fun e => match asgT tg d (wipeS e tg) with
    | none => .bad
    | some e1 => match c e1 with
      | .ok true e2 => match elt e2 with
        | .ok x e3 => match lcL tg c elt ds e3 with
          | .ok xs e4 => .ok (x :: xs) e4
          | r => .bad
        | _ => .bad
      | .ok false e2 => lcL tg c elt ds e2
      | _ => .bad
def slot (e : Env) (i : Nat) : Option Slot := e[i]?
/-- a part of a slice -/
def partO : Option D → M (Option Int)
  | none => M.ret none
  | some (.int i) => M.ret (some i)
  | some _ => fun _ => .bad
def srcs (os ws : List Opd) : List Src → Option (List Opd)
  | [] => some []
  | .pos i :: ss => (os[i]?).bind fun o => (srcs os ws ss).map fun r => o :: r
  | .kw i :: ss => (ws[i]?).bind fun o => (srcs os ws ss).map fun r => o :: r
  | .dfl d :: ss => (srcs os ws ss).map fun r => .v d :: r
def callF (Φ : Ora) (f : Str) (ms : List Bool) (os : List Opd) : M Opd := fun e =>
  if once (slotsO os) ms os = true then
    match argsO e ms os with
    | none => .bad
    | some as => match Φ.call f as with
      | .ok true d outs => .ok (.n d) (back ms os outs e)
      | .ok false d outs => .ok (.v d) (back ms os outs e)
      | .er x outs => .er x (back ms os outs e)
      | .bad => .bad
  else .bad
def rds : List Opd → M (List D)
  | [] => M.ret []
  | o :: os => M.bind (rd o) fun d => M.bind (rds os) fun ds => M.ret (d :: ds)
def bl (o : Option Bool) : M Opd := M.bind (M.lift o) fun b => M.ret (.v (.bl b))
section
variable (Φ : Ora)
mutual
/-- the value -/
def ev : Ex → M Opd
  | .var i => fun e => match e[i]? with
    | some .un => .bad
    | none => .bad
    | some _ => .ok (.s i) e
  | .int i => M.ret (.v (.int i))
  | .bl b => M.ret (.v (.bl b))
  | .non => M.ret (.v .non)
  | .str s => M.ret (.v (.str s))
  | .gl x => M.bind (M.lift (Φ.gv x)) fun d => M.ret (.v d)
  | .bin o a b => M.bind (ev a) fun x => M.bind (ev b) fun y => M.bind (rd x) fun dx => M.bind (rd y) fun dy => M.lift (binD o dx dy)
  | .neg a => M.bind (ev a) fun x => M.bind (rd x) fun d => match d with
    | .int i => M.ret (.v (.int (-i)))
    | _ => fun _ => .bad
  | .not a => M.bind (ev a) fun x => M.bind (rd x) fun d => M.bind (M.lift (truD d)) fun b => M.ret (.v (.bl (!b)))
  | .and a b => M.bind (ev a) fun x => M.bind (rd x) fun d => M.bind (M.lift (truD d)) fun k => if k = true then ev b else M.ret x.fz
  | .or a b => M.bind (ev a) fun x => M.bind (rd x) fun d => M.bind (M.lift (truD d)) fun k => if k = true then M.ret x.fz else ev b
  | .ite c a b => M.bind (evT c) fun k => if k = true then ev a else ev b
  | .cmp o a b => M.bind (ev a) fun x => M.bind (ev b) fun y => M.bind (rd x) fun dx => M.bind (rd y) fun dy => bl (cmpD o dx dy)
  | .chain o p a b c => M.bind (ev a) fun x => M.bind (ev b) fun y => M.bind (rd x) fun dx => M.bind (rd y) fun dy => M.bind (M.lift (cmpD o dx dy)) fun k =>
      if k = true then M.bind (ev c) fun z => M.bind (rd y) fun dy => M.bind (rd z) fun dz => bl (cmpD p dy dz) else M.ret (.v (.bl false))
  | .is n k a => M.bind (ev a) fun x => M.bind (rd x) fun d => bl ((isD k d).map fun b => if n = true then !b else b)
  | .tup es => M.bind (evc es) fun ds => fun e => if ds.length ≤ sizeLine then .ok (.v (.tup ds)) e else .bad
  | .lst es => M.bind (evc es) fun ds => fun e => if ds.length ≤ sizeLine then .ok (.n (.lst ds)) e else .bad
  | .sub a i => M.bind (ev a) fun x => M.bind (ev i) fun y => M.bind (rd x) fun dx => M.bind (rd y) fun dy => M.bind (M.lift (subD dx dy)) fun d => M.ret (.v d)
  | .sli a lo hi => M.bind (ev a) fun x => M.bind (evP lo) fun l => M.bind (evP hi) fun h => M.bind (rd x) fun dx => M.lift (sliD dx l h)
  | .rev a => M.bind (ev a) fun x => M.bind (rd x) fun dx => M.lift (revD dx)
  | .blt f es => M.bind (evs es) fun os => M.bind (rds os) fun ds => M.lift (bltD f ds)
  | .mth m a es => M.bind (ev a) fun x => M.bind (rd x) fun dx => match dx with
    | .str z => M.bind (evs es) fun os => M.bind (rds os) fun ds => M.lift (mthD m (.str z) ds)
    | _ => fun _ => .bad
  | .isi t a => M.bind (ev a) fun x => M.bind (rd x) fun dx => M.ret (.v (.bl (isiD t dx)))
  | .call f ms src es ks => M.bind (evs es) fun os => M.bind (evs ks) fun ws => M.bind (M.lift (srcs os ws src)) fun xs => callF Φ f ms xs
  | .lc tg it c elt => M.bind (evI it) fun ds => fun e => if ds.length ≤ sizeLine then
      match lcL tg (evC c) (M.bind (ev elt) cns) ds e with
      | .ok xs e' => .ok (.n (.lst xs)) (wipeS e' tg)
      | _ => .bad
      else .bad
  | _ => fun _ => .bad
/-- arguments, from the left -/
def evs : Ex → M (List Opd)
  | .nil => M.ret []
  | .cons a b => M.bind (ev a) fun x => M.bind (evs b) fun xs => M.ret (x.fz :: xs)
  | _ => fun _ => .bad
/-- items that are kept -/
def evc : Ex → M (List D)
  | .nil => M.ret []
  | .cons a b => M.bind (ev a) fun x => M.bind (cns x) fun d => M.bind (evc b) fun ds => M.ret (d :: ds)
  | _ => fun _ => .bad
/-- a test -/
def evT : Ex → M Bool
  | .not a => M.bind (evT a) fun b => M.ret (!b)
  | .and a b => M.bind (evT a) fun k => if k = true then evT b else M.ret false
  | .or a b => M.bind (evT a) fun k => if k = true then M.ret true else evT b
  | .so a => M.bind (ev a) fun x => M.bind (rd x) fun d => M.lift (truD d)
  | _ => fun _ => .bad
/-- a part of a slice -/
def evP : Ex → M (Option Int)
  | .no => M.ret none
  | .so a => M.bind (ev a) fun x => M.bind (rd x) fun d => partO (some d)
  | _ => fun _ => .bad
/-- a condition of a comprehension -/
def evC : Ex → M Bool
  | .no => M.ret true
  | .so a => evT a
  | _ => fun _ => .bad
/-- what is walked -/
def evI : Ex → M (List D)
  | .seq a => M.bind (ev a) fun x => M.bind (wlk x) fun d => M.lift (itD d)
  | .rng a b => M.bind (ev a) fun x => M.bind (ev b) fun y => M.bind (rd x) fun dx => M.bind (rd y) fun dy => M.lift (rngD dx dy)
  | _ => fun _ => .bad
end
end
/-! ## statements -/
inductive SR where
  | nx (e : Env)
  | rt (new : Bool) (d : D) (e : Env)
  | bk (e : Env)
  | ct (e : Env)
  | er (x : Er) (e : Env)
  | bad
/-- an expression, then the rest -/
def SR.of {α : Type} (r : Rz α) (f : α → Env → SR) : SR := match r with
  | .ok a e => f a e
  | .er x e => .er x e
  | .bad => .bad
def SR.opt (o : Option Env) : SR := match o with
  | some e => .nx e
  | none => .bad
/-- a value is returned -/
def rtO : Opd → Env → SR
  | .v d, e => .rt false d e
  | .n d, e => .rt true d e
  | .s i, e => match e[i]? with
    | some (.fz d) => .rt false d e
    | some (.ow d) => .rt true d (e.set i .un)
    | _ => .bad
/-- a value goes into a slot -/
def stO (i : Nat) : Opd → Env → SR
  | .v d, e => SR.opt (setS i (.fz d) e)
  | .n d, e => SR.opt (setS i (.ow d) e)
  | .s j, e => SR.of (cns (.s j) e) fun d e' => SR.opt (setS i (.fz d) e')
/-- the list in a slot is changed -/
def chg (i : Nat) (f : List D → Option (List D)) (e : Env) : Option Env :=
  match e[i]? with
  | some (.ow (.lst xs)) => (f xs).map fun ys => e.set i (.ow (.lst ys))
  | some (.io (.lst xs)) => (f xs).map fun ys => e.set i (.io (.lst ys))
  | _ => none
/-- a slot holds a list -/
def held (i : Nat) (e : Env) : Bool := match e[i]? with
  | some (.ow (.lst _)) => true
  | some (.io (.lst _)) => true
  | _ => false
def lpS (tg : List Nat) (b : Env → SR) : List D → Env → SR
  | [], e => .nx e
  | d :: ds, e => match asgT tg d e with
    | none => .bad
    | some e1 => match b e1 with
      | .nx e2 => lpS tg b ds e2
      | .ct e2 => lpS tg b ds e2
      | .bk e2 => .nx e2
      | r => r
def whS (c : M Bool) (b : Env → SR) : Nat → Env → SR
  | 0, _ => .bad
  | n + 1, e => match c e with
    | .ok true e1 => match b e1 with
      | .nx e2 => whS c b n e2
      | .ct e2 => whS c b n e2
      | .bk e2 => .nx e2
      | r => r
    | .ok false e1 => .nx e1
    | .er x e1 => .er x e1
    | .bad => .bad
section
variable (Φ : Ora)
def ex : St → Env → SR
  | .skip, e => .nx e
  | .seq a b, e => match ex a e with
    | .nx e' => ex b e'
    | r => r
  | .set i x, e => SR.of (ev Φ x e) (stO i)
  | .unp is x, e => SR.of (ev Φ x e) fun o e1 => SR.of (rd o e1) fun d e2 => match d with
    | .tup ds => SR.opt (unpS is ds e2)
    | _ => .bad
  | .par i j a b, e => SR.of (evc Φ (.cons a (.cons b .nil)) e) fun ds e1 => match ds with
    | [x, y] => SR.opt ((setS i (.fz x) e1).bind (setS j (.fz y)))
    | _ => .bad
  | .sset i ix x, e => SR.of (M.bind (ev Φ x) cns e) fun d e1 => SR.of (ev Φ (.var i) e1) fun _ e2 => SR.of (ev Φ ix e2) fun o e3 => SR.of (rd o e3) fun k e4 => match k with
    | .int k => SR.opt (chg i (fun xs => (ixN xs.length k).map fun j => xs.set j d) e4)
    | _ => .bad
  | .app i x, e => if held i e = true then SR.of (M.bind (ev Φ x) cns e) fun d e2 => SR.opt (chg i (fun xs => if xs.length < sizeLine then some (xs ++ [d]) else none) e2) else .bad
  | .exp x, e => SR.of (ev Φ x e) fun _ e1 => .nx e1
  | .ret x, e => SR.of (ev Φ x e) rtO
  | .retN, e => .rt false .non e
  | .ifs c a b, e => SR.of (evT Φ c e) fun k e1 => if k = true then ex a e1 else ex b e1
  | .whl c b, e => whS (evT Φ c) (ex b) Φ.fuel e
  | .fr tg it b, e => SR.of (evI Φ it e) fun ds e1 => lpS tg (ex b) ds e1
  | .brk, e => .bk e
  | .cnt, e => .ct e
end
/-! ## a def -/
structure Def where
  /-- parameters, names -/
  np : Nat
  nn : Nat
  body : St
def Arg.slot : Arg → Slot
  | .fz d => .fz d
  | .bw d => .bw d
  | .io d => .io d
def startE (nn : Nat) (as : List Arg) : Env := as.map Arg.slot ++ List.replicate (nn - as.length) .un
/-- the arguments' states at the end -/
def outsE (np : Nat) (e : Env) : List D := (e.take np).map fun s => (s.val).getD .non
/-- every argument that is changed in place is still one -/
def kept : List Arg → Env → Bool
  | [], _ => true
  | .io _ :: as, .io _ :: e => kept as e
  | .io _ :: _, _ => false
  | _ :: as, _ :: e => kept as e
  | _ :: _, [] => false
def runD (Φ : Ora) (d : Def) (as : List Arg) : FRes :=
  if as.length = d.np ∧ d.np ≤ d.nn then
    match ex Φ d.body (startE d.nn as) with
    | .nx e => if kept as e = true then .ok false .non (outsE d.np e) else .bad
    | .rt n x e => if kept as e = true then .ok n x (outsE d.np e) else .bad
    | .er x e => if kept as e = true then .er x (outsE d.np e) else .bad
    | _ => .bad
  else .bad
/-- calls of k levels -/
def orc (tab : Str → Option Def) (gv : Str → Option D) (fuel : Nat) : Nat → Ora
  | 0 => ⟨fun _ _ => .bad, gv, fuel⟩
  | k + 1 => ⟨fun f as => match tab f with
      | some d => runD (orc tab gv fuel k) d as
      | none => .bad, gv, fuel⟩
end PL
namespace PL
open L2 PySem PyProof.Rows PySem.Spec
/-! ## how trees lie in the heap -/
/-- of a frame: the written part; what stood at its entry and stays (G); what was frozen at its entry (F0); where lent and changed arguments lie (B); the classes of errors -/
structure Gh where
  K : PySem.W.Frag
  G : Hp
  F0 : Hp
  B : Nat → Option Addr
  C : Str → Option Addr
/-- a list that is not frozen -/
def OwnAt (K : PySem.W.Frag) (F H : Hp) (a : Addr) : D → Prop
  | .lst xs => ∃ vs, H a = some (.lst vs) ∧ Reps K F xs vs
  | _ => False
def SlOk (g : Gh) (F H : Hp) (i : Nat) (σ : L2.St) : Slot → Prop
  | .un => True
  | .fz d => ∃ v, σ[i]? = some (some v) ∧ Rep g.K F d v
  | .ow d => ∃ a, σ[i]? = some (some (.ref a)) ∧ F a = none ∧ g.G a = none ∧ OwnAt g.K F H a d
  | .bw d => ∃ a, σ[i]? = some (some (.ref a)) ∧ F a = none ∧ g.B i = some a ∧ OwnAt g.K F g.G a d
  | .io d => ∃ a, σ[i]? = some (some (.ref a)) ∧ F a = none ∧ g.G a = none ∧ g.B i = some a ∧ OwnAt g.K F H a d
def Slot.mut : Slot → Bool
  | .ow _ => true
  | .io _ => true
  | _ => false
structure Ok (g : Gh) (F : Hp) (e : Env) (σ : L2.St) (H : Hp) : Prop where
  len : e.length = σ.length
  sub : Sub F H
  base : Sub g.F0 F
  keep : Sub g.G H
  fr : ∀ a o, g.G a = some o → F a = g.F0 a
  bt : ∀ i a, g.B i = some a → ∃ o, H a = some o
  slot : ∀ (i : Nat) (s : Slot), e[i]? = some s → SlOk g F H i σ s
  dis : ∀ (i j : Nat) (s t : Slot) (a : Addr), i ≠ j → e[i]? = some s → e[j]? = some t → s.mut = true → t.mut = true → σ[i]? = some (some (.ref a)) → σ[j]? ≠ some (some (.ref a))
section
variable {g : Gh} {F F' H H' : Hp} {e : Env} {σ : L2.St} {i : Nat} {s : Slot} {d : D} {a : Addr} {v : V}
/-- where a held list lies -/
theorem SlOk.at (h : SlOk g F H i σ s) (hs : s.mut = true) : ∃ a d, s.val = some d ∧ σ[i]? = some (some (.ref a)) ∧ F a = none ∧ g.G a = none ∧ OwnAt g.K F H a d := by
  cases s with
  | un => cases hs
  | fz d => cases hs
  | bw d => cases hs
  | ow d => obtain ⟨a, h1, h2, h3, h4⟩ := h; exact ⟨a, d, rfl, h1, h2, h3, h4⟩
  | io d => obtain ⟨a, h1, h2, h3, h4, h5⟩ := h; exact ⟨a, d, rfl, h1, h2, h3, h5⟩
theorem OwnAt.there {K : PySem.W.Frag} (h : OwnAt K F H a d) : ∃ xs vs, d = .lst xs ∧ H a = some (.lst vs) ∧ Reps K F xs vs := by
  cases d with
  | lst xs => obtain ⟨vs, h1, h2⟩ := h; exact ⟨xs, vs, rfl, h1, h2⟩
  | _ => exact h.elim
theorem OwnAt.move {K : PySem.W.Frag} (h : OwnAt K F H a d) (hF : Sub F F') (hH : H' a = H a) : OwnAt K F' H' a d := by
  cases d with
  | lst xs => obtain ⟨vs, h1, h2⟩ := h; exact ⟨vs, hH.trans h1, h2.mono hF⟩
  | _ => exact h.elim
/-- the frozen part grows, the heap changes away from what is held -/
theorem SlOk.move (h : SlOk g F H i σ s) (hF : Sub F F') (hn : ∀ a, s.mut = true → σ[i]? = some (some (.ref a)) → F a = none → F' a = none ∧ H' a = H a) (hg : ∀ a o, g.G a = some o → F a = none → F' a = none) : SlOk g F' H' i σ s := by
  cases s with
  | un => trivial
  | fz d => obtain ⟨v, h1, h2⟩ := h; exact ⟨v, h1, h2.mono hF⟩
  | ow d => obtain ⟨a, h1, h2, h3, h4⟩ := h; obtain ⟨q1, q2⟩ := hn a rfl h1 h2; exact ⟨a, h1, q1, h3, h4.move hF q2⟩
  | bw d =>
    obtain ⟨a, h1, h2, h3, h4⟩ := h
    obtain ⟨xs, vs, rfl, h5, h6⟩ := h4.there
    exact ⟨a, h1, hg a _ h5 h2, h3, vs, h5, h6.mono hF⟩
  | io d => obtain ⟨a, h1, h2, h3, h4, h5⟩ := h; obtain ⟨q1, q2⟩ := hn a rfl h1 h2; exact ⟨a, h1, q1, h3, h4, h5.move hF q2⟩
theorem sub_upd {H : Hp} {a : Addr} {o : HO} (h : H a = none) : Sub H (upd H a o) := fun b u e => by rw [upd_ne (ne_of_none e h)]; exact e
theorem sub_upd2 {F H : Hp} {a : Addr} {o : HO} (e : Sub F H) (h : H a = some o) : Sub (upd F a o) H := fun b u q => by
  by_cases hb : b = a
  · subst hb; rw [upd_same] at q; cases q; exact h
  · rw [upd_ne hb] at q; exact e b u q
theorem Sub.none (e : Sub F H) (h : H a = none) : F a = none := Same.free e h
/-- a new object, frozen at once -/
theorem Ok.new {o : HO} (k : Ok g F e σ H) (h : H a = none) : Ok g (upd F a o) e σ (upd H a o) where
  len := k.len
  sub := fun b u q => by
    by_cases hb : b = a
    · subst hb; rw [upd_same] at q ⊢; exact q
    · rw [upd_ne hb] at q ⊢; exact k.sub b u q
  base := k.base.trans (sub_upd (k.sub.none h))
  keep := k.keep.trans (sub_upd h)
  fr := fun b u q => by
    rw [upd_ne (ne_of_none (k.keep b u q) h)]
    exact k.fr b u q
  bt := fun i b q => by
    obtain ⟨u, z⟩ := k.bt i b q
    exact ⟨u, sub_upd h b u z⟩
  slot := fun i s q => (k.slot i s q).move (sub_upd (k.sub.none h)) (fun b hs hb hF => by
    obtain ⟨b', d', h1, h2, h3, _, h4⟩ := (k.slot i s q).at hs
    rw [hb] at h2
    cases h2
    obtain ⟨xs, vs, _, h5, _⟩ := h4.there
    have ne := ne_of_none h5 h
    exact ⟨by rw [upd_ne ne]; exact hF, by rw [upd_ne ne]⟩) fun b u hb hF => by rw [upd_ne (ne_of_none (k.keep b u hb) h)]; exact hF
  dis := k.dis
/-- a new object that nobody tells of -/
theorem Ok.grow {o : HO} (k : Ok g F e σ H) (h : H a = none) : Ok g F e σ (upd H a o) where
  len := k.len
  sub := k.sub.trans (sub_upd h)
  base := k.base
  keep := k.keep.trans (sub_upd h)
  fr := k.fr
  bt := fun i b q => by
    obtain ⟨u, z⟩ := k.bt i b q
    exact ⟨u, sub_upd h b u z⟩
  slot := fun i s q => (k.slot i s q).move (Same.refl _) (fun b hs hb hF => by
    obtain ⟨b', d', h1, h2, h3, _, h4⟩ := (k.slot i s q).at hs
    rw [hb] at h2
    cases h2
    obtain ⟨xs, vs, _, h5, _⟩ := h4.there
    exact ⟨hF, by rw [upd_ne (ne_of_none h5 h)]⟩) fun b u hb hF => hF
  dis := k.dis
/-- what an expression gives -/
def OpOk (g : Gh) (F H : Hp) (e : Env) (σ : L2.St) : Opd → V → Prop
  | .v d, v => Rep g.K F d v
  | .n d, v => ∃ a, v = .ref a ∧ F a = none ∧ g.G a = none ∧ OwnAt g.K F H a d ∧ ∀ (i : Nat) (s : Slot), e[i]? = some s → s.mut = true → σ[i]? ≠ some (some (.ref a))
  | .s i, v => σ[i]? = some (some v)
/-- a value that is read: frozen, or a list that someone holds -/
inductive RepH (K : PySem.W.Frag) (F H : Hp) : D → V → Prop
  | fz {d : D} {v : V} : Rep K F d v → RepH K F H d v
  | ow {xs : List D} {vs : List V} {a : Addr} : H a = some (.lst vs) → Reps K F xs vs → RepH K F H (.lst xs) (.ref a)
theorem RepH.of_own {K : PySem.W.Frag} (h : OwnAt K F H a d) : RepH K F H d (.ref a) := by
  obtain ⟨xs, vs, rfl, h1, h2⟩ := h.there
  exact .ow h1 h2
theorem RepH.lst {K : PySem.W.Frag} {xs : List D} (h : RepH K F H (.lst xs) v) (e : Sub F H) : ∃ a vs, v = .ref a ∧ H a = some (.lst vs) ∧ Reps K F xs vs := by
  cases h with
  | fz r => cases r with
    | lst h1 h2 => exact ⟨_, _, rfl, e _ _ h1, h2⟩
  | ow h1 h2 => exact ⟨_, _, rfl, h1, h2⟩
theorem RepH.tup {K : PySem.W.Frag} {xs : List D} (h : RepH K F H (.tup xs) v) (e : Sub F H) : ∃ a vs, v = .ref a ∧ SqT K H a vs ∧ Reps K F xs vs := by
  cases h with
  | fz r => cases r with
    | tup h1 h2 => exact ⟨_, _, rfl, sqT_mono e h1, h2⟩
theorem RepH.arg {K : PySem.W.Frag} {xs : List D} (h : RepH K F H (.arg xs) v) (e : Sub F H) : ∃ a vs, v = .ref a ∧ SqL K H a vs ∧ Reps K F xs vs := by
  cases h with
  | fz r => cases r with
    | arg h1 h2 => exact ⟨_, _, rfl, sqL_mono e h1, h2⟩
theorem RepH.int {K : PySem.W.Frag} {i : Int} (h : RepH K F H (.int i) v) : v = .int i := by
  cases h with
  | fz r => cases r; rfl
theorem RepH.str {K : PySem.W.Frag} {x : Str} (h : RepH K F H (.str x) v) : v = .str x := by
  cases h with
  | fz r => cases r; rfl
theorem RepH.bl {K : PySem.W.Frag} {b : Bool} (h : RepH K F H (.bl b) v) : v = .bl b := by
  cases h with
  | fz r => cases r; rfl
theorem RepH.non {K : PySem.W.Frag} (h : RepH K F H .non v) : v = .non := by
  cases h with
  | fz r => cases r; rfl
/-- a new list is frozen -/
theorem Ok.freeze (k : Ok g F e σ H) (h : OpOk g F H e σ (.n d) v) : ∃ F', Sub F F' ∧ Ok g F' e σ H ∧ Rep g.K F' d v := by
  obtain ⟨a, rfl, h1, h2, h3, h4⟩ := h
  obtain ⟨xs, vs, rfl, h5, h6⟩ := h3.there
  refine ⟨upd F a (.lst vs), sub_upd h1, ⟨k.len, sub_upd2 k.sub h5, k.base.trans (sub_upd h1), k.keep, fun b o q => ?_, k.bt, fun i s q => (k.slot i s q).move (sub_upd h1) (fun b hs hb hF => ?_) fun b o q hF => ?_, k.dis⟩, .lst upd_same (h6.mono (sub_upd h1))⟩
  · have nb : b ≠ a := fun z => by rw [z, h2] at q; cases q
    rw [upd_ne nb]
    exact k.fr b o q
  · have nb : b ≠ a := fun z => h4 i s q hs (by rw [hb, z])
    exact ⟨by rw [upd_ne nb]; exact hF, rfl⟩
  · have nb : b ≠ a := fun z => by rw [z, h2] at q; cases q
    rw [upd_ne nb]
    exact hF
/-- a slot's own list is frozen -/
theorem Ok.freezeS (k : Ok g F e σ H) (hi : e[i]? = some (.ow d)) : ∃ F' v, Sub F F' ∧ Ok g F' (e.set i (.fz d)) σ H ∧ Rep g.K F' d v ∧ σ[i]? = some (some v) := by
  obtain ⟨a, h0, h1, h2, h3⟩ := k.slot i _ hi
  obtain ⟨xs, vs, rfl, h5, h6⟩ := h3.there
  have hlt : i < e.length := (List.getElem?_eq_some_iff.mp hi).1
  have rep : Rep g.K (upd F a (.lst vs)) (.lst xs) (.ref a) := .lst upd_same (h6.mono (sub_upd h1))
  have old : ∀ {j : Nat} {s : Slot}, (e.set i (.fz (.lst xs)))[j]? = some s → s.mut = true → j ≠ i ∧ e[j]? = some s := fun {j s} q hs => by
    by_cases hj : j = i
    · subst hj
      rw [List.getElem?_set_self hlt] at q
      cases q
      cases hs
    · rw [List.getElem?_set_ne (Ne.symm hj)] at q
      exact ⟨hj, q⟩
  refine ⟨upd F a (.lst vs), .ref a, sub_upd h1, ⟨by rw [List.length_set]; exact k.len, sub_upd2 k.sub h5, k.base.trans (sub_upd h1), k.keep, fun b o q => ?_, k.bt, fun j s q => ?_, fun j l s t b hne h7 h8 hs ht => ?_⟩, rep, h0⟩
  · have nb : b ≠ a := fun z => by rw [z, h2] at q; cases q
    rw [upd_ne nb]
    exact k.fr b o q
  · by_cases hj : j = i
    · subst hj
      rw [List.getElem?_set_self hlt] at q
      cases q
      exact ⟨_, h0, rep⟩
    · rw [List.getElem?_set_ne (Ne.symm hj)] at q
      refine (k.slot j s q).move (sub_upd h1) (fun b hs hb hF => ?_) fun b o q hF => ?_
      · have nb : b ≠ a := fun z => k.dis i j _ s a (Ne.symm hj) hi q rfl hs h0 (by rw [hb, z])
        exact ⟨by rw [upd_ne nb]; exact hF, rfl⟩
      · have nb : b ≠ a := fun z => by rw [z, h2] at q; cases q
        rw [upd_ne nb]
        exact hF
  · exact k.dis j l s t b hne (old h7 hs).2 (old h8 ht).2 hs ht
/-- an operand's value, read -/
theorem rd_ok {o : Opd} (k : Ok g F e σ H) (h : OpOk g F H e σ o v) : ∀ {d : D} {e' : Env}, rd o e = .ok d e' → e' = e ∧ RepH g.K F H d v := fun {d e'} q => by
  cases o with
  | v d0 => cases q; exact ⟨rfl, .fz h⟩
  | n d0 =>
    cases q
    obtain ⟨a, rfl, _, _, h3, _⟩ := h
    exact ⟨rfl, .of_own h3⟩
  | s i =>
    have h1 : σ[i]? = some (some v) := h
    have q' : (match (e[i]?).bind Slot.val with | some d => Rz.ok d e | none => .bad) = .ok d e' := q
    obtain ⟨s, h2, h3, he⟩ : ∃ s, e[i]? = some s ∧ s.val = some d ∧ e' = e := by
      cases h2 : e[i]? with
      | none => rw [h2] at q'; cases q'
      | some s =>
        rw [h2] at q'
        have q2 : (match s.val with | some d => Rz.ok d e | none => .bad) = Rz.ok d e' := q'
        cases h3 : s.val with
        | none => rw [h3] at q2; cases q2
        | some d1 => rw [h3] at q2; cases q2; exact ⟨s, rfl, h3, rfl⟩
    refine ⟨he, ?_⟩
    have so := k.slot i s h2
    cases s with
    | un => cases h3
    | fz d0 =>
      cases h3
      obtain ⟨v', h4, h5⟩ := so
      rw [h1] at h4
      cases h4
      exact .fz h5
    | ow d0 =>
      cases h3
      obtain ⟨a, h4, _, _, h5⟩ := so
      rw [h1] at h4
      cases h4
      exact .of_own h5
    | bw d0 =>
      cases h3
      obtain ⟨a, h4, _, _, h5⟩ := so
      rw [h1] at h4
      cases h4
      obtain ⟨xs, vs, rfl, h6, h7⟩ := h5.there
      exact .ow (k.keep _ _ h6) h7
    | io d0 =>
      cases h3
      obtain ⟨a, h4, _, _, _, h5⟩ := so
      rw [h1] at h4
      cases h4
      exact .of_own h5
theorem rd_noer {o : Opd} {x : Er} {e' : Env} : rd o e ≠ .er x e' := by
  cases o with
  | v d => intro q; cases q
  | n d => intro q; cases q
  | s i =>
    intro q
    have q' : (match (e[i]?).bind Slot.val with | some d => Rz.ok d e | none => .bad) = .er x e' := q
    cases h : (e[i]?).bind Slot.val with
    | none => rw [h] at q'; cases q'
    | some d => rw [h] at q'; cases q'
/-- an operand is kept elsewhere -/
theorem cns_ok {o : Opd} (k : Ok g F e σ H) (h : OpOk g F H e σ o v) {d : D} {e' : Env} (q : cns o e = .ok d e') : ∃ F', Sub F F' ∧ Ok g F' e' σ H ∧ Rep g.K F' d v := by
  cases o with
  | v d0 => cases q; exact ⟨F, Same.refl _, k, h⟩
  | n d0 => cases q; exact k.freeze h
  | s i =>
    have h1 : σ[i]? = some (some v) := h
    have q' : (match e[i]? with | some (.fz d) => Rz.ok d e | some (.ow d) => .ok d (e.set i (.fz d)) | _ => .bad) = .ok d e' := q
    obtain ⟨s, h2⟩ : ∃ s, e[i]? = some s := by
      cases h2 : e[i]? with
      | none => rw [h2] at q'; cases q'
      | some s => exact ⟨s, rfl⟩
    rw [h2] at q'
    cases s with
    | fz d0 =>
      cases q'
      obtain ⟨v', h4, h5⟩ := k.slot i _ h2
      rw [h1] at h4
      cases h4
      exact ⟨F, Same.refl _, k, h5⟩
    | ow d0 =>
      cases q'
      obtain ⟨F', v', a1, a2, a3, a4⟩ := k.freezeS h2
      rw [h1] at a4
      cases a4
      exact ⟨F', a1, a2, a3⟩
    | un => cases q'
    | bw d0 => cases q'
    | io d0 => cases q'
theorem cns_noer {o : Opd} {x : Er} {e' : Env} : cns o e ≠ .er x e' := by
  cases o with
  | v d => intro q; cases q
  | n d => intro q; cases q
  | s i =>
    intro q
    have q' : (match e[i]? with | some (.fz d) => Rz.ok d e | some (.ow d) => .ok d (e.set i (.fz d)) | _ => .bad) = .er x e' := q
    cases h : e[i]? with
    | none => rw [h] at q'; cases q'
    | some s => rw [h] at q'; cases s <;> cases q'
/-- a value that stays as it is: frozen, or a list of the callers' -/
inductive RepS (K : PySem.W.Frag) (F G : Hp) : D → V → Prop
  | fz {d : D} {v : V} : Rep K F d v → RepS K F G d v
  | gw {xs : List D} {vs : List V} {a : Addr} : G a = some (.lst vs) → Reps K F xs vs → RepS K F G (.lst xs) (.ref a)
theorem wlk_ok {o : Opd} (k : Ok g F e σ H) (h : OpOk g F H e σ o v) {d : D} {e' : Env} (q : wlk o e = .ok d e') : ∃ F', Sub F F' ∧ Ok g F' e' σ H ∧ RepS g.K F' g.G d v := by
  cases o with
  | v d0 => cases q; exact ⟨F, Same.refl _, k, .fz h⟩
  | n d0 => cases q; obtain ⟨F', a, b, c⟩ := k.freeze h; exact ⟨F', a, b, .fz c⟩
  | s i =>
    have h1 : σ[i]? = some (some v) := h
    have q' : (match e[i]? with | some (.fz d) => Rz.ok d e | some (.bw d) => .ok d e | some (.ow d) => .ok d (e.set i (.fz d)) | _ => .bad) = .ok d e' := q
    obtain ⟨s, h2⟩ : ∃ s, e[i]? = some s := by
      cases h2 : e[i]? with
      | none => rw [h2] at q'; cases q'
      | some s => exact ⟨s, rfl⟩
    rw [h2] at q'
    cases s with
    | fz d0 =>
      cases q'
      obtain ⟨v', h4, h5⟩ := k.slot i _ h2
      rw [h1] at h4
      cases h4
      exact ⟨F, Same.refl _, k, .fz h5⟩
    | bw d0 =>
      cases q'
      obtain ⟨a, h4, _, _, h5⟩ := k.slot i _ h2
      rw [h1] at h4
      cases h4
      obtain ⟨xs, vs, rfl, h6, h7⟩ := h5.there
      exact ⟨F, Same.refl _, k, .gw h6 h7⟩
    | ow d0 =>
      cases q'
      obtain ⟨F', v', a1, a2, a3, a4⟩ := k.freezeS h2
      rw [h1] at a4
      cases a4
      exact ⟨F', a1, a2, .fz a3⟩
    | un => cases q'
    | io d0 => cases q'
theorem wlk_noer {o : Opd} {x : Er} {e' : Env} : wlk o e ≠ .er x e' := by
  cases o with
  | v d => intro q; cases q
  | n d => intro q; cases q
  | s i =>
    intro q
    have q' : (match e[i]? with | some (.fz d) => Rz.ok d e | some (.bw d) => .ok d e | some (.ow d) => .ok d (e.set i (.fz d)) | _ => .bad) = .er x e' := q
    cases h : e[i]? with
    | none => rw [h] at q'; cases q'
    | some s => rw [h] at q'; cases s <;> cases q'
end
end PL
namespace PL
open L2 PySem PyProof.Rows PySem.Spec
section
variable {g : Gh} {F F' H H' : Hp} {e e' : Env} {σ : L2.St} {i : Nat} {s : Slot} {d : D} {a : Addr} {v : V}
theorem setS_some {s' : Slot} (h : setS i s' e = some e') : ∃ s0, e[i]? = some s0 ∧ e' = e.set i s' := by
  unfold setS at h
  cases q : e[i]? with
  | none => rw [q] at h; cases h
  | some s0 =>
    rw [q] at h
    cases s0 with
    | un => exact ⟨_, rfl, (Option.some.inj h).symm⟩
    | fz d => exact ⟨_, rfl, (Option.some.inj h).symm⟩
    | ow d => exact ⟨_, rfl, (Option.some.inj h).symm⟩
    | bw d => cases h
    | io d => cases h
/-- a slot is stored -/
theorem Ok.store {s' : Slot} (k : Ok g F e σ H) (hi : e[i]? = some s) (new : SlOk g F H i (σ.set i (some v)) s')
    (hd : s'.mut = true → ∀ (j : Nat) (t : Slot), j ≠ i → e[j]? = some t → t.mut = true → σ[j]? ≠ some (some v)) : Ok g F (e.set i s') (σ.set i (some v)) H := by
  have hlt : i < e.length := (List.getElem?_eq_some_iff.mp hi).1
  have hls : i < σ.length := by rw [← k.len]; exact hlt
  have hs : ∀ {j : Nat}, j ≠ i → (σ.set i (some v))[j]? = σ[j]? := fun {j} hj => List.getElem?_set_ne (Ne.symm hj)
  have he : ∀ {j : Nat}, j ≠ i → (e.set i s')[j]? = e[j]? := fun {j} hj => List.getElem?_set_ne (Ne.symm hj)
  refine ⟨by rw [List.length_set, List.length_set]; exact k.len, k.sub, k.base, k.keep, k.fr, k.bt, fun j t q => ?_, fun j l t u b hne h1 h2 ht hu q => ?_⟩
  · by_cases hj : j = i
    · subst hj
      rw [List.getElem?_set_self hlt] at q
      cases q
      exact new
    · rw [he hj] at q
      have z := k.slot j t q
      cases t with
      | un => trivial
      | fz d => obtain ⟨v', h1, h2⟩ := z; exact ⟨v', by rw [hs hj]; exact h1, h2⟩
      | ow d => obtain ⟨v', h1, h2⟩ := z; exact ⟨v', by rw [hs hj]; exact h1, h2⟩
      | bw d => obtain ⟨v', h1, h2⟩ := z; exact ⟨v', by rw [hs hj]; exact h1, h2⟩
      | io d => obtain ⟨v', h1, h2⟩ := z; exact ⟨v', by rw [hs hj]; exact h1, h2⟩
  · by_cases hj : j = i
    · subst hj
      rw [List.getElem?_set_self hlt] at h1
      cases h1
      rw [List.getElem?_set_self hls] at q
      cases q
      rw [he (Ne.symm hne)] at h2
      rw [hs (Ne.symm hne)]
      exact hd ht l u (Ne.symm hne) h2 hu
    · rw [he hj] at h1
      rw [hs hj] at q
      by_cases hl : l = i
      · subst hl
        rw [List.getElem?_set_self hlt] at h2
        cases h2
        rw [List.getElem?_set_self hls]
        intro z
        cases z
        exact hd hu j t hj h1 ht q
      · rw [he hl] at h2
        rw [hs hl]
        exact k.dis j l t u b hne h1 h2 ht hu q
theorem Ok.storeFz (k : Ok g F e σ H) (h : setS i (.fz d) e = some e') (r : Rep g.K F d v) : Ok g F e' (σ.set i (some v)) H := by
  obtain ⟨s0, h1, rfl⟩ := setS_some h
  have hlt : i < σ.length := by rw [← k.len]; exact (List.getElem?_eq_some_iff.mp h1).1
  exact k.store h1 ⟨v, List.getElem?_set_self hlt, r⟩ fun z => Bool.noConfusion (show false = true from z)
theorem Ok.storeOw (k : Ok g F e σ H) (h : setS i (.ow d) e = some e') (r : OpOk g F H e σ (.n d) v) : Ok g F e' (σ.set i (some v)) H := by
  obtain ⟨s0, h1, rfl⟩ := setS_some h
  obtain ⟨a, rfl, r1, r2, r3, r4⟩ := r
  have hlt : i < σ.length := by rw [← k.len]; exact (List.getElem?_eq_some_iff.mp h1).1
  exact k.store h1 ⟨a, List.getElem?_set_self hlt, r1, r2, r3⟩ fun _ j t hj q ht => r4 j t q ht
/-- a slot is forgotten -/
theorem Ok.drop (k : Ok g F e σ H) (i : Nat) (o : Option V) : Ok g F (e.set i .un) (σ.set i o) H := by
  have hs : ∀ {j : Nat}, j ≠ i → (σ.set i o)[j]? = σ[j]? := fun {j} hj => List.getElem?_set_ne (Ne.symm hj)
  have he : ∀ {j : Nat}, j ≠ i → (e.set i Slot.un)[j]? = e[j]? := fun {j} hj => List.getElem?_set_ne (Ne.symm hj)
  have nm : ∀ {j : Nat} {t : Slot}, (e.set i Slot.un)[j]? = some t → t ≠ .un → j ≠ i := fun {j t} q ht hj => by
    subst hj
    by_cases hlt : j < e.length
    · rw [List.getElem?_set_self hlt] at q; cases q; exact ht rfl
    · rw [List.getElem?_eq_none (by rw [List.length_set]; omega)] at q; cases q
  refine ⟨by rw [List.length_set, List.length_set]; exact k.len, k.sub, k.base, k.keep, k.fr, k.bt, fun j t q => ?_, fun j l t u b hne h1 h2 ht hu q => ?_⟩
  · cases t with
    | un => trivial
    | fz d =>
      have hj := nm q (by intro z; cases z)
      rw [he hj] at q
      obtain ⟨v', h1, h2⟩ := k.slot j _ q; exact ⟨v', by rw [hs hj]; exact h1, h2⟩
    | ow d =>
      have hj := nm q (by intro z; cases z)
      rw [he hj] at q
      obtain ⟨v', h1, h2⟩ := k.slot j _ q; exact ⟨v', by rw [hs hj]; exact h1, h2⟩
    | bw d =>
      have hj := nm q (by intro z; cases z)
      rw [he hj] at q
      obtain ⟨v', h1, h2⟩ := k.slot j _ q; exact ⟨v', by rw [hs hj]; exact h1, h2⟩
    | io d =>
      have hj := nm q (by intro z; cases z)
      rw [he hj] at q
      obtain ⟨v', h1, h2⟩ := k.slot j _ q; exact ⟨v', by rw [hs hj]; exact h1, h2⟩
  · have hj := nm h1 (by intro z; rw [z] at ht; cases ht)
    have hl := nm h2 (by intro z; rw [z] at hu; cases hu)
    rw [he hj] at h1
    rw [he hl] at h2
    rw [hs hj] at q
    rw [hs hl]
    exact k.dis j l t u b hne h1 h2 ht hu q
theorem Ok.wipe (k : Ok g F e σ H) : ∀ is : List Nat, Ok g F (wipeS e is) (L2.wipe σ is) H
  | [] => k
  | i :: is => (Ok.wipe k is).drop i none
/-- the slots where two frames differ are forgotten -/
theorem Ok.unwipe {σ' : L2.St} (k : Ok g F e σ' H) : ∀ (is : List Nat), (∀ j, j ∉ is → σ'[j]? = σ[j]?) → σ'.length = σ.length → Ok g F (wipeS e is) σ H
  | is, h, hl => by
    have hw : ∀ (is : List Nat) (σ' : L2.St), (∀ j, j ∉ is → σ'[j]? = σ[j]?) → σ'.length = σ.length → ∃ f : L2.St → L2.St, f σ' = σ ∧ ∀ e, Ok g F e σ' H → Ok g F (wipeS e is) (f σ') H := by
      intro is
      induction is with
      | nil =>
        intro σ' h hl
        have : σ' = σ := List.ext_getElem? fun j => h j (by simp)
        exact ⟨fun _ => σ, rfl, fun e k => by rw [← this]; exact k⟩
      | cons i is ih =>
        intro σ' h hl
        by_cases hi : i < σ'.length
        · have hi' : i < σ.length := by omega
          have e1 : σ[i]? = some σ[i] := List.getElem?_eq_getElem hi'
          obtain ⟨f, hf, hk⟩ := ih (σ'.set i σ[i]) (fun j hj => by
            by_cases hji : j = i
            · subst hji
              rw [List.getElem?_set_self hi, e1]
            · rw [List.getElem?_set_ne (Ne.symm hji)]
              exact h j (by simp only [List.mem_cons, not_or]; exact ⟨hji, hj⟩)) (by rw [List.length_set]; exact hl)
          refine ⟨fun _ => σ, rfl, fun e k => ?_⟩
          have k1 := k.drop i σ[i]
          have k2 := hk _ k1
          rw [hf] at k2
          -- wipeS (e.set i un) is, then i again
          have comm : ∀ (is : List Nat) (e : Env), (wipeS (e.set i Slot.un) is).set i Slot.un = (wipeS e is).set i Slot.un := by
            intro is
            induction is with
            | nil => intro e; show (e.set i Slot.un).set i Slot.un = e.set i Slot.un; rw [List.set_set]
            | cons l is ih2 =>
              intro e
              show ((wipeS (e.set i Slot.un) is).set l Slot.un).set i Slot.un = ((wipeS e is).set l Slot.un).set i Slot.un
              by_cases hli : l = i
              · subst hli
                rw [List.set_set, List.set_set]
                exact ih2 e
              · rw [List.set_comm _ _ hli, ih2 e, ← List.set_comm _ _ hli]
          show Ok g F ((wipeS e is).set i Slot.un) σ H
          rw [← comm]
          have k3 := k2.drop i σ[i]
          have e2 : σ.set i σ[i] = σ := by simp
          rw [e2] at k3
          exact k3
        · obtain ⟨f, hf, hk⟩ := ih σ' (fun j hj => by
            by_cases hji : j = i
            · subst hji
              rw [List.getElem?_eq_none (by omega), List.getElem?_eq_none (by omega)]
            · exact h j (by simp only [List.mem_cons, not_or]; exact ⟨hji, hj⟩)) hl
          refine ⟨fun _ => σ, rfl, fun e k => ?_⟩
          have k2 := hk e k
          rw [hf] at k2
          have k3 := k2.drop i none
          have e2 : σ.set i none = σ := List.set_eq_of_length_le (by omega)
          rw [e2] at k3
          exact k3
    obtain ⟨f, hf, hk⟩ := hw is σ' h hl
    have := hk e k
    rw [hf] at this
    exact this
/-- the list of a slot is changed -/
theorem Ok.chg {xs ys : List D} {ws : List V} {f : List D → Option (List D)} (k : Ok g F e σ H) (h : chg i f e = some e') (hv : σ[i]? = some (some v)) :
    ∃ a xs ys vs, v = .ref a ∧ f xs = some ys ∧ H a = some (.lst vs) ∧ Reps g.K F xs vs ∧ ∀ ws, Reps g.K F ys ws → Ok g F e' σ (upd H a (.lst ws)) := by
  have gen : ∀ {s s' : Slot} {a : Addr} {xs ys : List D} {vs : List V}, e[i]? = some s → s.mut = true → σ[i]? = some (some (.ref a)) → F a = none → g.G a = none → H a = some (.lst vs) → s'.mut = true →
      (∀ ws, Reps g.K F ys ws → SlOk g F (upd H a (.lst ws)) i σ s') → ∀ ws, Reps g.K F ys ws → Ok g F (e.set i s') σ (upd H a (.lst ws)) := by
    intro s s' a xs ys vs hi hm ha h1 h2 h3 hm' new ws hw
    have hlt : i < e.length := (List.getElem?_eq_some_iff.mp hi).1
    have he : ∀ {j : Nat}, j ≠ i → (e.set i s')[j]? = e[j]? := fun {j} hj => List.getElem?_set_ne (Ne.symm hj)
    refine ⟨by rw [List.length_set]; exact k.len, fun b o q => ?_, k.base, fun b o q => ?_, k.fr, fun l b q => ?_, fun j t q => ?_, fun j l t u b hne q1 q2 ht hu q => ?_⟩
    · rw [upd_ne (fun z => by rw [z, h1] at q; cases q)]; exact k.sub b o q
    · rw [upd_ne (fun z => by rw [z, h2] at q; cases q)]; exact k.keep b o q
    · obtain ⟨u, z⟩ := k.bt l b q
      by_cases hb : b = a
      · rw [hb]; exact ⟨_, upd_same⟩
      · exact ⟨u, by rw [upd_ne hb]; exact z⟩
    · by_cases hj : j = i
      · subst hj
        rw [List.getElem?_set_self hlt] at q
        cases q
        exact new ws hw
      · rw [he hj] at q
        refine (k.slot j t q).move (Same.refl _) (fun b hs hb hF => ⟨hF, ?_⟩) fun _ _ _ z => z
        rw [upd_ne (fun z => k.dis i j s t a (Ne.symm hj) hi q hm hs ha (by rw [hb, z]))]
    · have old : ∀ {j : Nat} {t : Slot}, (e.set i s')[j]? = some t → t.mut = true → ∃ t', e[j]? = some t' ∧ t'.mut = true := fun {j t} q ht => by
        by_cases hj : j = i
        · subst hj; exact ⟨s, hi, hm⟩
        · rw [he hj] at q; exact ⟨t, q, ht⟩
      obtain ⟨t1, q3, q4⟩ := old q1 ht
      obtain ⟨t2, q5, q6⟩ := old q2 hu
      exact k.dis j l t1 t2 b hne q3 q5 q4 q6 q
  unfold PL.chg at h
  cases hi : e[i]? with
  | none => rw [hi] at h; cases h
  | some s =>
    rw [hi] at h
    have so := k.slot i s hi
    cases s with
    | un => cases h
    | fz d => cases h
    | bw d => cases h
    | ow d =>
      cases d with
      | lst xs =>
        obtain ⟨a, h1, h2, h3, vs, h4, h5⟩ := so
        rw [hv] at h1
        cases h1
        cases hf : f xs with
        | none =>
          have h' : (f xs).map (fun ys => e.set i (.ow (.lst ys))) = some e' := h
          rw [hf] at h'
          cases h'
        | some ys =>
          have h' : (f xs).map (fun ys => e.set i (.ow (.lst ys))) = some e' := h
          rw [hf] at h'
          cases h'
          exact ⟨a, xs, ys, vs, rfl, hf, h4, h5, gen (xs := xs) (ys := ys) (vs := vs) hi rfl hv h2 h3 h4 rfl fun ws hw => ⟨a, hv, h2, h3, ws, upd_same, hw⟩⟩
      | _ => cases h
    | io d =>
      cases d with
      | lst xs =>
        obtain ⟨a, h1, h2, h3, hB, vs, h4, h5⟩ := so
        rw [hv] at h1
        cases h1
        cases hf : f xs with
        | none =>
          have h' : (f xs).map (fun ys => e.set i (.io (.lst ys))) = some e' := h
          rw [hf] at h'
          cases h'
        | some ys =>
          have h' : (f xs).map (fun ys => e.set i (.io (.lst ys))) = some e' := h
          rw [hf] at h'
          cases h'
          exact ⟨a, xs, ys, vs, rfl, hf, h4, h5, gen (xs := xs) (ys := ys) (vs := vs) hi rfl hv h2 h3 h4 rfl fun ws hw => ⟨a, hv, h2, h3, hB, ws, upd_same, hw⟩⟩
      | _ => cases h
end
end PL
namespace PL
open L2 PySem PyProof.Rows PySem.Spec
/-! ## calls -/
def Arg.hold : Arg → Bool
  | .fz _ => false
  | _ => true
def ArgOk (K : PySem.W.Frag) (F H : Hp) : Arg → V → Prop
  | .fz d, v => Rep K F d v
  | .bw d, v => ∃ a, v = .ref a ∧ F a = none ∧ OwnAt K F H a d
  | .io d, v => ∃ a, v = .ref a ∧ F a = none ∧ OwnAt K F H a d
structure ArgsOk (K : PySem.W.Frag) (F H : Hp) (as : List Arg) (vs : List V) : Prop where
  len : as.length = vs.length
  each : ∀ (j : Nat) (a : Arg) (v : V), as[j]? = some a → vs[j]? = some v → ArgOk K F H a v
  dis : ∀ (i j : Nat) (d : D) (x : Arg) (b : Addr), i ≠ j → as[i]? = some (.io d) → as[j]? = some x → x.hold = true → vs[i]? = some (.ref b) → vs[j]? ≠ some (.ref b)
def IoAt (as : List Arg) (vs : List V) (b : Addr) : Prop := ∃ (j : Nat) (d : D), as[j]? = some (.io d) ∧ vs[j]? = some (.ref b)
/-- behind a call -/
structure After (K : PySem.W.Frag) (F H F' H' : Hp) (as : List Arg) (vs : List V) (outs : List D) : Prop where
  ext : Sub F F'
  sub : Sub F' H'
  stay : ∀ a o, H a = some o → ¬ IoAt as vs a → H' a = some o
  frz : ∀ a o, H a = some o → F' a = F a
  outs : ∀ (j : Nat) (d : D) (a : Addr), as[j]? = some (.io d) → vs[j]? = some (.ref a) → ∃ d', outs[j]? = some d' ∧ OwnAt K F' H' a d'
def RetOk (K : PySem.W.Frag) (F' H H' : Hp) (n : Bool) (d : D) (v : V) : Prop := if n = true then ∃ a, v = .ref a ∧ H a = none ∧ F' a = none ∧ OwnAt K F' H' a d else Rep K F' d v
def ErOk (K : PySem.W.Frag) (C : Str → Option Addr) (F : Hp) (x : Er) (cls : Value) (dd : Option Addr) : Prop :=
  ∃ c, C x.c = some c ∧ cls = .ref c ∧ ((x.ns = [] ∧ x.vs = [] ∧ dd = none) ∨ ∃ d vs, dd = some d ∧ F d = some (.xd (x.ns.zip vs)) ∧ Reps K F x.vs vs ∧ x.ns.length = vs.length)
/-- the promise of a def -/
def SpF (K : PySem.W.Frag) (C : Str → Option Addr) (run : List Arg → FRes) : Sp := fun vs H Q E => ∃ F as, Sub F H ∧ ArgsOk K F H as vs ∧ match run as with
  | .ok n d outs => ∀ F' H' v, After K F H F' H' as vs outs → RetOk K F' H H' n d v → Q v H'
  | .er x outs => ∀ F' H' cls dd, After K F H F' H' as vs outs → ErOk K C F' x cls dd → E cls dd H'
  | .bad => False
section
variable {g : Gh} {F F' H H' : Hp} {e e' : Env} {σ : L2.St} {i : Nat} {s : Slot} {d : D} {a : Addr} {v : V}
/-! ### the caller's side -/
/-- operands that were frozen where they were new -/
def OpsOk (g : Gh) (F H : Hp) (e : Env) (σ : L2.St) (os : List Opd) (vs : List V) : Prop := os.length = vs.length ∧ ∀ (j : Nat) (o : Opd) (v : V), os[j]? = some o → vs[j]? = some v → (∀ d, o ≠ .n d) ∧ OpOk g F H e σ o v
theorem argsO_len : ∀ {ms : List Bool} {os : List Opd} {as : List Arg}, argsO e ms os = some as → as.length = os.length
  | _, [], as, h => by
    have h' : some [] = some as := by
      unfold argsO at h
      exact h
    cases h'
    rfl
  | [], o :: os, as, h => by
    unfold argsO at h
    cases h1 : argO e false o with
    | none => (rw [h1] at h; cases h)
    | some a =>
      rw [h1, Option.bind_some] at h
      cases h2 : argsO e [] os with
      | none => rw [h2] at h; cases h
      | some r =>
        rw [h2] at h
        cases h
        exact congrArg (· + 1) (argsO_len h2)
  | m :: ms, o :: os, as, h => by
    unfold argsO at h
    cases h1 : argO e m o with
    | none => (rw [h1] at h; cases h)
    | some a =>
      rw [h1, Option.bind_some] at h
      cases h2 : argsO e ms os with
      | none => rw [h2] at h; cases h
      | some r =>
        rw [h2] at h
        cases h
        exact congrArg (· + 1) (argsO_len h2)
theorem argsO_at : ∀ {ms : List Bool} {os : List Opd} {as : List Arg}, argsO e ms os = some as → ∀ (j : Nat) (x : Arg), as[j]? = some x → ∃ o, os[j]? = some o ∧ argO e (ms[j]?.getD false) o = some x
  | _, [], as, h, j, x, q => by
    have h' : some [] = some as := by
      unfold argsO at h
      exact h
    cases h'
    simp at q
  | [], o :: os, as, h, j, x, q => by
    unfold argsO at h
    cases h1 : argO e false o with
    | none => (rw [h1] at h; cases h)
    | some a =>
      rw [h1, Option.bind_some] at h
      cases h2 : argsO e [] os with
      | none => rw [h2] at h; cases h
      | some r =>
        rw [h2] at h
        cases h
        cases j with
        | zero => cases (show some a = some x from q); exact ⟨o, rfl, h1⟩
        | succ j =>
          obtain ⟨o', e1, e2⟩ := argsO_at h2 j x q
          exact ⟨o', e1, by simpa using e2⟩
  | m :: ms, o :: os, as, h, j, x, q => by
    unfold argsO at h
    cases h1 : argO e m o with
    | none => (rw [h1] at h; cases h)
    | some a =>
      rw [h1, Option.bind_some] at h
      cases h2 : argsO e ms os with
      | none => rw [h2] at h; cases h
      | some r =>
        rw [h2] at h
        cases h
        cases j with
        | zero => cases (show some a = some x from q); exact ⟨o, rfl, h1⟩
        | succ j =>
          obtain ⟨o', e1, e2⟩ := argsO_at h2 j x q
          exact ⟨o', e1, by simpa using e2⟩
theorem slotsO_pos : ∀ {os : List Opd} {i p : Nat}, os[i]? = some (.s p) → 1 ≤ (slotsO os).count p
  | [], i, p, h => by simp at h
  | o :: os, 0, p, h => by
    cases (show some o = some (.s p) from h)
    show 1 ≤ (p :: slotsO os).count p
    rw [List.count_cons_self]
    omega
  | o :: os, i + 1, p, h => by
    have ih := slotsO_pos (os := os) (i := i) (p := p) h
    cases o with
    | s q =>
      show 1 ≤ (q :: slotsO os).count p
      have := List.count_le_count_cons (a := p) (b := q) (l := slotsO os)
      omega
    | v d => exact ih
    | n d => exact ih
theorem slotsO_two : ∀ {os : List Opd} {i j p : Nat}, i < j → os[i]? = some (.s p) → os[j]? = some (.s p) → 2 ≤ (slotsO os).count p
  | [], i, j, p, _, h, _ => by simp at h
  | o :: os, 0, 0, p, hl, _, _ => absurd hl (Nat.lt_irrefl _)
  | o :: os, 0, j + 1, p, _, h, h2 => by
    cases (show some o = some (.s p) from h)
    have := slotsO_pos (os := os) (i := j) (p := p) h2
    show 2 ≤ (p :: slotsO os).count p
    rw [List.count_cons_self]
    omega
  | o :: os, i + 1, 0, p, hl, _, _ => absurd hl (Nat.not_lt_zero _)
  | o :: os, i + 1, j + 1, p, hl, h, h2 => by
    have ih := slotsO_two (os := os) (i := i) (j := j) (p := p) (by omega) h h2
    cases o with
    | s q =>
      show 2 ≤ (q :: slotsO os).count p
      have := List.count_le_count_cons (a := p) (b := q) (l := slotsO os)
      omega
    | v d => exact ih
    | n d => exact ih
theorem once_at {all : List Nat} : ∀ {ms : List Bool} {os : List Opd}, once all ms os = true → ∀ {i p : Nat}, ms[i]? = some true → os[i]? = some (.s p) → all.count p = 1
  | [], _, _, i, p, h, _ => by simp at h
  | _ :: _, [], _, i, p, _, h => by simp at h
  | m :: ms, o :: os, h, 0, p, h1, h2 => by
    cases (show some m = some true from h1)
    cases (show some o = some (.s p) from h2)
    have h' : ((all.count p == 1) && once all ms os) = true := h
    rw [Bool.and_eq_true] at h'
    exact beq_iff_eq.mp h'.1
  | m :: ms, o :: os, h, i + 1, p, h1, h2 => by
    have h' : once all ms os = true := by
      cases m with
      | false =>
        cases o <;> exact h
      | true =>
        cases o with
        | s q =>
          have h' : ((all.count q == 1) && once all ms os) = true := h
          rw [Bool.and_eq_true] at h'
          exact h'.2
        | v d => exact h
        | n d => exact h
    exact once_at h' h1 h2
/-- an argument that is held: from which slot -/
theorem argO_hold {m : Bool} {o : Opd} {x : Arg} (h : argO e m o = some x) (hx : x.hold = true) : ∃ p s, o = .s p ∧ e[p]? = some s ∧ (s.mut = true ∨ ∃ d, s = .bw d) ∧ ((∃ d, x = .io d) → m = true ∧ s.mut = true) ∧ (∃ d, s.val = some d ∧ (x = .io d ∨ x = .bw d)) := by
  cases o with
  | v d => cases m <;> (cases h; try cases hx)
  | n d => cases m <;> (cases h; try cases hx)
  | s p =>
    have h : argS m e[p]? = some x := h
    cases q : e[p]? with
    | none => rw [q] at h; cases h
    | some s =>
      rw [q] at h
      refine ⟨p, s, rfl, q, ?_⟩
      cases s with
      | un => cases h
      | fz d => cases m <;> (cases h; try cases hx)
      | bw d =>
        cases m with
        | true => cases h
        | false => cases h; exact ⟨.inr ⟨d, rfl⟩, (fun ⟨_, z⟩ => by cases z), d, rfl, .inr rfl⟩
      | ow d =>
        cases m with
        | true => cases h; exact ⟨.inl rfl, (fun _ => ⟨rfl, rfl⟩), d, rfl, .inl rfl⟩
        | false => cases h; exact ⟨.inl rfl, (fun ⟨_, z⟩ => by cases z), d, rfl, .inr rfl⟩
      | io d =>
        cases m with
        | true => cases h; exact ⟨.inl rfl, (fun _ => ⟨rfl, rfl⟩), d, rfl, .inl rfl⟩
        | false => cases h; exact ⟨.inl rfl, (fun ⟨_, z⟩ => by cases z), d, rfl, .inr rfl⟩
theorem getD_true {ms : List Bool} {i : Nat} (h : ms[i]?.getD false = true) : ms[i]? = some true := by
  cases q : ms[i]? with
  | none => rw [q] at h; cases h
  | some b => rw [q] at h; cases (show b = true from h); rfl
theorem args_ok {ms : List Bool} {os : List Opd} {as : List Arg} {vs : List V} (k : Ok g F e σ H) (ho : OpsOk g F H e σ os vs) (ha : argsO e ms os = some as) (h1 : once (slotsO os) ms os = true) : ArgsOk g.K F H as vs := by
  refine ⟨(argsO_len ha).trans ho.1, fun j x v hx hv => ?_, fun i j d x b hne hi hj hh hvi hvj => ?_⟩
  · obtain ⟨o, q1, q2⟩ := argsO_at ha j x hx
    obtain ⟨_, q3⟩ := ho.2 j o v q1 hv
    cases o with
    | v d =>
      cases hm : ms[j]?.getD false with
      | true => rw [hm] at q2; cases q2
      | false => rw [hm] at q2; cases q2; exact q3
    | n d => exact absurd rfl ((ho.2 j _ v q1 hv).1 d)
    | s p =>
      have q3' : σ[p]? = some (some v) := q3
      have q2 : argS (ms[j]?.getD false) e[p]? = some x := q2
      cases q : e[p]? with
      | none => rw [q] at q2; cases q2
      | some s =>
        rw [q] at q2
        have so := k.slot p s q
        cases s with
        | un => cases q2
        | fz d =>
          obtain ⟨v', w1, w2⟩ := so
          rw [q3'] at w1
          cases w1
          cases hm : ms[j]?.getD false with
          | true => rw [hm] at q2; cases q2
          | false => rw [hm] at q2; cases q2; exact w2
        | bw d =>
          obtain ⟨a, w1, w2, _, w3⟩ := so
          rw [q3'] at w1
          cases w1
          obtain ⟨xs, ws, rfl, w4, w5⟩ := w3.there
          cases hm : ms[j]?.getD false with
          | true => rw [hm] at q2; cases q2
          | false => rw [hm] at q2; cases q2; exact ⟨a, rfl, w2, ws, k.keep _ _ w4, w5⟩
        | ow d =>
          obtain ⟨a, w1, w2, w3, w4⟩ := so
          rw [q3'] at w1
          cases w1
          cases hm : ms[j]?.getD false with
          | true => rw [hm] at q2; cases q2; exact ⟨a, rfl, w2, w4⟩
          | false => rw [hm] at q2; cases q2; exact ⟨a, rfl, w2, w4⟩
        | io d =>
          obtain ⟨a, w1, w2, w3, _, w4⟩ := so
          rw [q3'] at w1
          cases w1
          cases hm : ms[j]?.getD false with
          | true => rw [hm] at q2; cases q2; exact ⟨a, rfl, w2, w4⟩
          | false => rw [hm] at q2; cases q2; exact ⟨a, rfl, w2, w4⟩
  · obtain ⟨o, q1, q2⟩ := argsO_at ha i _ hi
    obtain ⟨o', r1, r2⟩ := argsO_at ha j _ hj
    obtain ⟨p, s, rfl, p1, p2, p3, _⟩ := argO_hold q2 rfl
    obtain ⟨p', s', rfl, t1, t2, t3, _⟩ := argO_hold r2 hh
    obtain ⟨m1, m2⟩ := p3 ⟨d, rfl⟩
    have v1 : σ[p]? = some (some (.ref b)) := (ho.2 i _ _ q1 hvi).2
    have v2 : σ[p']? = some (some (.ref b)) := (ho.2 j _ _ r1 hvj).2
    have c1 := once_at h1 (getD_true m1) q1
    by_cases hp : p = p'
    · subst hp
      have c2 : 2 ≤ (slotsO os).count p := by
        rcases Nat.lt_or_gt_of_ne hne with z | z
        · exact slotsO_two z q1 r1
        · exact slotsO_two z r1 q1
      omega
    · rcases t2 with t2 | ⟨d', rfl⟩
      · exact k.dis p p' s s' b hp p1 t1 m2 t2 v1 v2
      · obtain ⟨a, w1, w2, _, w3⟩ := k.slot p' _ t1
        rw [v2] at w1
        cases w1
        obtain ⟨xs, ws, _, w4, _⟩ := w3.there
        obtain ⟨b', d2, y1, y2, y3, y4, _⟩ := (k.slot p s p1).at m2
        rw [v1] at y2
        cases y2
        rw [y4] at w4
        cases w4
theorem back_at : ∀ (ms : List Bool) (os : List Opd) (outs : List D) (e : Env), (back ms os outs e).length = e.length ∧ ∀ k : Nat,
    (∃ (i : Nat) (d' : D), ms[i]? = some true ∧ os[i]? = some (Opd.s k) ∧ outs[i]? = some d' ∧ ((∃ d, e[k]? = some (.ow d)) ∧ (back ms os outs e)[k]? = some (.ow d') ∨ (∃ d, e[k]? = some (.io d)) ∧ (back ms os outs e)[k]? = some (.io d'))) ∨
    ((back ms os outs e)[k]? = e[k]? ∧ ∀ (i : Nat) (d' : D) (s : Slot), ms[i]? = some true → os[i]? = some (Opd.s k) → outs[i]? = some d' → e[k]? = some s → s.mut = false) := by
  intro ms
  induction ms with
  | nil => intro os outs e; cases os <;> cases outs <;> exact ⟨rfl, fun k => .inr ⟨rfl, fun i d' s h => by simp at h⟩⟩
  | cons m ms ih =>
    intro os outs e
    cases os with
    | nil => cases outs <;> (refine ⟨by cases m <;> rfl, fun k => .inr ⟨by cases m <;> rfl, fun i d' s _ h => by simp at h⟩⟩)
    | cons o os =>
      cases outs with
      | nil => refine ⟨by cases m <;> cases o <;> rfl, fun k => .inr ⟨by cases m <;> cases o <;> rfl, fun i d' s _ _ h => by simp at h⟩⟩
      | cons d0 outs =>
        have plain : back (m :: ms) (o :: os) (d0 :: outs) e = back ms os outs e → (m = true → ∀ p : Nat, o ≠ Opd.s p) →
            (back (m :: ms) (o :: os) (d0 :: outs) e).length = e.length ∧ ∀ k : Nat,
            (∃ (i : Nat) (d' : D), (m :: ms)[i]? = some true ∧ (o :: os)[i]? = some (Opd.s k) ∧ (d0 :: outs)[i]? = some d' ∧ ((∃ d, e[k]? = some (.ow d)) ∧ (back (m :: ms) (o :: os) (d0 :: outs) e)[k]? = some (.ow d') ∨ (∃ d, e[k]? = some (.io d)) ∧ (back (m :: ms) (o :: os) (d0 :: outs) e)[k]? = some (.io d'))) ∨
            ((back (m :: ms) (o :: os) (d0 :: outs) e)[k]? = e[k]? ∧ ∀ (i : Nat) (d' : D) (s : Slot), (m :: ms)[i]? = some true → (o :: os)[i]? = some (Opd.s k) → (d0 :: outs)[i]? = some d' → e[k]? = some s → s.mut = false) := by
          intro hb hm
          obtain ⟨l1, l2⟩ := ih os outs e
          rw [hb]
          refine ⟨l1, fun k => ?_⟩
          rcases l2 k with ⟨i, d', a1, a2, a3, a4⟩ | ⟨a1, a2⟩
          · exact .inl ⟨i + 1, d', a1, a2, a3, a4⟩
          · refine .inr ⟨a1, fun i d' s b1 b2 b3 b4 => ?_⟩
            cases i with
            | zero =>
              have b1' : some m = some true := b1
              have b2' : some o = some (.s k) := b2
              cases b1'
              cases b2'
              exact absurd rfl (hm rfl k)
            | succ i => exact a2 i d' s b1 b2 b3 b4
        cases m with
        | false => exact plain (by cases o <;> rfl) (fun z => by cases z)
        | true =>
          cases o with
          | v d => exact plain rfl fun _ p z => by cases z
          | n d => exact plain rfl fun _ p z => by cases z
          | s p =>
            have hb : back (true :: ms) (.s p :: os) (d0 :: outs) e = back ms os outs (back1 p d0 e) := rfl
            obtain ⟨l1, l2⟩ := ih os outs (back1 p d0 e)
            have len1 : (back1 p d0 e).length = e.length := by
              unfold back1
              cases q : e[p]? with
              | none => rfl
              | some s => cases s <;> simp
            -- what back1 does
            have at1 : ∀ k, (k ≠ p → (back1 p d0 e)[k]? = e[k]?) := fun k hk => by
              unfold back1
              cases q : e[p]? with
              | none => rfl
              | some s => cases s <;> first | rfl | exact List.getElem?_set_ne (Ne.symm hk)
            have atp : (∃ d, e[p]? = some (.ow d)) ∧ (back1 p d0 e)[p]? = some (.ow d0) ∨ (∃ d, e[p]? = some (.io d)) ∧ (back1 p d0 e)[p]? = some (.io d0) ∨ ((back1 p d0 e)[p]? = e[p]? ∧ ∀ s, e[p]? = some s → s.mut = false) := by
              unfold back1
              cases q : e[p]? with
              | none => exact .inr (.inr ⟨q, fun s z => by cases z⟩)
              | some s =>
                have hlt := (List.getElem?_eq_some_iff.mp q).1
                cases s with
                | ow d => exact .inl ⟨⟨d, rfl⟩, List.getElem?_set_self hlt⟩
                | io d => exact .inr (.inl ⟨⟨d, rfl⟩, List.getElem?_set_self hlt⟩)
                | un => exact .inr (.inr ⟨q, fun s z => by cases z; rfl⟩)
                | fz d => exact .inr (.inr ⟨q, fun s z => by cases z; rfl⟩)
                | bw d => exact .inr (.inr ⟨q, fun s z => by cases z; rfl⟩)
            rw [hb]
            refine ⟨l1.trans len1, fun k => ?_⟩
            by_cases hk : k = p
            · subst hk
              rcases atp with ⟨w1, w2⟩ | ⟨w1, w2⟩ | ⟨w1, w2⟩
              · rcases l2 k with ⟨i, d', a1, a2, a3, a4⟩ | ⟨a1, a2⟩
                · refine .inl ⟨i + 1, d', a1, a2, a3, ?_⟩
                  rcases a4 with ⟨_, a4⟩ | ⟨⟨d, z⟩, _⟩
                  · exact .inl ⟨w1, a4⟩
                  · rw [w2] at z; cases z
                · exact .inl ⟨0, d0, rfl, rfl, rfl, .inl ⟨w1, a1.trans w2⟩⟩
              · rcases l2 k with ⟨i, d', a1, a2, a3, a4⟩ | ⟨a1, a2⟩
                · refine .inl ⟨i + 1, d', a1, a2, a3, ?_⟩
                  rcases a4 with ⟨⟨d, z⟩, _⟩ | ⟨_, a4⟩
                  · rw [w2] at z; cases z
                  · exact .inr ⟨w1, a4⟩
                · exact .inl ⟨0, d0, rfl, rfl, rfl, .inr ⟨w1, a1.trans w2⟩⟩
              · rcases l2 k with ⟨i, d', a1, a2, a3, a4⟩ | ⟨a1, a2⟩
                · refine .inl ⟨i + 1, d', a1, a2, a3, ?_⟩
                  rw [w1] at a4
                  exact a4
                · exact .inr ⟨a1.trans w1, fun i d' s _ _ _ z => w2 s z⟩
            · rcases l2 k with ⟨i, d', a1, a2, a3, a4⟩ | ⟨a1, a2⟩
              · rw [at1 k hk] at a4
                exact .inl ⟨i + 1, d', a1, a2, a3, a4⟩
              · rw [at1 k hk] at a1
                refine .inr ⟨a1, fun i d' s b1 b2 b3 b4 => ?_⟩
                cases i with
                | zero =>
                  have b2' : some (Opd.s p) = some (.s k) := b2
                  cases b2'
                  exact absurd rfl hk
                | succ i => exact a2 i d' s b1 b2 b3 (by rw [at1 k hk]; exact b4)
/-- an argument from a slot that is changed in place -/
theorem argO_io {m : Bool} {p : Nat} {s : Slot} (hm : m = true) (hs : s.mut = true) (he : e[p]? = some s) : ∃ d, argO e m (.s p) = some (.io d) := by
  subst hm
  show ∃ d, argS true e[p]? = some (.io d)
  rw [he]
  cases s with
  | ow d => exact ⟨d, rfl⟩
  | io d => exact ⟨d, rfl⟩
  | un => cases hs
  | fz d => cases hs
  | bw d => cases hs
theorem argsO_get : ∀ {ms : List Bool} {os : List Opd} {as : List Arg}, argsO e ms os = some as → ∀ (j : Nat) (o : Opd), os[j]? = some o → ∃ x, as[j]? = some x ∧ argO e (ms[j]?.getD false) o = some x := fun {ms os as} h j o q => by
  have hl := argsO_len h
  have hj : j < as.length := by rw [hl]; exact (List.getElem?_eq_some_iff.mp q).1
  obtain ⟨o', q1, q2⟩ := argsO_at h j as[j] (List.getElem?_eq_getElem hj)
  rw [q] at q1
  cases q1
  exact ⟨as[j], List.getElem?_eq_getElem hj, q2⟩
theorem Ok.after {ms : List Bool} {os : List Opd} {as : List Arg} {vs : List V} {outs : List D} (k : Ok g F e σ H) (ho : OpsOk g F H e σ os vs) (ha : argsO e ms os = some as) (h1 : once (slotsO os) ms os = true) (af : After g.K F H F' H' as vs outs) :
    Ok g F' (back ms os outs e) σ H' := by
  obtain ⟨bl, ba⟩ := back_at ms os outs e
  -- where what is changed lies
  have ioAt : ∀ b : Addr, IoAt as vs b → ∃ (i p : Nat) (s : Slot), ms[i]? = some true ∧ os[i]? = some (Opd.s p) ∧ e[p]? = some s ∧ s.mut = true ∧ σ[p]? = some (some (V.ref b)) ∧ F b = none ∧ g.G b = none := fun b ⟨i, d, q1, q2⟩ => by
    obtain ⟨o, r1, r2⟩ := argsO_at ha i _ q1
    obtain ⟨p, s, rfl, p1, p2, p3, _⟩ := argO_hold r2 rfl
    obtain ⟨m1, m2⟩ := p3 ⟨d, rfl⟩
    have v1 : σ[p]? = some (some (.ref b)) := (ho.2 i _ _ r1 q2).2
    obtain ⟨b', d2, y1, y2, y3, y4, _⟩ := (k.slot p s p1).at m2
    rw [v1] at y2
    cases y2
    exact ⟨i, p, s, getD_true m1, r1, p1, m2, v1, y3, y4⟩
  have notIo : ∀ b o, g.G b = some o → ¬ IoAt as vs b := fun b o q z => by
    obtain ⟨_, _, _, _, _, _, _, _, _, w⟩ := ioAt b z
    rw [w] at q
    cases q
  have old : ∀ {j : Nat} {t : Slot}, (back ms os outs e)[j]? = some t → t.mut = true → ∃ t', e[j]? = some t' ∧ t'.mut = true := fun {j t} q ht => by
    rcases ba j with ⟨i, d', a1, a2, a3, ⟨⟨d, z⟩, _⟩ | ⟨⟨d, z⟩, _⟩⟩ | ⟨a1, _⟩
    · exact ⟨_, z, rfl⟩
    · exact ⟨_, z, rfl⟩
    · rw [a1] at q
      exact ⟨t, q, ht⟩
  refine ⟨bl.trans k.len, af.sub, k.base.trans af.ext, fun b o q => af.stay b o (k.keep b o q) (notIo b o q), fun b o q => (af.frz b o (k.keep b o q)).trans (k.fr b o q), fun l b q => ?_, fun j t q => ?_, fun j l t u b hne q1 q2 ht hu q => ?_⟩
  · obtain ⟨u, z⟩ := k.bt l b q
    by_cases c : IoAt as vs b
    · obtain ⟨j, d, z1, z2⟩ := c
      obtain ⟨d', _, z3⟩ := af.outs j d b z1 z2
      obtain ⟨xs, ws, _, z4, _⟩ := z3.there
      exact ⟨_, z4⟩
    · exact ⟨u, af.stay b u z c⟩
  · rcases ba j with ⟨i, d', a1, a2, a3, a4⟩ | ⟨a1, a2⟩
    · -- it was handed on and came back
      obtain ⟨s, es, ms', kind⟩ : ∃ s, e[j]? = some s ∧ s.mut = true ∧ ((∃ d, s = .ow d) ∧ t = .ow d' ∨ (∃ d, s = .io d) ∧ t = .io d') := by
        rcases a4 with ⟨⟨d, z⟩, w⟩ | ⟨⟨d, z⟩, w⟩
        · rw [w] at q; cases q; exact ⟨_, z, rfl, .inl ⟨⟨d, rfl⟩, rfl⟩⟩
        · rw [w] at q; cases q; exact ⟨_, z, rfl, .inr ⟨⟨d, rfl⟩, rfl⟩⟩
      obtain ⟨x, x1, x2⟩ := argsO_get ha i _ a2
      have hm : ms[i]?.getD false = true := by rw [a1]; rfl
      obtain ⟨d2, x3⟩ := argO_io hm ms' es
      rw [x3] at x2
      cases x2
      obtain ⟨b, d3, y1, y2, y3, y4, y5⟩ := (k.slot j s es).at ms'
      have hv : vs[i]? = some (.ref b) := by
        have hi : i < vs.length := by rw [← ho.1]; exact (List.getElem?_eq_some_iff.mp a2).1
        have := (ho.2 i _ _ a2 (List.getElem?_eq_getElem hi)).2
        have this' : σ[j]? = some (some vs[i]) := this
        rw [y2] at this'
        rw [List.getElem?_eq_getElem hi]
        injection this' with z
        injection z with z
        rw [z]
      obtain ⟨d4, z1, z2⟩ := af.outs i d2 b x1 hv
      rw [a3] at z1
      cases z1
      have hF : F' b = none := by
        obtain ⟨xs, ws, _, w4, _⟩ := y5.there
        exact (af.frz b _ w4).trans y3
      rcases kind with ⟨⟨d, rfl⟩, rfl⟩ | ⟨⟨d, rfl⟩, rfl⟩
      · exact ⟨b, y2, hF, y4, z2⟩
      · obtain ⟨b', w1, w2, w3, w4, w5⟩ := k.slot j _ es
        rw [y2] at w1
        cases w1
        exact ⟨b, y2, hF, y4, w4, z2⟩
    · rw [a1] at q
      refine (k.slot j t q).move af.ext (fun b hs hb hF => ?_) fun b o q hF => (af.frz b o (k.keep b o q)).trans hF
      obtain ⟨b', d3, y1, y2, y3, y4, y5⟩ := (k.slot j t q).at hs
      rw [hb] at y2
      cases y2
      obtain ⟨xs, ws, _, w4, _⟩ := y5.there
      refine ⟨(af.frz b _ w4).trans hF, ?_⟩
      rw [w4]
      refine af.stay b _ w4 fun z => ?_
      obtain ⟨i, p, s, m1, m2, m3, m4, m5, _, _⟩ := ioAt b z
      by_cases hp : p = j
      · subst hp
        obtain ⟨x, x1, x2⟩ := argsO_get ha i _ m2
        have hm : ms[i]?.getD false = true := by rw [m1]; rfl
        obtain ⟨d2, x3⟩ := argO_io hm m4 m3
        rw [x3] at x2
        cases x2
        have hi : i < vs.length := by rw [← ho.1]; exact (List.getElem?_eq_some_iff.mp m2).1
        have hv : vs[i]? = some (.ref b) := by
          have this' : σ[p]? = some (some vs[i]) := (ho.2 i _ _ m2 (List.getElem?_eq_getElem hi)).2
          rw [m5] at this'
          rw [List.getElem?_eq_getElem hi]
          injection this' with z
          injection z with z
          rw [z]
        obtain ⟨d4, z1, _⟩ := af.outs i d2 b x1 hv
        have := a2 i d4 t m1 m2 z1 q
        rw [hs] at this
        cases this
      · exact k.dis p j s t b hp m3 q m4 hs m5 hb
  · obtain ⟨t1, q3, q4⟩ := old q1 ht
    obtain ⟨t2, q5, q6⟩ := old q2 hu
    exact k.dis j l t1 t2 b hne q3 q5 q4 q6 q
/-- what a call hands back is an operand -/
theorem ret_ok {ms : List Bool} {os : List Opd} {as : List Arg} {vs : List V} {outs : List D} {n : Bool} (k : Ok g F e σ H) (k2 : Ok g F' (back ms os outs e) σ H') (r : RetOk g.K F' H H' n d v) : OpOk g F' H' (back ms os outs e) σ (if n = true then .n d else .v d) v := by
  unfold RetOk at r
  cases n with
  | false => exact r
  | true =>
    obtain ⟨a, rfl, h1, h2, h3⟩ := r
    refine ⟨a, rfl, h2, ?_, h3, fun i s q hs hz => ?_⟩
    · cases q : g.G a with
      | none => rfl
      | some o => rw [k.keep a o q] at h1; cases h1
    · obtain ⟨_, ba⟩ := back_at ms os outs e
      obtain ⟨t', w1, w2⟩ : ∃ t', e[i]? = some t' ∧ t'.mut = true := by
        rcases ba i with ⟨i', d', a1, a2, a3, ⟨⟨d, z⟩, _⟩ | ⟨⟨d, z⟩, _⟩⟩ | ⟨a1, _⟩
        · exact ⟨_, z, rfl⟩
        · exact ⟨_, z, rfl⟩
        · rw [a1] at q
          exact ⟨s, q, hs⟩
      obtain ⟨b, d3, y1, y2, y3, y4, y5⟩ := (k.slot i t' w1).at w2
      rw [hz] at y2
      cases y2
      obtain ⟨xs, ws, _, w4, _⟩ := y5.there
      rw [w4] at h1
      cases h1
end
end PL
namespace PL
open L2 PySem PyProof.Rows PySem.Spec
/-! ### the callee's side -/
open Classical in
/-- the ghost of a def's frame -/
noncomputable def gh0 (K : PySem.W.Frag) (C : Str → Option Addr) (F H : Hp) (as : List Arg) (vs : List V) : Gh where
  K := K
  G := fun a => if IoAt as vs a then none else H a
  F0 := F
  B := fun i => match as[i]?, vs[i]? with
    | some (.io _), some (.ref a) => some a
    | some (.bw _), some (.ref a) => some a
    | _, _ => none
  C := C
section
variable {K : PySem.W.Frag} {C : Str → Option Addr} {F F' H H' : Hp} {as : List Arg} {vs : List V} {N : List Str} {nn np : Nat} {e : Env} {σ : L2.St} {a : Addr} {o : HO} {d : D} {v : V} {n : Bool}
theorem gh0_some (h : (gh0 K C F H as vs).G a = some o) : H a = some o ∧ ¬ IoAt as vs a := by
  unfold gh0 at h
  by_cases c : IoAt as vs a
  · simp only [if_pos c] at h; cases h
  · simp only [if_neg c] at h; exact ⟨h, c⟩
theorem gh0_not (c : ¬ IoAt as vs a) : (gh0 K C F H as vs).G a = H a := by
  unfold gh0
  simp only [if_neg c]
theorem gh0_io (c : IoAt as vs a) : (gh0 K C F H as vs).G a = none := by
  unfold gh0
  simp only [if_pos c]
theorem startE_at {i : Nat} {s : Slot} (h : (startE nn as)[i]? = some s) : (∃ x, as[i]? = some x ∧ s = x.slot) ∨ s = .un := by
  unfold startE at h
  by_cases hi : i < as.length
  · rw [List.getElem?_append_left (by simpa using hi), List.getElem?_map] at h
    cases q : as[i]? with
    | none => rw [q] at h; cases h
    | some x => rw [q] at h; cases h; exact .inl ⟨x, rfl, rfl⟩
  · rw [List.getElem?_append_right (by simpa using hi), List.getElem?_replicate] at h
    split at h
    · cases h; exact .inr rfl
    · cases h
theorem start_at {i : Nat} {v : V} (h : vs[i]? = some v) : (L2.start N vs)[i]? = some (some v) := by
  have hi := (List.getElem?_eq_some_iff.mp h).1
  unfold L2.start
  rw [List.getElem?_append_left (by simpa using hi), List.getElem?_map, h]
  rfl
theorem start_ok (ha : ArgsOk K F H as vs) (hs : Sub F H) (h1 : as.length ≤ nn) (hN : N.length = nn) : Ok (gh0 K C F H as vs) F (startE nn as) (L2.start N vs) H := by
  have get : ∀ {i : Nat} {x : Arg}, as[i]? = some x → ∃ v, vs[i]? = some v ∧ ArgOk K F H x v := fun {i x} q => by
    have hi : i < vs.length := by rw [← ha.len]; exact (List.getElem?_eq_some_iff.mp q).1
    exact ⟨vs[i], List.getElem?_eq_getElem hi, ha.each i x _ q (List.getElem?_eq_getElem hi)⟩
  refine ⟨?_, hs, Same.refl _, fun a o q => (gh0_some q).1, fun a o q => rfl, fun i a q => ?_, fun i s q => ?_, fun i j s t a hne q1 q2 hs' ht q3 q4 => ?_⟩
  · unfold startE L2.start
    simp only [List.length_append, List.length_map, List.length_replicate]
    have := ha.len
    omega
  · have q' : (match as[i]?, vs[i]? with
      | some (.io _), some (.ref a) => some a
      | some (.bw _), some (.ref a) => some a
      | _, _ => none) = some a := q
    cases q1 : as[i]? with
    | none => rw [q1] at q'; cases q'
    | some x =>
      obtain ⟨v, q2, q3⟩ := get q1
      rw [q1, q2] at q'
      cases x with
      | fz d => cases v <;> cases q'
      | bw d =>
        obtain ⟨b, rfl, w1, w2⟩ := q3
        cases q'
        obtain ⟨xs, ws, _, w3, _⟩ := w2.there
        exact ⟨_, w3⟩
      | io d =>
        obtain ⟨b, rfl, w1, w2⟩ := q3
        cases q'
        obtain ⟨xs, ws, _, w3, _⟩ := w2.there
        exact ⟨_, w3⟩
  · rcases startE_at q with ⟨x, q1, rfl⟩ | rfl
    · obtain ⟨v, q2, q3⟩ := get q1
      have q4 := start_at (N := N) q2
      cases x with
      | fz d => exact ⟨v, q4, q3⟩
      | bw d =>
        obtain ⟨a, rfl, w1, w2⟩ := q3
        obtain ⟨xs, ws, rfl, w3, w4⟩ := w2.there
        refine ⟨a, q4, w1, ?_, ws, ?_, w4⟩
        · show (match as[i]?, vs[i]? with
            | some (.io _), some (.ref a) => some a
            | some (.bw _), some (.ref a) => some a
            | _, _ => none) = some a
          rw [q1, q2]
        show (gh0 K C F H as vs).G a = some (.lst ws)
        rw [gh0_not, w3]
        rintro ⟨j, d, z1, z2⟩
        by_cases hj : j = i
        · subst hj
          rw [q1] at z1
          cases z1
        · exact ha.dis j i d _ a hj z1 q1 rfl z2 q2
      | io d =>
        obtain ⟨a, rfl, w1, w2⟩ := q3
        refine ⟨a, q4, w1, gh0_io ⟨i, d, q1, q2⟩, ?_, w2⟩
        show (match as[i]?, vs[i]? with
          | some (.io _), some (.ref a) => some a
          | some (.bw _), some (.ref a) => some a
          | _, _ => none) = some a
        rw [q1, q2]
    · trivial
  · have io : ∀ {i : Nat} {s : Slot}, (startE nn as)[i]? = some s → s.mut = true → ∃ d, as[i]? = some (.io d) := fun {i s} q hm => by
      rcases startE_at q with ⟨x, q1, rfl⟩ | rfl
      · cases x with
        | fz d => cases hm
        | bw d => cases hm
        | io d => exact ⟨d, q1⟩
      · cases hm
    obtain ⟨d1, w1⟩ := io q1 hs'
    obtain ⟨d2, w2⟩ := io q2 ht
    obtain ⟨v1, y1, _⟩ := get w1
    obtain ⟨v2, y2, _⟩ := get w2
    have e1 := start_at (N := N) y1
    have e2 := start_at (N := N) y2
    rw [q3] at e1
    cases e1
    rw [q4] at e2
    cases e2
    exact ha.dis i j d1 _ a hne w1 w2 rfl y1 y2
theorem kept_at : ∀ {as : List Arg} {e : Env}, kept as e = true → ∀ {i : Nat} {d : D}, as[i]? = some (.io d) → ∃ d', e[i]? = some (.io d')
  | [], _, _, i, d, h => by simp at h
  | a :: as, [], h, i, d, q => by
    cases a <;> exact absurd h Bool.false_ne_true
  | a :: as, s :: e, h, 0, d, q => by
    cases (show some a = some (.io d) from q)
    cases s with
    | io d' => exact ⟨d', rfl⟩
    | un => exact absurd h Bool.false_ne_true
    | fz d' => exact absurd h Bool.false_ne_true
    | ow d' => exact absurd h Bool.false_ne_true
    | bw d' => exact absurd h Bool.false_ne_true
  | a :: as, s :: e, h, i + 1, d, q => by
    have h' : kept as e = true := by
      cases a with
      | fz d => exact h
      | bw d => exact h
      | io d =>
        cases s with
        | io d' => exact h
        | un => exact absurd h Bool.false_ne_true
        | fz d' => exact absurd h Bool.false_ne_true
        | ow d' => exact absurd h Bool.false_ne_true
        | bw d' => exact absurd h Bool.false_ne_true
    exact kept_at h' (i := i) (d := d) q
/-- where an argument that is changed in place lies at the end -/
theorem end_at (k : Ok (gh0 K C F H as vs) F' e σ H') (hk : kept as e = true) {i : Nat} (h1 : as[i]? = some (.io d)) (h2 : vs[i]? = some (.ref a)) : ∃ d', e[i]? = some (.io d') ∧ σ[i]? = some (some (.ref a)) ∧ F' a = none ∧ OwnAt K F' H' a d' := by
  obtain ⟨d', q⟩ := kept_at hk h1
  obtain ⟨b, w1, w2, w3, w4, w5⟩ := k.slot i _ q
  have e1 : (match as[i]?, vs[i]? with
          | some (.io _), some (.ref a) => some a
          | some (.bw _), some (.ref a) => some a
          | _, _ => none) = some b := w4
  rw [h1, h2] at e1
  cases e1
  exact ⟨d', q, w1, w2, w5⟩
theorem end_ok (ha : ArgsOk K F H as vs) (hnp : as.length = np) (k : Ok (gh0 K C F H as vs) F' e σ H') (hk : kept as e = true) : After K F H F' H' as vs (outsE np e) := by
  have io : ∀ {b}, IoAt as vs b → F' b = none ∧ F b = none := fun {b} ⟨j, d, z1, z2⟩ => by
    obtain ⟨d', _, _, w, _⟩ := end_at k hk z1 z2
    have q := ha.each j _ _ z1 z2
    obtain ⟨c, e1, e2, _⟩ := q
    cases e1
    exact ⟨w, e2⟩
  refine ⟨k.base, k.sub, fun b o q c => k.keep b o (by rw [gh0_not c]; exact q), fun b o q => ?_, fun j d b z1 z2 => ?_⟩
  · by_cases c : IoAt as vs b
    · rw [(io c).1, (io c).2]
    · exact k.fr b o (by rw [gh0_not c]; exact q)
  · obtain ⟨d', q, _, _, w⟩ := end_at k hk z1 z2
    refine ⟨d', ?_, w⟩
    have hj : j < np := by rw [← hnp]; exact (List.getElem?_eq_some_iff.mp z1).1
    unfold outsE
    rw [List.getElem?_map, List.getElem?_take_of_lt hj, q]
    rfl
/-- the value that a def returns -/
theorem end_ret (ha : ArgsOk K F H as vs) (k : Ok (gh0 K C F H as vs) F' e σ H') (hk : kept as e = true) (r : OpOk (gh0 K C F H as vs) F' H' e σ (if n = true then .n d else .v d) v) : RetOk K F' H H' n d v := by
  cases n with
  | false => exact r
  | true =>
    obtain ⟨a, rfl, r1, r2, r3, r4⟩ := r
    refine ⟨a, rfl, ?_, r1, r3⟩
    by_cases c : IoAt as vs a
    · obtain ⟨j, d0, z1, z2⟩ := c
      obtain ⟨d', q, w, _, _⟩ := end_at k hk z1 z2
      exact absurd w (r4 j _ q rfl)
    · rw [gh0_not c] at r2
      exact r2
end
/-! ## what is wanted of a run -/
/-- of an expression: its value and the slots' states, or its error -/
def TM {α : Type} (g : Gh) (W : WX) (σ : L2.St) (r : Rz α) (K : α → Env → Prop) : Prop := match r with
  | .ok a e => K a e
  | .er x e => ∀ F H cls dd, Ok g F e σ H → ErOk g.K g.C F x cls dd → W cls dd σ H
  | .bad => False
section
variable {g : Gh} {W : WX} {σ : L2.St} {α β : Type}
theorem tm_bind {m : M α} {f : α → M β} {e : Env} {P : β → Env → Prop} (h : TM g W σ (M.bind m f e) P) : TM g W σ (m e) fun a e' => TM g W σ (f a e') P := by
  have h' : TM g W σ (match m e with | .ok a e' => f a e' | .er x e' => .er x e' | .bad => .bad) P := h
  cases q : m e with
  | ok a e' => rw [q] at h'; exact h'
  | er x e' => rw [q] at h'; exact h'
  | bad => rw [q] at h'; exact h'
theorem bind_tm {m : M α} {f : α → M β} {e : Env} {P : β → Env → Prop} (h : TM g W σ (m e) fun a e' => TM g W σ (f a e') P) : TM g W σ (M.bind m f e) P := by
  show TM g W σ (match m e with | .ok a e' => f a e' | .er x e' => .er x e' | .bad => .bad) P
  cases q : m e with
  | ok a e' => rw [q] at h; exact h
  | er x e' => rw [q] at h; exact h
  | bad => rw [q] at h; exact h
theorem bind_ok {m : M α} {f : α → M β} {e e2 : Env} {b : β} (h : M.bind m f e = .ok b e2) : ∃ a e1, m e = .ok a e1 ∧ f a e1 = .ok b e2 := by
  unfold M.bind at h
  cases q : m e with
  | ok a e' => rw [q] at h; exact ⟨a, e', rfl, h⟩
  | er x e' => rw [q] at h; cases h
  | bad => rw [q] at h; cases h
theorem TM.mono {r : Rz α} {P Q : α → Env → Prop} (h : TM g W σ r P) (i : ∀ a e, r = .ok a e → P a e → Q a e) : TM g W σ r Q := by
  cases r with
  | ok a e => exact i a e rfl h
  | er x e => exact h
  | bad => exact h
theorem tm_lift {o : Option α} {e : Env} {P : α → Env → Prop} (h : TM g W σ (M.lift o e) P) : ∃ a, o = some a ∧ P a e := by
  have h' : TM g W σ (match o with | some a => Rz.ok a e | none => .bad) P := h
  cases o with
  | none => exact h'.elim
  | some a => exact ⟨a, rfl, h'⟩
theorem tm_rd {o : Opd} {e : Env} {P : D → Env → Prop} (h : TM g W σ (rd o e) P) : ∃ d, rd o e = .ok d e ∧ P d e := by
  cases q : rd o e with
  | ok d e' =>
    rw [q] at h
    have : e' = e := by
      cases o with
      | v d => cases q; rfl
      | n d => cases q; rfl
      | s i =>
        have q' : (match (e[i]?).bind Slot.val with | some d => Rz.ok d e | none => .bad) = .ok d e' := q
        cases w : (e[i]?).bind Slot.val with
        | none => rw [w] at q'; cases q'
        | some d => rw [w] at q'; cases q'; rfl
    subst this
    exact ⟨d, rfl, h⟩
  | er x e' => exact absurd q rd_noer
  | bad => rw [q] at h; exact h.elim
theorem tm_cns {o : Opd} {e : Env} {P : D → Env → Prop} (h : TM g W σ (cns o e) P) : ∃ d e', cns o e = .ok d e' ∧ P d e' := by
  cases q : cns o e with
  | ok d e' => rw [q] at h; exact ⟨d, e', rfl, h⟩
  | er x e' => exact absurd q cns_noer
  | bad => rw [q] at h; exact h.elim
theorem tm_wlk {o : Opd} {e : Env} {P : D → Env → Prop} (h : TM g W σ (wlk o e) P) : ∃ d e', wlk o e = .ok d e' ∧ P d e' := by
  cases q : wlk o e with
  | ok d e' => rw [q] at h; exact ⟨d, e', rfl, h⟩
  | er x e' => exact absurd q wlk_noer
  | bad => rw [q] at h; exact h.elim
theorem rd_fz {o : Opd} : rd o.fz = rd o := by cases o <;> rfl
/-- an operand is frozen where it is new -/
theorem fz_ok {F H : Hp} {e : Env} {o : Opd} {v : V} (k : Ok g F e σ H) (h : OpOk g F H e σ o v) : ∃ F', Sub F F' ∧ Ok g F' e σ H ∧ (∀ d, o.fz ≠ .n d) ∧ OpOk g F' H e σ o.fz v := by
  cases o with
  | v d => exact ⟨F, Same.refl _, k, fun _ z => (by cases z), h⟩
  | s i => exact ⟨F, Same.refl _, k, fun _ z => (by cases z), h⟩
  | n d =>
    obtain ⟨F', a, b, c⟩ := k.freeze h
    exact ⟨F', a, b, fun _ z => (by cases z), c⟩
/-- a frozen operand stays -/
theorem op_move {F F' H H' : Hp} {e e' : Env} {o : Opd} {v : V} (hn : ∀ d, o ≠ .n d) (h : OpOk g F H e σ o v) (hF : Sub F F') : OpOk g F' H' e' σ o v := by
  cases o with
  | v d => exact Rep.mono hF h
  | s i => exact h
  | n d => exact absurd rfl (hn d)
end
end PL
namespace PL
open L2 PySem PyProof.Rows PySem.Spec
/-! ## the operations are what the machine does -/
section
variable {g : Gh} {F F' H H' : Hp} {e : Env} {σ : L2.St} {d : D} {a : Addr} {v : V} {K : PySem.W.Frag}
theorem mk_tup {xs : List D} {ws : List V} {p : Addr} (k : Ok g F e σ H) (r : Reps g.K F xs ws) (hp : H p = none) :
    Ok g (upd F p (.tup ws)) e σ (upd H p (.tup ws)) ∧ Rep g.K (upd F p (.tup ws)) (.tup xs) (.ref p) ∧ Sub F (upd F p (.tup ws)) := by
  have hs : Sub F (upd F p (.tup ws)) := sub_upd (k.sub.none hp)
  exact ⟨k.new hp, .tup (SqT.of upd_same) (r.mono hs), hs⟩
theorem mk_lst {xs : List D} {ws : List V} {p : Addr} (k : Ok g F e σ H) (r : Reps g.K F xs ws) (hp : H p = none) :
    Ok g F e σ (upd H p (.lst ws)) ∧ OpOk g F (upd H p (.lst ws)) e σ (.n (.lst xs)) (.ref p) := by
  refine ⟨k.grow hp, p, rfl, k.sub.none hp, Same.free k.keep hp, ⟨ws, upd_same, r⟩, fun i s q hs hz => ?_⟩
  obtain ⟨b, d3, y1, y2, y3, y4, y5⟩ := (k.slot i s q).at hs
  rw [hz] at y2
  cases y2
  obtain ⟨xs, ws, _, w4, _⟩ := y5.there
  rw [w4] at hp
  cases hp
/-- what is wanted of an operand that comes -/
abbrev Wants (g : Gh) (F : Hp) (e : Env) (σ : L2.St) (c : Opd) (Q : VK) : Prop := ∀ F' H' v, Sub F F' → Ok g F' e σ H' → OpOk g F' H' e σ c v → Q v H'
theorem want_tup {xs : List D} {ws : List V} {p : Addr} {Q : VK} (k : Ok g F e σ H) (r : Reps g.K F xs ws) (q : Wants g F e σ (.v (.tup xs)) Q) (hp : H p = none) : Q (.ref p) (upd H p (.tup ws)) := by
  obtain ⟨a, b, c⟩ := mk_tup k r hp
  exact q _ _ _ c a b
theorem want_lst {xs : List D} {ws : List V} {p : Addr} {Q : VK} (k : Ok g F e σ H) (r : Reps g.K F xs ws) (q : Wants g F e σ (.n (.lst xs)) Q) (hp : H p = none) : Q (.ref p) (upd H p (.lst ws)) := by
  obtain ⟨a, b⟩ := mk_lst k r hp
  exact q _ _ _ (Same.refl _) a b
theorem want_v {Q : VK} (k : Ok g F e σ H) (q : Wants g F e σ (.v d) Q) (r : Rep g.K F d v) : Q v H := q F H v (Same.refl _) k r
theorem sc_of : ∀ {d : D} {x : V}, d.sc = some x → RepH K F H d v → v = x
  | .non, x, h, r => by cases h; exact r.non
  | .bl b, x, h, r => by cases h; exact r.bl
  | .int i, x, h, r => by cases h; exact r.int
  | .str s, x, h, r => by cases h; exact r.str
  | .tup xs, x, h, r => by cases h
  | .lst xs, x, h, r => by cases h
  | .arg xs, x, h, r => by cases h
mutual
theorem rep_dp (hs : Sub F H) : ∀ {d : D} {v : V}, Rep K F d v → Dp K H v d.pd
  | _, _, .non => Dp.non
  | _, _, .bl b => Dp.bl b
  | _, _, .int i => Dp.int i
  | _, _, .str x => Dp.str x
  | _, _, .tup h r => Dp.tup (sqT_mono hs h) (reps_dp hs r)
  | _, _, .lst h r => Dp.lst (SqL.of (hs _ _ h)) (reps_dp hs r)
  | _, _, .arg h r => Dp.lst (sqL_mono hs h) (reps_dp hs r)
theorem reps_dp (hs : Sub F H) : ∀ {ds : List D} {vs : List V}, Reps K F ds vs → DpAll K H vs (D.pds ds)
  | _, _, .nil => DpAll.nil
  | _, _, .cons h r => DpAll.cons (rep_dp hs h) (reps_dp hs r)
end
theorem repH_dp (hs : Sub F H) (r : RepH K F H d v) : Dp K H v d.pd := by
  cases r with
  | fz r => exact rep_dp hs r
  | ow h r => exact Dp.lst (SqL.of h) (reps_dp hs r)
theorem eqV_pd : ∀ {y a : D} {u x : V}, y.sc = some u → a.sc = some x → eqV u x = PyData.eqv y.pd a.pd
  | .non, .non, _, _, h, h' => by cases h; cases h'; rfl
  | .non, .bl _, _, _, h, h' => by cases h; cases h'; rfl
  | .non, .int _, _, _, h, h' => by cases h; cases h'; rfl
  | .non, .str _, _, _, h, h' => by cases h; cases h'; rfl
  | .bl _, .non, _, _, h, h' => by cases h; cases h'; rfl
  | .bl _, .bl _, _, _, h, h' => by cases h; cases h'; rfl
  | .bl _, .int _, _, _, h, h' => by cases h; cases h'; rfl
  | .bl _, .str _, _, _, h, h' => by cases h; cases h'; rfl
  | .int _, .non, _, _, h, h' => by cases h; cases h'; rfl
  | .int _, .bl _, _, _, h, h' => by cases h; cases h'; rfl
  | .int _, .int _, _, _, h, h' => by cases h; cases h'; rfl
  | .int _, .str _, _, _, h, h' => by cases h; cases h'; rfl
  | .str _, .non, _, _, h, h' => by cases h; cases h'; rfl
  | .str _, .bl _, _, _, h, h' => by cases h; cases h'; rfl
  | .str _, .int _, _, _, h, h' => by cases h; cases h'; rfl
  | .str _, .str _, _, _, h, h' => by cases h; cases h'; rfl
  | .tup _, _, _, _, h, _ => by cases h
  | .lst _, _, _, _, h, _ => by cases h
  | .arg _, _, _, _, h, _ => by cases h
  | _, .tup _, _, _, _, h' => by cases h'
  | _, .lst _, _, _, _, h' => by cases h'
  | _, .arg _, _, _, _, h' => by cases h'
theorem flat_sc : ∀ {d : D} {x : V}, d.sc = some x → flatV x = true
  | .non, _, h => by cases h; rfl
  | .bl _, _, h => by cases h; rfl
  | .int _, _, h => by cases h; rfl
  | .str _, _, h => by cases h; rfl
  | .tup _, _, h => by cases h
  | .lst _, _, h => by cases h
  | .arg _, _, h => by cases h
theorem flats_sc : ∀ {ds : List D} {vs : List V}, Reps K F ds vs → ds.all (fun y => y.sc.isSome) = true → vs.all flatV = true ∧ ∀ {a : D} {x : V}, a.sc = some x → inV x vs = ds.any fun y => PyData.eqv y.pd a.pd
  | _, _, .nil, _ => ⟨rfl, fun _ => rfl⟩
  | d :: ds, v :: vs, .cons h r, q => by
    rw [List.all_cons, Bool.and_eq_true] at q
    obtain ⟨u, hu⟩ := Option.isSome_iff_exists.mp q.1
    have ev := sc_of (H := F) hu (.fz h)
    subst ev
    obtain ⟨w1, w2⟩ := flats_sc r q.2
    refine ⟨by rw [List.all_cons, flat_sc hu, w1]; rfl, fun {a x} ha => ?_⟩
    show (eqV v x || inV x vs) = _
    rw [List.any_cons, w2 ha, eqV_pd hu ha]
end
def opB : BOp → Operator
  | .add => .Add
  | .sub => .Sub
  | .mul => .Mult
  | .fdiv => .FloorDiv
  | .mod => .Mod
  | .pow => .Pow
def opC : COp → CmpOp
  | .eq => .Eq
  | .ne => .NotEq
  | .lt => .Lt
  | .le => .LtE
  | .gt => .Gt
  | .ge => .GtE
  | .isin => .In
  | .notin => .NotIn
section
variable {X : Cx}
theorem op_mul_str : OpR X (binaryOp .Mult) (fun x y H Q => ∃ z k, x = .str z ∧ y = .int k ∧ 0 ≤ k ∧ k ≤ 1000 ∧ z.length ≤ 1000 ∧ Q (.str (Txt.mul z k)) H) := by
  (intro pins s σ H x y v u Q I rx ry h)
  obtain ⟨z, k, rfl, rfl, h1, h2, h3, q⟩ := h
  obtain ⟨t, rfl⟩ := rx
  obtain ⟨t', rfl⟩ := ry
  have hs := sizeLine_eq
  refine SB.mul ⟨?_, fun c1 c2 => ?_, fun c1 c2 => ?_⟩ fun t' tk => ⟨.str _, H, I.tok _, ⟨_, rfl⟩, q⟩
  · have e1 : decide (k < -(2 ^ 63 : Int)) = false := decide_eq_false (by omega)
    have e2 : decide (k ≥ (2 ^ 63 : Int)) = false := decide_eq_false (by omega)
    rw [e1, e2]
    rfl
  · have hk : 1 ≤ k := by omega
    have h5 : (1000 : Int) ≤ (2 ^ 63 - 1) / k := (Int.le_ediv_iff_mul_le (by omega)).mpr (by
      have : (1000 : Int) * k ≤ 1000 * 1000 := Int.mul_le_mul_of_nonneg_left h2 (by decide)
      omega)
    have h6 : (z.length : Int) ≤ 1000 := by omega
    omega
  · have h4 : k.toNat ≤ 1000 := by omega
    have h5 : z.length * k.toNat ≤ 1000 * 1000 := Nat.mul_le_mul h3 h4
    exact decide_eq_false (by
      show ¬ (z.length * k.toNat > sizeLine)
      omega)
def rMulS : R2 := fun x y H Q => ∃ z k, x = .str z ∧ y = .int k ∧ 0 ≤ k ∧ k ≤ 1000 ∧ z.length ≤ 1000 ∧ Q (.str (Txt.mul z k)) H
theorem bin_ok (o : BOp) : ∃ r : R2, OpR X (binaryOp (opB o)) r ∧ ∀ {g : Gh} {F H : Hp} {e : Env} {σ : L2.St} {a b : D} {c : Opd} {v1 v2 : V} {Q : VK}, g.K = X.K → Ok g F e σ H → RepH g.K F H a v1 → RepH g.K F H b v2 → binD o a b = some c → Wants g F e σ c Q → r v1 v2 H Q := by
  cases o with
  | add =>
    refine ⟨_, op_add.or (op_add_str.or (op_catA.or op_cat)), fun {g F H e σ a b c v1 v2 Q} hK k r1 r2 h q => ?_⟩
    cases a <;> cases b <;> first
      | (exfalso; exact Option.noConfusion rfl (heq_of_eq h))
      | skip
    · cases r1.int; cases r2.int; cases h
      exact .inl ⟨_, _, rfl, rfl, want_v k q (.int _)⟩
    · rename_i x y
      have h' : (if x.length + y.length ≤ sizeLine then some (Opd.v (.str (x ++ y))) else none) = some c := h
      split at h'
      · rename_i hz
        cases r1.str; cases r2.str; cases h'
        exact .inr (.inl ⟨_, _, rfl, rfl, hz, want_v k q (.str _)⟩)
      · cases h'
    · rename_i xs ys
      have h' : (if xs.length + ys.length ≤ sizeLine then some (Opd.v (.tup (xs ++ ys))) else none) = some c := h
      split at h'
      · rename_i hz
        cases h'
        obtain ⟨p1, w1, rfl, t1, s1⟩ := r1.tup k.sub
        obtain ⟨p2, w2, rfl, t2, s2⟩ := r2.tup k.sub
        have l1 := s1.length
        have l2 := s2.length
        refine .inr (.inr (.inl ⟨p1, p2, w1, w2, rfl, rfl, hK ▸ t1, hK ▸ t2, by omega, fun z => ?_, fun z1 z2 => ?_, fun _ _ p hp => want_tup k (s1.append s2) q hp⟩))
        · have : xs = [] := List.length_eq_zero_iff.mp (by rw [l1, z]; rfl)
          subst this
          rw [List.nil_append] at q
          cases r2 with
          | fz r => exact want_v k q r
        · have : ys = [] := List.length_eq_zero_iff.mp (by rw [l2, z2]; rfl)
          subst this
          rw [List.append_nil] at q
          cases r1 with
          | fz r => exact want_v k q r
      · cases h'
    · rename_i xs ys
      have h' : (if xs.length + ys.length ≤ sizeLine then some (Opd.n (.lst (xs ++ ys))) else none) = some c := h
      split at h'
      · rename_i hz
        cases h'
        obtain ⟨p1, w1, rfl, t1, s1⟩ := r1.lst k.sub
        obtain ⟨p2, w2, rfl, t2, s2⟩ := r2.lst k.sub
        have l1 := s1.length
        have l2 := s2.length
        exact .inr (.inr (.inr ⟨p1, p2, w1, w2, rfl, rfl, t1, t2, by omega, fun p hp => want_lst k (s1.append s2) q hp⟩))
      · cases h'
  | sub =>
    refine ⟨_, op_sub, fun {g F H e σ a b c v1 v2 Q} hK k r1 r2 h q => ?_⟩
    cases a <;> cases b <;> first
      | (exfalso; exact Option.noConfusion rfl (heq_of_eq h))
      | skip
    cases r1.int; cases r2.int; cases h
    exact ⟨_, _, rfl, rfl, want_v k q (.int _)⟩
  | mul =>
    refine ⟨_, op_mul.or ((show OpR X (binaryOp .Mult) rMulS from op_mul_str).or (op_rep.or op_repT)), fun {g F H e σ a b c v1 v2 Q} hK k r1 r2 h q => ?_⟩
    cases a <;> cases b <;> first
      | (exfalso; exact Option.noConfusion rfl (heq_of_eq h))
      | skip
    · rename_i i j
      have h' : (if (-(2 ^ 64) < i ∧ i < 2 ^ 64) ∨ (-(2 ^ 64) < j ∧ j < 2 ^ 64) then some (Opd.v (.int (i * j))) else none) = some c := h
      split at h'
      · rename_i hc
        cases r1.int; cases r2.int; cases h'
        exact .inl ⟨_, _, rfl, rfl, hc, want_v k q (.int _)⟩
      · cases h'
    · rename_i x j
      have h' : (if 0 ≤ j ∧ j ≤ 1000 ∧ x.length ≤ 1000 then some (Opd.v (.str (Txt.mul x j))) else none) = some c := h
      split at h'
      · rename_i hc
        cases r1.str; cases r2.int; cases h'
        exact .inr (.inl ⟨_, _, rfl, rfl, hc.1, hc.2.1, hc.2.2, want_v k q (.str _)⟩)
      · cases h'
    · rename_i xs j
      have h' : (if xs ≠ [] ∧ 2 ≤ j ∧ j ≤ 1000 ∧ xs.length ≤ 1000 then some (Opd.v (.tup (List.replicate j.toNat xs).flatten)) else none) = some c := h
      split at h'
      · rename_i hc
        cases h'
        obtain ⟨p1, w1, rfl, t1, s1⟩ := r1.tup k.sub
        cases r2.int
        have l1 := s1.length
        refine .inr (.inr (.inr ⟨p1, j, w1, rfl, rfl, hK ▸ t1, fun z => hc.1 (List.length_eq_zero_iff.mp (by rw [l1, z]; rfl)), hc.2.1, hc.2.2.1, by omega, fun p hp => want_tup k (s1.rep j.toNat) q hp⟩))
      · cases h'
    · rename_i xs j
      have h' : (if -(2 ^ 63) ≤ j ∧ j < 2 ^ 63 ∧ xs.length * j.toNat ≤ sizeLine then some (Opd.n (.lst (List.replicate j.toNat xs).flatten)) else none) = some c := h
      split at h'
      · rename_i hc
        cases h'
        obtain ⟨p1, w1, rfl, t1, s1⟩ := r1.lst k.sub
        cases r2.int
        have l1 := s1.length
        refine .inr (.inr (.inl ⟨p1, j, w1, rfl, rfl, t1, hc.1, hc.2.1, by rw [← l1]; exact hc.2.2, fun p hp => want_lst k (s1.rep j.toNat) q hp⟩))
      · cases h'
  | fdiv =>
    refine ⟨_, op_fdivN, fun {g F H e σ a b c v1 v2 Q} hK k r1 r2 h q => ?_⟩
    cases a <;> cases b <;> first
      | (exfalso; exact Option.noConfusion rfl (heq_of_eq h))
      | skip
    rename_i i j
    have h' : (if j ≠ 0 ∧ j.natAbs < 1073741824 then some (Opd.v (.int (i.fdiv j))) else none) = some c := h
    split at h'
    · rename_i hc
      cases r1.int; cases r2.int; cases h'
      exact ⟨_, _, rfl, rfl, hc, want_v k q (.int _)⟩
    · cases h'
  | mod =>
    refine ⟨_, op_modN, fun {g F H e σ a b c v1 v2 Q} hK k r1 r2 h q => ?_⟩
    cases a <;> cases b <;> first
      | (exfalso; exact Option.noConfusion rfl (heq_of_eq h))
      | skip
    rename_i i j
    have h' : (if j ≠ 0 then some (Opd.v (.int (i.fmod j))) else none) = some c := h
    split at h'
    · rename_i hc
      cases r1.int; cases r2.int; cases h'
      exact ⟨_, _, rfl, rfl, hc, want_v k q (.int _)⟩
    · cases h'
  | pow =>
    refine ⟨_, op_pow, fun {g F H e σ a b c v1 v2 Q} hK k r1 r2 h q => ?_⟩
    cases a <;> cases b <;> first
      | (exfalso; exact Option.noConfusion rfl (heq_of_eq h))
      | skip
    rename_i i j
    have h' : (if 0 ≤ j ∧ j ≤ 1000000 ∧ i.natAbs < 2 ^ 64 then some (Opd.v (.int (i ^ j.toNat))) else none) = some c := h
    split at h'
    · rename_i hc
      cases r1.int; cases r2.int; cases h'
      exact ⟨_, _, rfl, rfl, hc, want_v k q (.int _)⟩
    · cases h'
end
end PL
namespace PL
open L2 PySem PyProof.Rows PySem.Spec
section
variable {X : Cx}
theorem OpR.imp {f : Value → Value → Sem Value} {r r' : R2} (h : OpR X f r) (i : ∀ x y H Q, r' x y H Q → r x y H Q) : OpR X f r' := fun pins s σ H x y v u Q I rx ry q => h pins s σ H x y v u Q I rx ry (i _ _ _ _ q)
/-- the rules of == and of in, with the room that they ask -/
theorem eqD_ok {g : Gh} {F H : Hp} {e : Env} {σ : L2.St} {a b : D} {k : Bool} {v1 v2 : V} {Q : VK} (hK : g.K = X.K) (o : Ok g F e σ H) (r1 : RepH g.K F H a v1) (r2 : RepH g.K F H b v2) (h : eqD a b = some k) (q : Q (.bl k) H) :
    rEq v1 v2 H Q ∨ rEqD X.K v1 v2 H Q := by
  unfold eqD at h
  have deep : (if SeqAt.shaped a.pd = true ∧ SeqAt.shaped b.pd = true then some (PyData.eqv a.pd b.pd) else none) = some k → rEqD X.K v1 v2 H Q := fun h => by
    split at h
    · rename_i hc
      cases h
      exact ⟨_, _, hK ▸ repH_dp o.sub r1, hK ▸ repH_dp o.sub r2, hc.1, hc.2, q⟩
    · cases h
  cases ha : a.sc with
  | none => rw [ha] at h; exact .inr (deep h)
  | some x =>
    cases hb : b.sc with
    | none => rw [ha, hb] at h; exact .inr (deep h)
    | some y =>
      rw [ha, hb] at h
      have h' : (if scal x y = true then some (decide (x = y)) else none) = some k := h
      split at h'
      · rename_i hc
        cases h'
        have e1 := sc_of ha r1
        have e2 := sc_of hb r2
        subst e1 e2
        exact .inl ⟨hc, q⟩
      · cases h'
theorem neD_ok {g : Gh} {F H : Hp} {e : Env} {σ : L2.St} {a b : D} {k : Bool} {v1 v2 : V} {Q : VK} (hK : g.K = X.K) (o : Ok g F e σ H) (r1 : RepH g.K F H a v1) (r2 : RepH g.K F H b v2) (h : eqD a b = some k) (q : Q (.bl (!k)) H) :
    rNe v1 v2 H Q ∨ rNeD X.K v1 v2 H Q := by
  unfold eqD at h
  have deep : (if SeqAt.shaped a.pd = true ∧ SeqAt.shaped b.pd = true then some (PyData.eqv a.pd b.pd) else none) = some k → rNeD X.K v1 v2 H Q := fun h => by
    split at h
    · rename_i hc
      cases h
      exact ⟨_, _, hK ▸ repH_dp o.sub r1, hK ▸ repH_dp o.sub r2, hc.1, hc.2, q⟩
    · cases h
  cases ha : a.sc with
  | none => rw [ha] at h; exact .inr (deep h)
  | some x =>
    cases hb : b.sc with
    | none => rw [ha, hb] at h; exact .inr (deep h)
    | some y =>
      rw [ha, hb] at h
      have h' : (if scal x y = true then some (decide (x = y)) else none) = some k := h
      split at h'
      · rename_i hc
        cases h'
        have e1 := sc_of ha r1
        have e2 := sc_of hb r2
        subst e1 e2
        exact .inl ⟨hc, q⟩
      · cases h'
theorem Dp.list_of {K : PySem.W.Frag} {F H : Hp} {xs : List D} {v : V} (hs : Sub F H) (r : RepH K F H (.lst xs) v) : Dp K H v (.list (D.pds xs)) := repH_dp hs r
theorem pds_any (a : D) : ∀ xs : List D, ((D.pds xs).any fun z => PyData.eqv z a.pd) = xs.any fun y => PyData.eqv y.pd a.pd
  | [] => rfl
  | x :: xs => by
    show (PyData.eqv x.pd a.pd || _) = _
    rw [pds_any a xs]
    rfl
theorem inL_ok {g : Gh} {F H : Hp} {e : Env} {σ : L2.St} {a b : D} {xs : List D} {dp : Bool} {k neg : Bool} {v1 v2 : V} {Q : VK} (hK : g.K = X.K) (o : Ok g F e σ H) (hb : b = .lst xs ∨ (b = .tup xs ∧ dp = false)) (r1 : RepH g.K F H a v1) (r2 : RepH g.K F H b v2)
    (h : inL a xs dp = some k) (q : Q (.bl (if neg = true then !k else k)) H) : rIn X.K neg v1 v2 H Q ∨ (if neg = true then rNotInD X.K v1 v2 H Q else rInD X.K v1 v2 H Q) := by
  have deep : (if dp = true ∧ SeqAt.shaped a.pd = true ∧ SeqAt.shaped (.list (D.pds xs)) = true then some (xs.any fun y => PyData.eqv y.pd a.pd) else none) = some k → (if neg = true then rNotInD X.K v1 v2 H Q else rInD X.K v1 v2 H Q) := fun h => by
    split at h
    · rename_i hc
      cases h
      rcases hb with rfl | ⟨_, z⟩
      · have p1 : Dp X.K H v1 a.pd := hK ▸ repH_dp o.sub r1
        have p2 : Dp X.K H v2 (.list (D.pds xs)) := hK ▸ Dp.list_of o.sub r2
        cases neg with
        | true => exact ⟨_, _, p1, p2, hc.2.1, hc.2.2, by rw [pds_any]; exact q⟩
        | false => exact ⟨_, _, p1, p2, hc.2.1, hc.2.2, by rw [pds_any]; exact q⟩
      · rw [z] at hc
        exact absurd hc.1 Bool.false_ne_true
    · cases h
  unfold inL at h
  cases ha : a.sc with
  | none => rw [ha] at h; exact .inr (deep h)
  | some x =>
    rw [ha] at h
    have h' : (if xs.all (fun y => y.sc.isSome) = true then some (xs.any fun y => PyData.eqv y.pd a.pd)
      else if dp = true ∧ SeqAt.shaped a.pd = true ∧ SeqAt.shaped (.list (D.pds xs)) = true then some (xs.any fun y => PyData.eqv y.pd a.pd) else none) = some k := h
    split at h'
    · rename_i hc
      cases h'
      have e1 := sc_of ha r1
      subst e1
      refine .inl ?_
      rcases hb with rfl | ⟨rfl, _⟩
      · obtain ⟨p, w, rfl, t, s⟩ := r2.lst o.sub
        obtain ⟨f1, f2⟩ := flats_sc s hc
        exact ⟨p, w, rfl, .inl (SqL.of t), flat_sc ha, f1, by rw [f2 ha]; cases neg <;> exact q⟩
      · obtain ⟨p, w, rfl, t, s⟩ := r2.tup o.sub
        obtain ⟨f1, f2⟩ := flats_sc s hc
        exact ⟨p, w, rfl, .inr (hK ▸ t), flat_sc ha, f1, by rw [f2 ha]; cases neg <;> exact q⟩
    · exact .inr (deep h')
theorem cmp_ok (hu : X.A.units + 65 < cLine) (o : COp) : ∃ r : R2, OpR X (compareOp (opC o)) r ∧ ∀ {g : Gh} {F H : Hp} {e : Env} {σ : L2.St} {a b : D} {k : Bool} {v1 v2 : V} {Q : VK}, g.K = X.K → Ok g F e σ H → RepH g.K F H a v1 → RepH g.K F H b v2 → cmpD o a b = some k → Q (.bl k) H → r v1 v2 H Q := by
  cases o with
  | eq => exact ⟨_, op_eq.or (op_eqD (by omega)), fun hK k r1 r2 h q => eqD_ok hK k r1 r2 h q⟩
  | ne =>
    refine ⟨_, op_ne.or (op_neD (by omega)), fun {g F H e σ a b c v1 v2 Q} hK k r1 r2 h q => ?_⟩
    have h' : (eqD a b).map (!·) = some c := h
    cases he : eqD a b with
    | none => rw [he] at h'; cases h'
    | some z =>
      rw [he] at h'
      cases h'
      exact neD_ok hK k r1 r2 he q
  | lt =>
    refine ⟨_, op_lt.or op_lt_str, fun {g F H e σ a b c v1 v2 Q} hK k r1 r2 h q => ?_⟩
    cases a <;> cases b <;> first
      | (exfalso; exact Option.noConfusion rfl (heq_of_eq h))
      | skip
    · cases r1.int; cases r2.int; cases h
      exact .inl ⟨_, _, rfl, rfl, q⟩
    · cases r1.str; cases r2.str; cases h
      exact .inr ⟨_, _, rfl, rfl, q⟩
  | le =>
    refine ⟨_, op_le, fun {g F H e σ a b c v1 v2 Q} hK k r1 r2 h q => ?_⟩
    cases a <;> cases b <;> first
      | (exfalso; exact Option.noConfusion rfl (heq_of_eq h))
      | skip
    cases r1.int; cases r2.int; cases h
    exact ⟨_, _, rfl, rfl, q⟩
  | gt =>
    refine ⟨_, op_gt, fun {g F H e σ a b c v1 v2 Q} hK k r1 r2 h q => ?_⟩
    cases a <;> cases b <;> first
      | (exfalso; exact Option.noConfusion rfl (heq_of_eq h))
      | skip
    cases r1.int; cases r2.int; cases h
    exact ⟨_, _, rfl, rfl, q⟩
  | ge =>
    refine ⟨_, op_ge, fun {g F H e σ a b c v1 v2 Q} hK k r1 r2 h q => ?_⟩
    cases a <;> cases b <;> first
      | (exfalso; exact Option.noConfusion rfl (heq_of_eq h))
      | skip
    cases r1.int; cases r2.int; cases h
    exact ⟨_, _, rfl, rfl, q⟩
  | isin =>
    refine ⟨_, op_in_str.or (op_in_seq.or (op_inD (by omega))), fun {g F H e σ a b c v1 v2 Q} hK k r1 r2 h q => ?_⟩
    have h' : inD a b = some c := h
    cases b with
    | str y =>
      cases a with
      | str x =>
        cases r1.str; cases r2.str; cases h'
        exact .inl ⟨_, _, rfl, rfl, q⟩
      | _ => cases h'
    | lst xs => exact .inr (inL_ok (neg := false) hK k (.inl rfl) r1 r2 h' q)
    | tup xs => exact .inr (inL_ok (neg := false) hK k (.inr ⟨rfl, rfl⟩) r1 r2 h' q)
    | _ => cases h'
  | notin =>
    refine ⟨_, op_notin_str.or (op_notIn_seq.or (op_notInD (by omega))), fun {g F H e σ a b c v1 v2 Q} hK k r1 r2 h q => ?_⟩
    have h' : (inD a b).map (!·) = some c := h
    cases he : inD a b with
    | none => rw [he] at h'; cases h'
    | some z =>
      rw [he] at h'
      cases h'
      have he' := he
      cases b with
      | str y =>
        cases a with
        | str x =>
          cases r1.str; cases r2.str; cases he
          exact .inl ⟨_, _, rfl, rfl, q⟩
        | _ => cases he
      | lst xs => exact .inr (inL_ok (neg := true) hK k (.inl rfl) r1 r2 he q)
      | tup xs => exact .inr (inL_ok (neg := true) hK k (.inr ⟨rfl, rfl⟩) r1 r2 he q)
      | _ => cases he
/-- truth -/
theorem tru_of {g : Gh} {F H : Hp} {e : Env} {σ : L2.St} {d : D} {k : Bool} {v : V} (hK : g.K = X.K) (o : Ok g F e σ H) (r : RepH g.K F H d v) (h : truD d = some k) : TruV X.K v H k := by
  cases d with
  | non => cases r.non; cases h; rfl
  | bl b => cases r.bl; cases h; rfl
  | int i => cases r.int; cases h; rfl
  | str x =>
    cases r.str
    have h' : (if x.length ≤ sizeLine then some ((x.length : Int) != 0) else none) = some k := h
    split at h'
    · cases h'; exact ⟨by assumption, rfl⟩
    · cases h'
  | tup xs =>
    obtain ⟨p, w, rfl, t, s⟩ := r.tup o.sub
    cases h
    exact .inr (.inl ⟨w, hK ▸ t, by cases s <;> rfl⟩)
  | lst xs =>
    obtain ⟨p, w, rfl, t, s⟩ := r.lst o.sub
    cases h
    exact .inl ⟨w, SqL.of t, by cases s <;> rfl⟩
  | arg xs => cases h
/-- is None, is True, is False -/
theorem op_isB {b : Bool} : OpR X (compareOp .Is) (fun x y H Q => y = .bl b ∧ Q (.bl (decide (x = .bl b))) H) := by
  (intro pins s σ H x y v u Q I rx ry h)
  obtain ⟨rfl, q⟩ := h
  (cases (show u = Value.bool b from ry))
  by_cases e : x = .bl b
  · subst e
    cases (show v = Value.bool b from rx)
    exact wpAny_is_self rfl ⟨.bl _, H, I, rfl, by rw [decide_eq_true rfl] at q; exact q⟩
  · rw [decide_eq_false e] at q
    have ne : v ≠ Value.bool b := fun z => e ((RelV.inj rx (by rw [z]; exact rfl)))
    have pl : plainIs v (Value.bool b) = true := by
      cases x with
      | non => cases rx; rfl
      | bl _ => cases rx; rfl
      | int _ => obtain ⟨t, rfl⟩ := rx; rfl
      | str _ => obtain ⟨t, rfl⟩ := rx; rfl
      | byt _ => obtain ⟨t, rfl⟩ := rx; rfl
      | flt _ => obtain ⟨t, rfl⟩ := rx; rfl
      | ref _ => cases rx; rfl
      | ty _ => cases rx; rfl
    exact wpAny_is_other pl ne ⟨.bl _, H, I, rfl, q⟩
theorem op_isnotB {b : Bool} : OpR X (compareOp .IsNot) (fun x y H Q => y = .bl b ∧ Q (.bl (!decide (x = .bl b))) H) := by
  (intro pins s σ H x y v u Q I rx ry h)
  obtain ⟨rfl, q⟩ := h
  (cases (show u = Value.bool b from ry))
  by_cases e : x = .bl b
  · subst e
    cases (show v = Value.bool b from rx)
    exact wpAny_isNot_self rfl ⟨.bl _, H, I, rfl, by rw [decide_eq_true rfl] at q; exact q⟩
  · rw [decide_eq_false e] at q
    have ne : v ≠ Value.bool b := fun z => e ((RelV.inj rx (by rw [z]; exact rfl)))
    have pl : plainIs v (Value.bool b) = true := by
      cases x with
      | non => cases rx; rfl
      | bl _ => cases rx; rfl
      | int _ => obtain ⟨t, rfl⟩ := rx; rfl
      | str _ => obtain ⟨t, rfl⟩ := rx; rfl
      | byt _ => obtain ⟨t, rfl⟩ := rx; rfl
      | flt _ => obtain ⟨t, rfl⟩ := rx; rfl
      | ref _ => cases rx; rfl
      | ty _ => cases rx; rfl
    exact wpAny_isNot_other pl ne ⟨.bl _, H, I, rfl, q⟩
def konV : Kon → V
  | .non => .non
  | .tru => .bl true
  | .fls => .bl false
theorem isD_ok {g : Gh} {F H : Hp} {d : D} {k : Kon} {b : Bool} {v : V} (r : RepH g.K F H d v) (h : isD k d = some b) : decide (v = konV k) = b := by
  cases d with
  | non => cases r.non; cases k <;> (cases h; rfl)
  | bl c =>
    cases r.bl
    cases k with
    | non => cases h; rfl
    | tru =>
      have h' : some c = some b := h
      injection h' with h'
      subst h'
      cases c <;> rfl
    | fls =>
      have h' : some (!c) = some b := h
      cases h'
      cases c <;> rfl
  | int i => cases r.int; cases k <;> (cases h; rfl)
  | str x => cases r.str; cases k <;> (cases h; rfl)
  | tup xs =>
    have : ∃ a, v = .ref a := by
      cases r with
      | fz r => cases r; exact ⟨_, rfl⟩
    obtain ⟨a, rfl⟩ := this
    cases k <;> (cases h; rfl)
  | arg xs =>
    have : ∃ a, v = .ref a := by
      cases r with
      | fz r => cases r; exact ⟨_, rfl⟩
    obtain ⟨a, rfl⟩ := this
    cases k <;> (cases h; rfl)
  | lst xs =>
    have : ∃ a, v = .ref a := by
      cases r with
      | fz r => cases r; exact ⟨_, rfl⟩
      | ow _ _ => exact ⟨_, rfl⟩
    obtain ⟨a, rfl⟩ := this
    cases k <;> (cases h; rfl)
theorem is_ok (n : Bool) (k : Kon) : ∃ r : R2, OpR X (compareOp (if n = true then .IsNot else .Is)) r ∧ ∀ {g : Gh} {F H : Hp} {d : D} {b : Bool} {v : V} {Q : VK}, RepH g.K F H d v → isD k d = some b → Q (.bl (if n = true then !b else b)) H → r v (konV k) H Q := by
  cases n with
  | false =>
    cases k with
    | non => exact ⟨_, op_isN, fun r h q => ⟨rfl, by have := isD_ok r h; rw [show (decide (_ = V.non)) = _ from this]; exact q⟩⟩
    | tru => exact ⟨_, op_isB (b := true), fun r h q => ⟨rfl, by have := isD_ok r h; rw [show (decide (_ = V.bl true)) = _ from this]; exact q⟩⟩
    | fls => exact ⟨_, op_isB (b := false), fun r h q => ⟨rfl, by have := isD_ok r h; rw [show (decide (_ = V.bl false)) = _ from this]; exact q⟩⟩
  | true =>
    cases k with
    | non => exact ⟨_, op_notN, fun r h q => ⟨rfl, by have := isD_ok r h; rw [show (decide (_ = V.non)) = _ from this]; exact q⟩⟩
    | tru => exact ⟨_, op_isnotB (b := true), fun r h q => ⟨rfl, by have := isD_ok r h; rw [show (decide (_ = V.bl true)) = _ from this]; exact q⟩⟩
    | fls => exact ⟨_, op_isnotB (b := false), fun r h q => ⟨rfl, by have := isD_ok r h; rw [show (decide (_ = V.bl false)) = _ from this]; exact q⟩⟩
end
end PL
namespace PL
open L2 PySem PyProof.Rows PySem.Spec
section
variable {X : Cx}
theorem atI_reps {K : PySem.W.Frag} {F : Hp} {xs : List D} {ws : List V} {k : Int} {d : D} (r : Reps K F xs ws) (h : atI xs k = some d) : ∃ v, atI ws k = some v ∧ Rep K F d v := by
  unfold atI at h ⊢
  rw [← r.length]
  cases q : ixN xs.length k with
  | none => rw [q] at h; cases h
  | some j =>
    rw [q] at h
    exact r.get h
theorem sub_ok {g : Gh} {F H : Hp} {e : Env} {σ : L2.St} {a i d : D} {v1 v2 : V} {Q : VK} (hK : g.K = X.K) (k : Ok g F e σ H) (r1 : RepH g.K F H a v1) (r2 : RepH g.K F H i v2) (h : subD a i = some d) (q : Wants g F e σ (.v d) Q) : rIx X.K v1 v2 H Q := by
  cases i with
  | int j =>
    cases r2.int
    cases a with
    | lst xs =>
      obtain ⟨p, w, rfl, t, s⟩ := r1.lst k.sub
      obtain ⟨v, h1, h2⟩ := atI_reps s h
      exact .inl ⟨p, w, j, v, rfl, rfl, SqL.of t, h1, want_v k q h2⟩
    | tup xs =>
      obtain ⟨p, w, rfl, t, s⟩ := r1.tup k.sub
      obtain ⟨v, h1, h2⟩ := atI_reps s h
      exact .inr (.inl ⟨p, w, j, v, rfl, rfl, hK ▸ t, h1, want_v k q h2⟩)
    | str z =>
      cases r1.str
      have h' : (if z.length ≤ sizeLine then (atI z.cps.toList j).map fun c => D.str ⟨#[c]⟩ else none) = some d := h
      split at h'
      · rename_i hz
        cases hc : atI z.cps.toList j with
        | none => rw [hc] at h'; cases h'
        | some c =>
          rw [hc] at h'
          cases h'
          exact .inr (.inr ⟨z, j, c, rfl, rfl, hz, hc, want_v k q (.str _)⟩)
      · cases h'
    | _ => cases h
  | _ => cases h
theorem cut_reps {K : PySem.W.Frag} {F : Hp} {xs : List D} {ws : List V} (r : Reps K F xs ws) (lo hi : Option Int) : Reps K F (cutD xs lo hi) (cutV ws lo hi) := by
  unfold cutD cutV
  rw [← r.length]
  exact (r.drop _).take _
def rSl (K : PySem.W.Frag) : V → Option Int → Option Int → Hp → VK → Prop := fun x lo hi H Q => rSlL K x lo hi H Q ∨ rSlA K x lo hi H Q ∨ rSlS x lo hi H Q
theorem sl_any : SlR X (rSl X.K) := sl_list.or (sl_tupA.or sl_str)
theorem sli_ok {g : Gh} {F H : Hp} {e : Env} {σ : L2.St} {a : D} {c : Opd} {lo hi : Option Int} {v : V} {Q : VK} (hK : g.K = X.K) (k : Ok g F e σ H) (r : RepH g.K F H a v) (h : sliD a lo hi = some c) (q : Wants g F e σ c Q) : rSl X.K v lo hi H Q := by
  cases a with
  | lst xs =>
    cases h
    obtain ⟨p, w, rfl, t, s⟩ := r.lst k.sub
    exact .inl ⟨p, w, rfl, SqL.of t, fun p hp => want_lst k (cut_reps s lo hi) q hp⟩
  | arg xs =>
    cases h
    obtain ⟨p, w, rfl, t, s⟩ := r.arg k.sub
    exact .inl ⟨p, w, rfl, hK ▸ t, fun p hp => want_lst k (cut_reps s lo hi) q hp⟩
  | tup xs =>
    cases h
    obtain ⟨p, w, rfl, t, s⟩ := r.tup k.sub
    have hl := s.length
    refine .inr (.inl ⟨p, w, rfl, hK ▸ t, fun hw => ?_, fun _ p hp => want_tup k (cut_reps s lo hi) q hp⟩)
    have : cutD xs lo hi = xs := by
      unfold cutD
      rw [hl, hw.1, hw.2, ← hl, List.drop_zero, Nat.sub_zero, List.take_length]
    rw [this] at q
    cases r with
    | fz r => exact want_v k q r
  | str z =>
    cases r.str
    have h' : (if z.length ≤ sizeLine then some (Opd.v (.str (cutS z lo hi))) else none) = some c := h
    split at h'
    · rename_i hz
      cases h'
      exact .inr (.inr ⟨z, rfl, hz, want_v k q (.str _)⟩)
    · cases h'
  | _ => cases h
theorem rev_ok {g : Gh} {F H : Hp} {e : Env} {σ : L2.St} {a : D} {c : Opd} {v : V} {Q : VK} (k : Ok g F e σ H) (r : RepH g.K F H a v) (h : revD a = some c) (q : Wants g F e σ c Q) :
    ∃ a xs, v = .ref a ∧ SqL X.K H a xs ∧ ∀ p, H p = none → Q (.ref p) (upd H p (.lst xs.reverse)) := by
  cases a with
  | lst xs =>
    cases h
    obtain ⟨p, w, rfl, t, s⟩ := r.lst k.sub
    exact ⟨p, w, rfl, SqL.of t, fun p hp => want_lst k s.reverse q hp⟩
  | _ => cases h
/-- several operands that were read -/
inductive RepHs (K : PySem.W.Frag) (F H : Hp) : List D → List V → Prop
  | nil : RepHs K F H [] []
  | cons {d : D} {v : V} {ds : List D} {vs : List V} : RepH K F H d v → RepHs K F H ds vs → RepHs K F H (d :: ds) (v :: vs)
/-! ### built-in functions and classes -/
def bltK : Blt → Str × Value
  | .len => ("len", .builtin "len")
  | .int => ("int", .type "int")
  | .list => ("list", .type "list")
  | .tuple => ("tuple", .type "tuple")
theorem blt_ok (f : Blt) : ∃ r, CallR X (bltK f).2 r ∧ ∀ {g : Gh} {F H : Hp} {e : Env} {σ : L2.St} {ds : List D} {c : Opd} {vs : List V} {Q : VK}, g.K = X.K → Ok g F e σ H → RepHs g.K F H ds vs → bltD f ds = some c → Wants g F e σ c Q → r vs H Q := by
  cases f with
  | len =>
    refine ⟨_, (show CallR X (.builtin "len") _ from call_len_seq).or call_len_str, fun {g F H e σ ds c vs Q} hK k r h q => ?_⟩
    cases r with
    | nil => cases h
    | cons r rr =>
      cases rr with
      | cons r2 rr => rename_i d _ _ _ _ _; cases d <;> cases h
      | nil =>
        rename_i d v
        cases d with
        | str z =>
          cases r.str
          have h' : (if z.length ≤ sizeLine then some (Opd.v (.int z.length)) else none) = some c := h
          split at h'
          · rename_i hz
            cases h'
            exact .inr ⟨z, rfl, hz, want_v k q (.int _)⟩
          · cases h'
        | lst xs =>
          cases h
          obtain ⟨p, w, rfl, t, s⟩ := r.lst k.sub
          exact .inl ⟨p, w, rfl, .inl (SqL.of t), by rw [← s.length]; exact want_v k q (.int _)⟩
        | tup xs =>
          cases h
          obtain ⟨p, w, rfl, t, s⟩ := r.tup k.sub
          exact .inl ⟨p, w, rfl, .inr (hK ▸ t), by rw [← s.length]; exact want_v k q (.int _)⟩
        | _ => cases h
  | int =>
    refine ⟨_, call_int1, fun {g F H e σ ds c vs Q} hK k r h q => ?_⟩
    cases r with
    | nil => cases h
    | cons r rr =>
      cases rr with
      | cons r2 rr => rename_i d _ _ _ _ _; cases d <;> cases h
      | nil =>
        rename_i d v
        cases d with
        | int i => cases r.int; cases h; exact .inl ⟨i, rfl, want_v k q (.int _)⟩
        | _ => cases h
  | list =>
    refine ⟨_, call_list_of, fun {g F H e σ ds c vs Q} hK k r h q => ?_⟩
    cases r with
    | nil => cases h
    | cons r rr =>
      cases rr with
      | cons r2 rr => rename_i d _ _ _ _ _; cases d <;> cases h
      | nil =>
        rename_i d v
        cases d with
        | lst xs =>
          cases h
          obtain ⟨p, w, rfl, t, s⟩ := r.lst k.sub
          exact ⟨p, w, rfl, .inl (SqL.of t), fun l hl => want_lst k s q hl⟩
        | tup xs =>
          cases h
          obtain ⟨p, w, rfl, t, s⟩ := r.tup k.sub
          exact ⟨p, w, rfl, .inr (hK ▸ t), fun l hl => want_lst k s q hl⟩
        | _ => cases h
  | tuple =>
    refine ⟨_, call_tuple_of, fun {g F H e σ ds c vs Q} hK k r h q => ?_⟩
    cases r with
    | nil => cases h
    | cons r rr =>
      cases rr with
      | cons r2 rr => rename_i d _ _ _ _ _; cases d <;> cases h
      | nil =>
        rename_i d v
        cases d with
        | lst xs =>
          cases h
          obtain ⟨p, w, rfl, t, s⟩ := r.lst k.sub
          exact ⟨p, w, rfl, .inl ⟨SqL.of t, fun l hl => want_tup k s q hl⟩⟩
        | tup xs =>
          cases h
          have r' := r
          obtain ⟨p, w, rfl, t, s⟩ := r'.tup k.sub
          refine ⟨p, w, rfl, .inr ⟨hK ▸ t, ?_⟩⟩
          cases r with
          | fz r => exact want_v k q r
        | _ => cases h
/-! ### methods of texts -/
structure MthK where
  name : Str
  id : String
  args : Nat
def mthK : Mth → MthK
  | .strip => ⟨"strip", "str.strip", 1⟩
  | .upper => ⟨"upper", "str.upper", 0⟩
  | .count => ⟨"count", "str.count", 1⟩
  | .find => ⟨"find", "str.find", 1⟩
theorem mth_slot (m : Mth) : PlainAttrs "str" ∧ PySem.Slot "str" (mthK m).name (mthK m).id ∧ typeOf (.builtin (mthK m).id) = pure (.type "method_descriptor") := by
  cases m with
  | strip => exact ⟨PySem.F.plainAttrs_str, PySem.F.slot_str_strip, PySem.F.type_str_strip⟩
  | upper => exact ⟨PySem.F.plainAttrs_str, PySem.F.slot_str_upper, PySem.F.type_str_upper⟩
  | count => exact ⟨PySem.F.plainAttrs_str, PySem.F.slot_str_count, PySem.F.type_str_count⟩
  | find => exact ⟨PySem.F.plainAttrs_str, PySem.F.slot_str_find, PySem.F.type_str_find⟩
theorem mth_ok (m : Mth) : ∃ r, MtR X (mthK m).id r ∧ ∀ {g : Gh} {F H : Hp} {e : Env} {σ : L2.St} {a : D} {ds : List D} {c : Opd} {v : V} {vs : List V} {Q : VK}, Ok g F e σ H → RepH g.K F H a v → RepHs g.K F H ds vs → mthD m a ds = some c → Wants g F e σ c Q → (∃ x, v = .str x) ∧ r v vs H Q := by
  cases m with
  | strip =>
    refine ⟨_, mt_stripChars, fun {g F H e σ a ds c v vs Q} k ra r h q => ?_⟩
    cases a with
    | str x =>
      cases r with
      | nil => cases h
      | cons r rr =>
        cases rr with
        | cons r2 rr => rename_i d _ _ _ _ _; cases d <;> cases h
        | nil =>
          rename_i d v
          cases d with
          | str y =>
            cases ra.str; cases r.str
            have h' : (if x.length ≤ sizeLine then some (Opd.v (.str (Txt.stripChars x y))) else none) = some c := h
            split at h'
            · rename_i hz
              cases h'
              exact ⟨⟨x, rfl⟩, x, y, rfl, rfl, hz, want_v k q (.str _)⟩
            · cases h'
          | _ => cases h
    | _ => cases h
  | upper =>
    refine ⟨_, mt_upper, fun {g F H e σ a ds c v vs Q} k ra r h q => ?_⟩
    cases a with
    | str x =>
      cases r with
      | cons r rr => cases h
      | nil =>
        cases ra.str
        have h' : (if x.length ≤ 5592405 then some (Opd.v (.str (Txt.upper x))) else none) = some c := h
        split at h'
        · rename_i hz
          cases h'
          exact ⟨⟨x, rfl⟩, x, rfl, rfl, hz, want_v k q (.str _)⟩
        · cases h'
    | _ => cases r <;> cases h
  | count =>
    refine ⟨_, mt_count, fun {g F H e σ a ds c v vs Q} k ra r h q => ?_⟩
    cases a with
    | str x =>
      cases r with
      | nil => cases h
      | cons r rr =>
        cases rr with
        | cons r2 rr => rename_i d _ _ _ _ _; cases d <;> cases h
        | nil =>
          rename_i d v
          cases d with
          | str y =>
            cases ra.str; cases r.str
            cases h
            exact ⟨⟨x, rfl⟩, x, y, rfl, rfl, want_v k q (.int _)⟩
          | _ => cases h
    | _ => cases h
  | find =>
    refine ⟨_, mt_find, fun {g F H e σ a ds c v vs Q} k ra r h q => ?_⟩
    cases a with
    | str x =>
      cases r with
      | nil => cases h
      | cons r rr =>
        cases rr with
        | cons r2 rr => rename_i d _ _ _ _ _; cases d <;> cases h
        | nil =>
          rename_i d v
          cases d with
          | str y =>
            cases ra.str; cases r.str
            cases h
            exact ⟨⟨x, rfl⟩, x, y, rfl, rfl, want_v k q (.int _)⟩
          | _ => cases h
    | _ => cases h
/-! ### isinstance -/
def tyN : Ty → String
  | .int => "int"
  | .str => "str"
  | .list => "list"
  | .tuple => "tuple"
  | .bool => "bool"
theorem isi_ok {g : Gh} {F H : Hp} {e : Env} {σ : L2.St} {d : D} {t : Ty} {v : V} {Q : VK} (hK : g.K = X.K) (k : Ok g F e σ H) (r : RepH g.K F H d v) (q : Q (.bl (isiD t d)) H) : rIsi X.K [v, .ty (tyN t)] H Q := by
  have fin : ∀ {n : String}, TyX X.K H v (.type n) → kitB n (tyN t) = some (isiD t d) → rIsi X.K [v, .ty (tyN t)] H Q := fun {n} ty hk =>
    ⟨v, .ty (tyN t), .type n, .type (tyN t), isiD t d, rfl, .ty _, ty, kit_ty hk, q⟩
  cases d with
  | non => cases r.non; exact fin (.base .non) (by cases t <;> decide +kernel)
  | bl b => cases r.bl; exact fin (.base (.bl b)) (by
      have h : kitB "bool" (tyN t) = some (isiD t (.bl true)) := by cases t <;> decide +kernel
      rw [h]
      cases t <;> rfl)
  | int i => cases r.int; exact fin (.base (.int i)) (by
      have h : kitB "int" (tyN t) = some (isiD t (.int 0)) := by cases t <;> decide +kernel
      rw [h]
      cases t <;> rfl)
  | str x => cases r.str; exact fin (.base (.str x)) (by
      have h : kitB "str" (tyN t) = some (isiD t (.str Str.empty)) := by cases t <;> decide +kernel
      rw [h]
      cases t <;> rfl)
  | lst xs =>
    obtain ⟨p, w, rfl, t', s⟩ := r.lst k.sub
    exact fin (n := "list") (.base (.lst t')) (by
      have h : kitB "list" (tyN t) = some (isiD t (.lst [])) := by cases t <;> decide +kernel
      rw [h]
      cases t <;> rfl)
  | arg xs =>
    obtain ⟨p, w, rfl, t', s⟩ := r.arg k.sub
    have e1 : kitB "list" (tyN t) = some (isiD t (.arg xs)) := (by
      have h : kitB "list" (tyN t) = some (isiD t (.arg [])) := by cases t <;> decide +kernel
      rw [h]
      cases t <;> rfl)
    rcases t' with (t' | ⟨o, t'⟩) | ⟨o, its, n, h1, h2, _⟩
    · exact fin (n := "list") (.base (.lst t')) e1
    · exact fin (n := "list") (.base (.frz t')) e1
    · exact fin (n := "list") (.kList (hK ▸ h1) h2) e1
  | tup xs =>
    obtain ⟨p, w, rfl, t', s⟩ := r.tup k.sub
    have e1 : kitB "tuple" (tyN t) = some (isiD t (.tup xs)) := (by
      have h : kitB "tuple" (tyN t) = some (isiD t (.tup [])) := by cases t <;> decide +kernel
      rw [h]
      cases t <;> rfl)
    rcases t' with (t' | ⟨o, t'⟩) | ⟨o, its, n, h1, h2, _⟩
    · exact fin (n := "tuple") (.base (.tup t')) e1
    · exact fin (n := "tuple") (.fTuple t') e1
    · exact fin (n := "tuple") (.kTuple (hK ▸ h1) h2) e1
end
end PL
namespace PL
open L2 PySem PyProof.Rows PySem.Spec
/-! ## from the text to the syntax of the layer -/
structure Sc where
  N : List Str
  sc : Scope
  /-- a def: its cells may be stored -/
  df : Bool
  /-- names that no module statement binds -/
  free : Str → Bool
  /-- constants of the module -/
  gc : Str → Bool
  /-- the program's defs, by name, number of positional arguments, keywords: what is changed in place, where the parameters come from -/
  sh : Str → Nat → List Str → Option (List Bool × List Src)
def isStar : Expr → Bool
  | .Starred _ _ => true
  | _ => false
def seen (S : Sc) (x : Str) : Bool := (S.sc.names.lookup x == some .local || S.sc.names.lookup x == some .cell || S.sc.names.lookup x == some .free) && !(x == ("__debug__" : Str)) && !(x == ("__classdict__" : Str))
def glob (S : Sc) (x : Str) : Bool := S.sc.names.lookup x == some .globalImplicit && !(x == ("__debug__" : Str)) && !(x == ("__name__" : Str))
def idx (N : List Str) (x : Str) : Option Nat := match N with
  | [] => none
  | y :: r => if (y == x) = true then some 0 else (idx r x).map (· + 1)
def cB : Operator → Option BOp
  | .Add => some .add
  | .Sub => some .sub
  | .Mult => some .mul
  | .FloorDiv => some .fdiv
  | .Mod => some .mod
  | .Pow => some .pow
  | _ => none
def cC : CmpOp → Option COp
  | .Eq => some .eq
  | .NotEq => some .ne
  | .Lt => some .lt
  | .LtE => some .le
  | .Gt => some .gt
  | .GtE => some .ge
  | .In => some .isin
  | .NotIn => some .notin
  | _ => none
def cK : Expr → Option Kon
  | .Constant .none _ _ => some .non
  | .Constant (.bool true) _ _ => some .tru
  | .Constant (.bool false) _ _ => some .fls
  | _ => none
def cBlt (x : Str) : Option Blt := if (x == ("len" : Str)) = true then some .len else if (x == ("int" : Str)) = true then some .int else if (x == ("list" : Str)) = true then some .list else if (x == ("tuple" : Str)) = true then some .tuple else none
def cTy (x : Str) : Option Ty := if (x == ("int" : Str)) = true then some .int else if (x == ("str" : Str)) = true then some .str else if (x == ("list" : Str)) = true then some .list else if (x == ("tuple" : Str)) = true then some .tuple else if (x == ("bool" : Str)) = true then some .bool else none
def cMth (x : Str) (n : Nat) : Option Mth := if (x == ("strip" : Str)) = true ∧ n = 1 then some .strip else if (x == ("upper" : Str)) = true ∧ n = 0 then some .upper else if (x == ("count" : Str)) = true ∧ n = 1 then some .count else if (x == ("find" : Str)) = true ∧ n = 1 then some .find else none
def cEs (f : Expr → Option Ex) : List Expr → Option Ex
  | [] => some .nil
  | e :: es => if isStar e = true then none else (f e).bind fun a => (cEs f es).map fun r => .cons a r
def cKs (f : Expr → Option Ex) : List Keyword → Option (Ex × List Str)
  | [] => some (.nil, [])
  | ⟨some x, e, _⟩ :: ks => (f e).bind fun a => (cKs f ks).map fun r => (.cons a r.1, x :: r.2)
  | ⟨none, _, _⟩ :: _ => none
def cBool (f : Expr → Option Ex) (and : Bool) : List Expr → Option Ex
  | [] => none
  | [e] => f e
  | e :: es => (f e).bind fun a => (cBool f and es).map fun r => if and = true then .and a r else .or a r
/-- names that are stored -/
def cName (S : Sc) (x : Str) : Option Nat := if (S.sc.names.lookup x == some .local || (S.df && S.sc.names.lookup x == some .cell)) = true then idx S.N x else none
def cNames (S : Sc) : List Expr → Option (List Nat)
  | [] => some []
  | .Name x _ :: es => (cName S x).bind fun i => (cNames S es).map fun r => i :: r
  | _ => none
def cTg (S : Sc) : Expr → Option (List Nat)
  | .Name x _ => (cName S x).map fun i => [i]
  | .Tuple es _ _ => if 2 ≤ es.length then cNames S es else none
  | _ => none
def tgNames : Expr → List Str
  | .Name x _ => [x]
  | .Tuple es _ _ => es.filterMap fun | .Name x _ => some x | _ => none
  | _ => []
def isOne : Expr → Bool
  | .UnaryOp .USub (.Constant (.int 1) _ _) _ => true
  | _ => false
/-- a comparison -/
def cCmp (f : Expr → Option Ex) (a : Expr) (o : CmpOp) (b : Expr) : Option Ex := match o with
  | .Is => (cK b).bind fun k => (f a).map fun a => .is false k a
  | .IsNot => (cK b).bind fun k => (f a).map fun a => .is true k a
  | o => (cC o).bind fun o => (f a).bind fun a => (f b).map fun b => .cmp o a b
def cChn (f : Expr → Option Ex) (a : Expr) (o p : CmpOp) (b c : Expr) : Option Ex := (cC o).bind fun o => (cC p).bind fun p => (f a).bind fun a => (f b).bind fun b => (f c).map fun c => .chain o p a b c
/-- f(): what stands ahead of a method's name is none of these -/
def isC0 : Expr → Bool
  | .Call (.Name _ _) [] [] _ => true
  | _ => false
mutual
/-- an expression's value -/
def cE : Nat → Sc → Expr → Option Ex
  | 0, _, _ => none
  | n + 1, S, e => match e with
    | .Name x _ => if seen S x = true then (idx S.N x).map .var else if (glob S x && S.gc x) = true then some (.gl x) else none
    | .Constant (.int i) _ _ => (some (.int i))
    | .Constant (.str s) _ _ => some (.str s)
    | .Constant (.bool b) _ _ => some (.bl b)
    | .Constant .none _ _ => some .non
    | .BinOp a o b _ => (cB o).bind fun o => (cE n S a).bind fun a => (cE n S b).map fun b => .bin o a b
    | .UnaryOp .USub a _ => (cE n S a).map .neg
    | .UnaryOp .Not a _ => (cE n S a).map .not
    | .BoolOp .And es _ => cBool (cE n S) true es
    | .BoolOp .Or es _ => cBool (cE n S) false es
    | .IfExp c a b _ => (cT n S c).bind fun c => (cE n S a).bind fun a => (cE n S b).map fun b => .ite c a b
    | .Compare a [o] [b] _ => cCmp (cE n S) a o b
    | .Compare a [o, p] [b, c] _ => cChn (cE n S) a o p b c
    | .Tuple es _ _ => (cEs (cE n S) es).map .tup
    | .List es _ => (cEs (cE n S) es).map .lst
    | .Subscript a (.Slice none none (some st) _) _ => if isOne st = true then (cE n S a).map .rev else none
    | .Subscript a (.Slice lo hi none _) _ => (cE n S a).bind fun a => (cP n S lo).bind fun l => (cP n S hi).map fun h => .sli a l h
    | .Subscript a i _ => (cE n S a).bind fun a => (cE n S i).map fun i => .sub a i
    | .Call (.Name f _) args ks _ => if glob S f = true then
        (if S.free f = true then
          (if (f == ("isinstance" : Str)) = true then match args, ks with
            | [a, .Name t _], [] => if (glob S t && S.free t) = true then (cTy t).bind fun t => (cE n S a).map fun a => .isi t a else none
            | _, _ => none
          else match args, ks with
            | a :: r, [] => (cBlt f).bind fun b => (cEs (cE n S) (a :: r)).map fun es => .blt b es
            | _, _ => none)
        else (cEs (cE n S) args).bind fun es => (cKs (cE n S) ks).bind fun ks => (S.sh f args.length ks.2).map fun q => .call f q.1 q.2 es ks.1)
      else none
    | .Call (.Attribute o m apos) args [] cpos => if (apos.endLine == cpos.line) = true ∧ args.length ≤ 3 ∧ isC0 o = false then (cMth m args.length).bind fun m => (cE n S o).bind fun o => (cEs (cE n S) args).map fun es => .mth m o es else none
    | .ListComp elt [⟨tg, it, ifs, 0⟩] scope _ =>
      let own := tgNames tg
      let S' : Sc := { S with sc := relS scope S.sc, df := false }
      (cTg S' tg).bind fun t => if blkC S.N S.sc scope (own.zip t) = true ∧ own.length = t.length then
        (cI n S it).bind fun i => (cC1 n S' ifs).bind fun c => (cE n S' elt).map fun x => .lc t i c x
      else none
    | _ => none
/-- a test -/
def cT : Nat → Sc → Expr → Option Ex
  | 0, _, _ => none
  | n + 1, S, e => match e with
    | .UnaryOp .Not a _ => (cT n S a).map .not
    | .BoolOp .And es _ => cBool (cT n S) true es
    | .BoolOp .Or es _ => cBool (cT n S) false es
    | .IfExp _ _ _ _ => none
    | .Compare a [o] [b] _ => (cCmp (cE n S) a o b).map .so
    | .Compare a [o, p] [b, c] _ => (cChn (cE n S) a o p b c).map .so
    | .Compare _ _ _ _ => none
    | e => (cE n S e).map .so
/-- a part of a slice -/
def cP : Nat → Sc → Option Expr → Option Ex
  | 0, _, _ => none
  | _ + 1, _, none => some .no
  | n + 1, S, some e => (cE n S e).map .so
/-- a comprehension's conditions -/
def cC1 : Nat → Sc → List Expr → Option Ex
  | 0, _, _ => none
  | _ + 1, _, [] => some .no
  | n + 1, S, [e] => (cT n S e).map .so
  | _ + 1, _, _ => none
/-- what is walked -/
def cI : Nat → Sc → Expr → Option Ex
  | 0, _, _ => none
  | n + 1, S, e => match e with
    | .Call (.Name f _) [a] [] _ => if (f == ("range" : Str)) = true ∧ (glob S f && S.free f) = true then (if isStar a = true then none else (cE n S a).map fun a => .rng (.int 0) a) else (cE n S e).map .seq
    | .Call (.Name f _) [a, b] [] _ => if (f == ("range" : Str)) = true ∧ (glob S f && S.free f) = true then (if (isStar a || isStar b) = true then none else (cE n S a).bind fun a => (cE n S b).map fun b => .rng a b) else (cE n S e).map .seq
    | .Set _ _ _ => none
    | e => (cE n S e).map .seq
end
end PL
namespace PL
open L2 PySem PyProof.Rows PySem.Spec
/-! ## the readings -/
theorem PE.imp {X : Cx} {e : Expr} {t t' : TE} (h : PE X e t) (i : ∀ σ H Q, t' σ H Q → t σ H Q) : PE X e t' := ⟨fun pins s σ H Q I q => h.run pins s σ H Q I (i σ H Q q)⟩
theorem PT.imp {X : Cx} {e : Expr} {t t' : TT} (h : PT X e t) (i : ∀ σ H Q, t' σ H Q → t σ H Q) : PT X e t' := ⟨fun pins s σ H Q I q => h.run pins s σ H Q I (i σ H Q q)⟩
theorem PW.imp {X : Cx} {e : Expr} {t t' : TT} (h : PW X e t) (i : ∀ σ H Q, t' σ H Q → t σ H Q) : PW X e t' := ⟨fun wh pins s σ H Q I q => h.run wh pins s σ H Q I (i σ H Q q)⟩
theorem PA.imp {X : Cx} {es : List Expr} {t t' : TA} (h : PA X es t) (i : ∀ σ H Q, t' σ H Q → t σ H Q) : PA X es t' := ⟨fun pos pins s σ H Q I q => h.run pos pins s σ H Q I (i σ H Q q)⟩
theorem PK.imp {X : Cx} {es : List Keyword} {t t' : TA} (h : PK X es t) (i : ∀ σ H Q, t' σ H Q → t σ H Q) : PK X es t' := ⟨fun pos pins s σ H Q I q => h.run pos pins s σ H Q I (i σ H Q q)⟩
theorem PO.imp {X : Cx} {e : Option Expr} {t t' : TO} (h : PO X e t) (i : ∀ σ H Q, t' σ H Q → t σ H Q) : PO X e t' := ⟨fun pins s σ H Q I q => h.run pins s σ H Q I (i σ H Q q)⟩
section
variable (Φ : Ora) (C : Str → Option Addr) (W : WX) (K : PySem.W.Frag)
/-- a run of m at some state of the frame that lies so -/
def Go {α : Type} (m : M α) (σ : L2.St) (H : Hp) (R : Gh → Hp → Env → α → Hp → Hp → Env → Prop) : Prop :=
  ∃ g F e, g.K = K ∧ g.C = C ∧ Ok g F e σ H ∧ TM g W σ (m e) fun a e' => ∀ F' H', Sub F F' → Ok g F' e' σ H' → R g F e a F' H' e'
def tEv (c : Ex) : TE := fun σ H Q => Go C W K (ev Φ c) σ H fun g _ _ o F' H' e' => ∀ v, OpOk g F' H' e' σ o v → Q v H'
def tEvT (c : Ex) : TT := fun σ H Q => Go C W K (evT Φ c) σ H fun _ _ _ b _ H' _ => Q b H'
def tEvs (c : Ex) : TA := fun σ H Q => Go C W K (evs Φ c) σ H fun g _ _ os F' H' e' => ∀ vs, OpsOk g F' H' e' σ os vs → Q vs H'
def tEvc (c : Ex) : TA := fun σ H Q => Go C W K (evc Φ c) σ H fun g _ _ ds F' H' _ => ∀ vs, Reps g.K F' ds vs → Q vs H'
def tEvP (c : Ex) : TO := fun σ H Q => Go C W K (evP Φ c) σ H fun _ _ _ o _ H' _ => Q o H'
end
section
variable {Φ : Ora} {C : Str → Option Addr} {W : WX} {K : PySem.W.Frag} {g : Gh} {F H : Hp} {e : Env} {σ : L2.St} {α : Type}
theorem rdz {o : Opd} {v : V} {d : D} {e' : Env} (k : Ok g F e σ H) (h : OpOk g F H e σ o.fz v) (q : rd o e = .ok d e') : RepH g.K F H d v := (rd_ok k h (by rw [rd_fz]; exact q)).2
/-- the first of two -/
theorem one_ok {a : Ex} {f : Opd → M α} {P : α → Env → Prop} {R : V → Hp → Prop} (hK : g.K = K) (hC : g.C = C) (k : Ok g F e σ H) (tm : TM g W σ (M.bind (ev Φ a) f e) P)
    (h : ∀ F1 H1 e1 x v, Sub F F1 → Ok g F1 e1 σ H1 → (∀ d, x.fz ≠ .n d) → OpOk g F1 H1 e1 σ x.fz v → TM g W σ (f x e1) P → R v H1) : tEv Φ C W K a σ H R := by
  refine ⟨g, F, e, hK, hC, k, (tm_bind tm).mono fun x e1 _ h1 F1 H1 hs k1 v o1 => ?_⟩
  obtain ⟨F2, s2, k2, n2, o2⟩ := fz_ok k1 o1
  exact h F2 H1 e1 x v (hs.trans s2) k2 n2 o2 h1
/-- .. where it stays as it comes -/
theorem one_raw {a : Ex} {f : Opd → M α} {P : α → Env → Prop} {R : V → Hp → Prop} (hK : g.K = K) (hC : g.C = C) (k : Ok g F e σ H) (tm : TM g W σ (M.bind (ev Φ a) f e) P)
    (h : ∀ F1 H1 e1 x v, Sub F F1 → Ok g F1 e1 σ H1 → OpOk g F1 H1 e1 σ x v → TM g W σ (f x e1) P → R v H1) : tEv Φ C W K a σ H R :=
  ⟨g, F, e, hK, hC, k, (tm_bind tm).mono fun x e1 _ h1 F1 H1 hs k1 v o1 => h F1 H1 e1 x v hs k1 o1 h1⟩
theorem two_ok {a b : Ex} {f : Opd → Opd → M α} {P : α → Env → Prop} {R : V → V → Hp → Prop} (hK : g.K = K) (hC : g.C = C) (k : Ok g F e σ H) (tm : TM g W σ (M.bind (ev Φ a) (fun x => M.bind (ev Φ b) fun y => f x y) e) P)
    (h : ∀ F2 H2 e2 x y v1 v2, Sub F F2 → Ok g F2 e2 σ H2 → OpOk g F2 H2 e2 σ x.fz v1 → OpOk g F2 H2 e2 σ y.fz v2 → TM g W σ (f x y e2) P → R v1 v2 H2) :
    tEv Φ C W K a σ H fun v1 H1 => tEv Φ C W K b σ H1 fun v2 H2 => R v1 v2 H2 :=
  one_ok hK hC k tm fun F1 H1 e1 x v1 s1 k1 n1 o1 t1 => one_ok hK hC k1 t1 fun F2 H2 e2 y v2 s2 k2 n2 o2 t2 => h F2 H2 e2 x y v1 v2 (s1.trans s2) k2 (op_move n1 o1 s2) o2 t2
end
/-! ## what stands around -/
inductive SrcV (K : PySem.W.Frag) (us ws : List Value) : List Src → List Value → Prop
  | nil : SrcV K us ws [] []
  | pos {i : Nat} {u : Value} {ss : List Src} {ds : List Value} : us[i]? = some u → SrcV K us ws ss ds → SrcV K us ws (.pos i :: ss) (u :: ds)
  | kw {i : Nat} {u : Value} {ss : List Src} {ds : List Value} : ws[i]? = some u → SrcV K us ws ss ds → SrcV K us ws (.kw i :: ss) (u :: ds)
  | dfl {d : D} {v : V} {u : Value} {ss : List Src} {ds : List Value} : Rep K (fun _ => none) d v → RelV v u → SrcV K us ws ss ds → SrcV K us ws (.dfl d :: ss) (u :: ds)
def Bnd (K : PySem.W.Frag) (fd : FuncData) (ps : List Str) (n : Nat) (ks : List Str) (src : List Src) : Prop :=
  ∀ (s : Shared) (us ws : List Value), K.In s.heap → us.length = n → ws.length = ks.length → ∃ ds, BindsTo s fd ⟨us, ks.zip ws⟩ (ps.zip ds) ∧ SrcV K us ws src ds
def CallOk (C : Str → Option Addr) (Φ : Ora) (X : Cx) (f : Str) (n : Nat) (ks : List Str) (src : List Src) : Prop :=
  ∃ fa fd ps j, X.mg f = some (.ref fa) ∧ PySem.W.keepIn X.K (.ref fa) = true ∧ Room j X.A ∧ FnOk X.prog X.w X.K X.mg X.base (L2.CX X.prog X.w) j fa fd ps (SpF X.K C (Φ.call f)) ∧ Bnd X.K fd ps n ks src
structure XOk (S : Sc) (C : Str → Option Addr) (W : WX) (Φ : Ora) (X : Cx) : Prop where
  N : X.N = S.N
  nd : S.N.Nodup
  sc : X.env.scope = S.sc
  calm : X.calm = true
  units : X.A.units + 65 < cLine
  tk : Takes X W
  po : PassesOwn (model X.prog X.w) X.A X.env X.xe
  cell : S.df = true → ∀ x, X.fn x = true
  fr : ∀ x, S.free x = true → X.mg x = none
  gc : ∀ x, S.gc x = true → ∃ d u v, Φ.gv x = some d ∧ X.mg x = some u ∧ RelV v u ∧ Rep X.K (fun _ => none) d v
  fns : ∀ f n ks io src, S.sh f n ks = some (io, src) → CallOk C Φ X f n ks src
theorem idx_at : ∀ {N : List Str} {x : Str} {i : Nat}, idx N x = some i → N[i]? = some x
  | [], _, _, h => by cases h
  | y :: r, x, i, h => by
    have h' : (if (y == x) = true then some 0 else (idx r x).map (· + 1)) = some i := h
    split at h'
    · rename_i e
      cases h'
      rw [show y = x from by simpa using e]
      rfl
    · cases q : idx r x with
      | none => rw [q] at h'; cases h'
      | some j =>
        rw [q] at h'
        cases h'
        show (y :: r)[j + 1]? = some x
        rw [List.getElem?_cons_succ]
        exact idx_at q
section
variable {S : Sc} {C : Str → Option Addr} {W : WX} {Φ : Ora} {X : Cx}
theorem XOk.at (o : XOk S C W Φ X) {x : Str} {i : Nat} (h : idx S.N x = some i) : X.N[i]? = some x := by rw [o.N]; exact idx_at h
theorem XOk.gl (o : XOk S C W Φ X) {x : Str} (h : glob S x = true) : Gl X x ∧ (x == ("__debug__" : Str)) = false ∧ x ≠ "__name__" := by
  unfold glob at h
  simp only [Bool.and_eq_true, Bool.not_eq_true', beq_iff_eq] at h
  refine ⟨?_, h.1.2, ?_⟩
  · show X.env.scope.names.lookup x = _
    rw [o.sc]
    exact h.1.1
  · intro z
    rw [z] at h
    exact absurd h.2 (by decide)
theorem XOk.vis (o : XOk S C W Φ X) {x : Str} (h : seen S x = true) : Vis X.env.scope x ∧ (x == ("__debug__" : Str)) = false ∧ (x == ("__classdict__" : Str)) = false := by
  unfold seen at h
  simp only [Bool.and_eq_true, Bool.not_eq_true', Bool.or_eq_true, beq_iff_eq] at h
  refine ⟨?_, h.1.2, h.2⟩
  rw [o.sc]
  rcases h.1.1 with (z | z) | z
  · exact .inl z
  · exact .inr (.inl z)
  · exact .inr (.inr z)
theorem cName_ok (o : XOk S C W Φ X) {x : Str} {i : Nat} (h : cName S x = some i) : X.N[i]? = some x ∧ Loc X.env.scope x ∧ (X.fn x = true ∨ X.env.scope.names.lookup x = some .local) := by
  unfold cName at h
  split at h
  · rename_i hc
    refine ⟨o.at h, ?_, ?_⟩
    · rw [o.sc]
      simp only [Bool.or_eq_true, Bool.and_eq_true, beq_iff_eq] at hc
      rcases hc with hc | hc
      · exact .inl hc
      · exact .inr hc.2
    · rw [o.sc]
      simp only [Bool.or_eq_true, Bool.and_eq_true, beq_iff_eq] at hc
      rcases hc with hc | hc
      · exact .inr hc
      · exact .inl (o.cell hc.1 x)
  · cases h
theorem star_of {e : Expr} {es : List Expr} {env : PySem.Env} (h : isStar e = false) : starEach (e :: es) env = (false, eval e env) :: starEach es env := by
  cases e <;> first | rfl | cases h
theorem plain_stars : ∀ {f : Expr → Option Ex} {es : List Expr} {c : Ex} {env : PySem.Env} {pos : Pos}, cEs f es = some c → (backTo pos (starEach es env)).any (·.1) = false
  | f, [], c, env, pos, _ => rfl
  | f, e :: es, c, env, pos, h => by
    have h' : (if isStar e = true then none else (f e).bind fun a => (cEs f es).map fun r => Ex.cons a r) = some c := h
    cases hs : isStar e with
    | true => rw [hs] at h'; cases h'
    | false =>
      rw [hs] at h'
      have h2 : ((f e).bind fun a => (cEs f es).map fun r => Ex.cons a r) = some c := h'
      obtain ⟨a, _, h3⟩ := Option.bind_eq_some_iff.mp h2
      obtain ⟨r, h4, _⟩ := Option.map_eq_some_iff.mp h3
      rw [star_of hs]
      show (false || (backTo pos (starEach es env)).any (·.1)) = false
      rw [plain_stars h4]
      rfl
theorem stars_head {f : Expr → Option Ex} {e : Expr} {es : List Expr} {c : Ex} (h : cEs f (e :: es) = some c) : isStar e = false ∧ ∃ a r, f e = some a ∧ cEs f es = some r ∧ c = .cons a r := by
  have h' : (if isStar e = true then none else (f e).bind fun a => (cEs f es).map fun r => Ex.cons a r) = some c := h
  cases hs : isStar e with
  | true => rw [hs] at h'; cases h'
  | false =>
    rw [hs] at h'
    have h2 : ((f e).bind fun a => (cEs f es).map fun r => Ex.cons a r) = some c := h'
    obtain ⟨a, h3, h4⟩ := Option.bind_eq_some_iff.mp h2
    obtain ⟨r, h5, h6⟩ := Option.map_eq_some_iff.mp h4
    exact ⟨rfl, a, r, h3, h5, h6.symm⟩
/-! ### lists of expressions -/
theorem pa_evs {f : Expr → Option Ex} (hf : ∀ e c, f e = some c → PE X e (tEv Φ C W X.K c)) : ∀ {es : List Expr} {c : Ex}, cEs f es = some c → PA X es (tEvs Φ C W X.K c)
  | [], c, h => by
    cases h
    refine PA.imp pa_nil fun σ H Q ⟨g, F, e, hK, hC, k, tm⟩ => ?_
    exact tm F H (Same.refl _) k [] ⟨rfl, fun j o v q => by simp at q⟩
  | e :: es, c, h => by
    obtain ⟨hs, a, r, h1, h2, rfl⟩ := stars_head h
    refine PA.imp (pa_cons (hf e a h1) (pa_evs hf h2) (star_of hs)) fun σ H Q ⟨g, F, e, hK, hC, k, tm⟩ => ?_
    refine one_ok hK hC k tm fun F1 H1 e1 x v s1 k1 n1 o1 t1 => ?_
    refine ⟨g, F1, e1, hK, hC, k1, (tm_bind t1).mono fun xs e2 _ t2 F2 H2 s2 k2 vs o2 => ?_⟩
    refine t2 F2 H2 (s1.trans s2) k2 (v :: vs) ⟨congrArg (· + 1) o2.1, fun j o w q1 q2 => ?_⟩
    cases j with
    | zero =>
      cases (show some x.fz = some o from q1)
      cases (show some v = some w from q2)
      exact ⟨n1, op_move n1 o1 s2⟩
    | succ j => exact o2.2 j o w q1 q2
theorem pa_evc {f : Expr → Option Ex} (hf : ∀ e c, f e = some c → PE X e (tEv Φ C W X.K c)) : ∀ {es : List Expr} {c : Ex}, cEs f es = some c → PA X es (tEvc Φ C W X.K c)
  | [], c, h => by
    cases h
    refine PA.imp pa_nil fun σ H Q ⟨g, F, e, hK, hC, k, tm⟩ => ?_
    exact tm F H (Same.refl _) k [] .nil
  | e :: es, c, h => by
    obtain ⟨hs, a, r, h1, h2, rfl⟩ := stars_head h
    refine PA.imp (pa_cons (hf e a h1) (pa_evc hf h2) (star_of hs)) fun σ H Q ⟨g, F, e, hK, hC, k, tm⟩ => ?_
    refine one_raw hK hC k tm fun F1 H1 e1 x v s1 k1 o1 t1 => ?_
    obtain ⟨d, e2, q1, t2⟩ := tm_cns (tm_bind t1)
    obtain ⟨F2, s2, k2, r2⟩ := cns_ok k1 o1 q1
    refine ⟨g, F2, e2, hK, hC, k2, (tm_bind t2).mono fun ds e3 _ t3 F3 H3 s3 k3 vs r3 => ?_⟩
    exact t3 F3 H3 ((s1.trans s2).trans s3) k3 (v :: vs) (.cons (r2.mono s3) r3)
theorem pk_evs {f : Expr → Option Ex} (hf : ∀ e c, f e = some c → PE X e (tEv Φ C W X.K c)) : ∀ {ks : List Keyword} {c : Ex × List Str}, cKs f ks = some c → PK X ks (tEvs Φ C W X.K c.1)
  | [], c, h => by
    cases h
    refine PK.imp pk_nil fun σ H Q ⟨g, F, e, hK, hC, k, tm⟩ => ?_
    exact tm F H (Same.refl _) k [] ⟨rfl, fun j o v q => by simp at q⟩
  | ⟨none, e, p⟩ :: ks, c, h => by cases h
  | ⟨some x, e, p⟩ :: ks, c, h => by
    have h' : ((f e).bind fun a => (cKs f ks).map fun r => (Ex.cons a r.1, x :: r.2)) = some c := h
    obtain ⟨a, h1, h2⟩ := Option.bind_eq_some_iff.mp h'
    obtain ⟨r, h3, rfl⟩ := Option.map_eq_some_iff.mp h2
    refine PK.imp (pk_cons (hf e a h1) (pk_evs hf h3)) fun σ H Q ⟨g, F, e, hK, hC, k, tm⟩ => ?_
    refine one_ok hK hC k tm fun F1 H1 e1 x v s1 k1 n1 o1 t1 => ?_
    refine ⟨g, F1, e1, hK, hC, k1, (tm_bind t1).mono fun xs e2 _ t2 F2 H2 s2 k2 vs o2 => ?_⟩
    refine t2 F2 H2 (s1.trans s2) k2 (v :: vs) ⟨congrArg (· + 1) o2.1, fun j o w q1 q2 => ?_⟩
    cases j with
    | zero =>
      cases (show some x.fz = some o from q1)
      cases (show some v = some w from q2)
      exact ⟨n1, op_move n1 o1 s2⟩
    | succ j => exact o2.2 j o w q1 q2
theorem ks_names : ∀ {f : Expr → Option Ex} {ks : List Keyword} {c : Ex × List Str} {env : PySem.Env} {pos : Pos}, cKs f ks = some c → (backToKw pos (keywordEach ks env)).all (·.1.isSome) = true ∧ (backToKw pos (keywordEach ks env)).filterMap (·.1) = c.2 ∧ (backToKw pos (keywordEach ks env)).any (·.1.isNone) = false
  | f, [], c, env, pos, h => by cases h; exact ⟨rfl, rfl, rfl⟩
  | f, ⟨none, e, p⟩ :: ks, c, env, pos, h => by cases h
  | f, ⟨some x, e, p⟩ :: ks, c, env, pos, h => by
    have h' : ((f e).bind fun a => (cKs f ks).map fun r => (Ex.cons a r.1, x :: r.2)) = some c := h
    obtain ⟨a, h1, h2⟩ := Option.bind_eq_some_iff.mp h'
    obtain ⟨r, h3, rfl⟩ := Option.map_eq_some_iff.mp h2
    obtain ⟨a1, a2, a3⟩ := ks_names (env := env) (pos := pos) h3
    exact ⟨a1, congrArg (x :: ·) a2, a3⟩
/-- operands that are read -/
theorem rds_ok {g : Gh} {F H : Hp} {e : Env} {σ : L2.St} {α : Type} : ∀ {os : List Opd} {vs : List V} {f : List D → M α} {P : α → Env → Prop}, Ok g F e σ H → OpsOk g F H e σ os vs → TM g W σ (M.bind (rds os) f e) P → ∃ ds, RepHs g.K F H ds vs ∧ TM g W σ (f ds e) P
  | [], vs, f, P, k, o, tm => by
    cases vs with
    | nil => exact ⟨[], .nil, tm⟩
    | cons v vs => cases o.1
  | x :: os, vs, f, P, k, o, tm => by
    cases vs with
    | nil => cases o.1
    | cons v vs =>
      have tm' := tm_bind tm
      obtain ⟨d, q1, t1⟩ := tm_rd (tm_bind (m := rd x) tm')
      have r1 := (rd_ok k (o.2 0 x v rfl rfl).2 q1).2
      have t2 := tm_bind t1
      have o2 : OpsOk g F H e σ os vs := ⟨Nat.succ.inj o.1, fun j y w q1 q2 => o.2 (j + 1) y w q1 q2⟩
      have t3 : TM g W σ (M.bind (rds os) (fun ds => f (d :: ds)) e) P := bind_tm t2
      obtain ⟨ds, r2, t4⟩ := rds_ok k o2 t3
      exact ⟨d :: ds, .cons r1 r2, t4⟩
/-- the parameters' values -/
theorem srcs_ok {K : PySem.W.Frag} {g : Gh} {F H : Hp} {e : Env} {σ : L2.St} {us ws : List Value} {vs zs : List V} {os xs : List Opd} (hK : g.K = K) (hx : OpsOk g F H e σ os vs) (hy : OpsOk g F H e σ xs zs) (ru : Vals vs us) (rw' : Vals zs ws) :
    ∀ {src : List Src} {ds : List Value} {ys : List Opd}, SrcV K us ws src ds → srcs os xs src = some ys → ∃ as, Vals as ds ∧ OpsOk g F H e σ ys as
  | _, _, ys, .nil, h => by
    cases h
    exact ⟨[], .nil, rfl, fun j o v q => by simp at q⟩
  | _, _, ys, .pos (i := i) (u := u) q s, h => by
    obtain ⟨o, h1, h2⟩ := Option.bind_eq_some_iff.mp h
    obtain ⟨r, h3, rfl⟩ := Option.map_eq_some_iff.mp h2
    obtain ⟨as, r1, r2⟩ := srcs_ok hK hx hy ru rw' s h3
    have hi : i < vs.length := by rw [ru.length]; exact (List.getElem?_eq_some_iff.mp q).1
    obtain ⟨u', q1, q2⟩ := ru.get (List.getElem?_eq_getElem hi)
    rw [q] at q1
    cases q1
    refine ⟨vs[i] :: as, .cons q2 r1, congrArg (· + 1) r2.1, fun j o' v' q1 q2 => ?_⟩
    cases j with
    | zero =>
      cases (show some o = some o' from q1)
      cases (show some vs[i] = some v' from q2)
      exact hx.2 i o _ h1 (List.getElem?_eq_getElem hi)
    | succ j => exact r2.2 j o' v' q1 q2
  | _, _, ys, .kw (i := i) (u := u) q s, h => by
    obtain ⟨o, h1, h2⟩ := Option.bind_eq_some_iff.mp h
    obtain ⟨r, h3, rfl⟩ := Option.map_eq_some_iff.mp h2
    obtain ⟨as, r1, r2⟩ := srcs_ok hK hx hy ru rw' s h3
    have hi : i < zs.length := by rw [rw'.length]; exact (List.getElem?_eq_some_iff.mp q).1
    obtain ⟨u', q1, q2⟩ := rw'.get (List.getElem?_eq_getElem hi)
    rw [q] at q1
    cases q1
    refine ⟨zs[i] :: as, .cons q2 r1, congrArg (· + 1) r2.1, fun j o' v' q1 q2 => ?_⟩
    cases j with
    | zero =>
      cases (show some o = some o' from q1)
      cases (show some zs[i] = some v' from q2)
      exact hy.2 i o _ h1 (List.getElem?_eq_getElem hi)
    | succ j => exact r2.2 j o' v' q1 q2
  | _, _, ys, .dfl (d := d) (v := v) rd rv s, h => by
    obtain ⟨r, h3, rfl⟩ := Option.map_eq_some_iff.mp h
    obtain ⟨as, r1, r2⟩ := srcs_ok hK hx hy ru rw' s h3
    refine ⟨v :: as, .cons rv r1, congrArg (· + 1) r2.1, fun j o' v' q1 q2 => ?_⟩
    cases j with
    | zero =>
      cases (show some (Opd.v d) = some o' from q1)
      cases (show some v = some v' from q2)
      exact ⟨fun _ z => (by cases z), by rw [← hK] at rd; exact rd.mono fun _ _ z => by cases z⟩
    | succ j => exact r2.2 j o' v' q1 q2
end
end PL
namespace PL
open L2 PySem PyProof.Rows PySem.Spec
section
variable {S : Sc} {C : Str → Option Addr} {W : WX} {Φ : Ora} {X : Cx}
theorem srcV_len {K : PySem.W.Frag} {us ws : List Value} : ∀ {src : List Src} {ds : List Value}, SrcV K us ws src ds → src.length = ds.length
  | _, _, .nil => rfl
  | _, _, .pos _ s => congrArg (· + 1) (srcV_len s)
  | _, _, .kw _ s => congrArg (· + 1) (srcV_len s)
  | _, _, .dfl _ _ s => congrArg (· + 1) (srcV_len s)
theorem evs_len_es {f : Expr → Option Ex} : ∀ {es : List Expr} {b : Ex} {e e2 : Env} {xs : List Opd}, cEs f es = some b → evs Φ b e = .ok xs e2 → xs.length = es.length
  | [], b, e, e2, xs, h, q => by cases h; cases q; rfl
  | ex :: es, b, e, e2, xs, h, q => by
    obtain ⟨_, a, r, h1, h3, rfl⟩ := stars_head h
    have q2 : M.bind (ev Φ a) (fun x => M.bind (evs Φ r) fun xs => M.ret (x.fz :: xs)) e = .ok xs e2 := q
    obtain ⟨x, e1, _, q3⟩ := bind_ok q2
    obtain ⟨ys, e3, q4, q5⟩ := bind_ok q3
    cases q5
    exact congrArg (· + 1) (evs_len_es h3 q4)
theorem evs_len_ks {f : Expr → Option Ex} : ∀ {ks : List Keyword} {b : Ex × List Str} {e e2 : Env} {xs : List Opd}, cKs f ks = some b → evs Φ b.1 e = .ok xs e2 → xs.length = ks.length
  | [], b, e, e2, xs, h, q => by cases h; cases q; rfl
  | ⟨none, ex, p⟩ :: ks, b, e, e2, xs, h, q => by cases h
  | ⟨some y, ex, p⟩ :: ks, b, e, e2, xs, h, q => by
    have h' : ((f ex).bind fun a => (cKs f ks).map fun r => (Ex.cons a r.1, y :: r.2)) = some b := h
    obtain ⟨a, _, h2⟩ := Option.bind_eq_some_iff.mp h'
    obtain ⟨r, h3, rfl⟩ := Option.map_eq_some_iff.mp h2
    have q2 : M.bind (ev Φ a) (fun x => M.bind (evs Φ r.1) fun xs => M.ret (x.fz :: xs)) e = .ok xs e2 := q
    obtain ⟨x, e1, _, q3⟩ := bind_ok q2
    obtain ⟨ys, e3, q4, q5⟩ := bind_ok q3
    cases q5
    exact congrArg (· + 1) (evs_len_ks h3 q4)
/-- a def of the program runs -/
theorem run_call (o : XOk S C W Φ X) {x : Str} {n : Nat} {ks : List Str} {src : List Src} {io : List Bool} {fa : Addr} {fd : FuncData} {ps : List Str} {j : Nat} (hr : Room j X.A)
    (Fk : FnOk X.prog X.w X.K X.mg X.base (L2.CX X.prog X.w) j fa fd ps (SpF X.K C (Φ.call x))) (hb : Bnd X.K fd ps n ks src)
    {pins : List (Addr × Obj)} {s : Shared} {σ : L2.St} {H F : Hp} {Q : VK} {g : Gh} {e : Env} {us ws : List Value} {vs zs : List V} {os xs : List Opd} {F0 : Hp} (hK : g.K = X.K) (hC : g.C = C) (k : Ok g F e σ H) (I : Inv X pins σ H s)
    (ru : Vals vs us) (rw' : Vals zs ws) (hu : us.length = n) (hw : ws.length = ks.length) (o1 : OpsOk g F H e σ os vs) (o2 : OpsOk g F H e σ xs zs) (s0 : Sub F0 F)
    (tm : TM g W σ (M.bind (M.lift (srcs os xs src)) (fun ys => callF Φ x io ys) e) fun o' e' => ∀ F' H', Sub F0 F' → Ok g F' e' σ H' → ∀ v, OpOk g F' H' e' σ o' v → Q v H') :
    wpAny (model X.prog X.w) X.A (call (.ref fa) us (ks.zip ws)) (EP X pins σ Q) X.xe s := by
  obtain ⟨ys, e1, t1⟩ := tm_lift (tm_bind tm)
  obtain ⟨ds, b1, b2⟩ := hb s us ws I.kIn hu hw
  obtain ⟨as, r1, r2⟩ := srcs_ok hK o1 o2 ru rw' b2 e1
  have t1' : TM g W σ (if once (slotsO ys) io ys = true then
      match argsO e io ys with
      | none => Rz.bad
      | some as => match Φ.call x as with
        | .ok true d outs => Rz.ok (Opd.n d) (back io ys outs e)
        | .ok false d outs => Rz.ok (Opd.v d) (back io ys outs e)
        | .er x outs => Rz.er x (back io ys outs e)
        | .bad => Rz.bad
      else Rz.bad) (fun o' e' => ∀ F' H', Sub F0 F' → Ok g F' e' σ H' → ∀ v, OpOk g F' H' e' σ o' v → Q v H') := t1
  cases ho : once (slotsO ys) io ys with
  | false => rw [ho] at t1'; exact t1'.elim
  | true =>
    rw [ho, if_pos rfl] at t1'
    cases ha : argsO e io ys with
    | none => rw [ha] at t1'; exact t1'.elim
    | some args =>
      rw [ha] at t1'
      have hsp : SpF X.K C (Φ.call x) as H Q (WE W σ) := by
        refine ⟨F, args, k.sub, by rw [← hK]; exact args_ok k r2 ha ho, ?_⟩
        have t2 : TM g W σ (match Φ.call x args with
          | .ok true d outs => Rz.ok (Opd.n d) (back io ys outs e)
          | .ok false d outs => Rz.ok (Opd.v d) (back io ys outs e)
          | .er x outs => Rz.er x (back io ys outs e)
          | .bad => Rz.bad) (fun o' e' => ∀ F' H', Sub F0 F' → Ok g F' e' σ H' → ∀ v, OpOk g F' H' e' σ o' v → Q v H') := t1'
        cases hc : Φ.call x args with
        | ok nw d outs =>
          rw [hc] at t2
          show ∀ F' H' v, After X.K F H F' H' args as outs → RetOk X.K F' H H' nw d v → Q v H'
          intro F' H' v af rt
          rw [← hK] at af rt
          have k2 := k.after r2 ha ho af
          have rr := ret_ok (as := args) (vs := as) (n := nw) k k2 rt
          cases nw with
          | true => exact t2 F' H' (s0.trans af.ext) k2 v rr
          | false => exact t2 F' H' (s0.trans af.ext) k2 v rr
        | er z outs =>
          rw [hc] at t2
          show ∀ F' H' cls dd, After X.K F H F' H' args as outs → ErOk X.K C F' z cls dd → W cls dd σ H'
          intro F' H' cls dd af rt
          rw [← hK] at af rt
          rw [← hC] at rt
          exact t2 F' H' cls dd (k.after r2 ha ho af) rt
        | bad => rw [hc] at t2; exact t2.elim
      refine wpAny_call (codeAny_mono (Fk.run X.A X.stack s H ⟨us, ks.zip ws⟩ ds as Q (WE W σ) hr I.env0 b1 r1 hsp) fun r s' hq => ?_)
      cases r with
      | error er => exact passAt o.tk σ pins H s er s' I hq
      | ok fl =>
        cases fl with
        | ret u => exact I.after hq
        | next => exact False.elim hq
        | brk => exact False.elim hq
        | cont => exact False.elim hq
theorem pe_callG (o : XOk S C W Φ X) {f : Expr → Option Ex} (hf : ∀ e c, f e = some c → PE X e (tEv Φ C W X.K c)) {x : Str} {p pos : Pos} {es : List Expr} {ks : List Keyword} {a : Ex} {b : Ex × List Str} {io : List Bool} {src : List Src}
    (hg : glob S x = true) (ca : cEs f es = some a) (cb : cKs f ks = some b) (hs : S.sh x es.length b.2 = some (io, src)) : PE X (.Call (.Name x p) es ks pos) (tEv Φ C W X.K (.call x io src a b.1)) := by
  obtain ⟨g1, g2, _⟩ := o.gl hg
  obtain ⟨fa, fd, ps, j, hm, hk, hr, Fk, hb⟩ := o.fns x _ _ _ _ hs
  have pa := pa_evs hf ca
  have pk := pk_evs hf cb
  refine ⟨fun pins s σ H Q I ⟨g, F, e, hK, hC, k, tm⟩ => ?_⟩
  obtain ⟨n1, n2, n3⟩ := ks_names (env := X.env) (pos := pos) cb
  have tm1 : TM g W σ (M.bind (evs Φ a) (fun os => M.bind (evs Φ b.1) fun ws => M.bind (M.lift (srcs os ws src)) fun xs => callF Φ x io xs) e) (fun (o' : Opd) (e' : Env) => ∀ F' H', Sub F F' → Ok g F' e' σ H' → ∀ v, OpOk g F' H' e' σ o' v → Q v H') := tm
  refine wpAny_Call_Name_kw (ld_glob I g1 hm ?_ g2)
  have hks : (b.2.length) = ks.length := by
    have : ∀ {ks : List Keyword} {b : Ex × List Str}, cKs f ks = some b → b.2.length = ks.length := by
      intro ks
      induction ks with
      | nil => intro b h; cases h; rfl
      | cons q ks ih =>
        intro b h
        obtain ⟨nm, ex, p⟩ := q
        cases nm with
        | none => cases h
        | some y =>
          have h' : ((f ex).bind fun a => (cKs f ks).map fun r => (Ex.cons a r.1, y :: r.2)) = some b := h
          obtain ⟨_, _, h2⟩ := Option.bind_eq_some_iff.mp h'
          obtain ⟨r, h3, rfl⟩ := Option.map_eq_some_iff.mp h2
          exact congrArg (· + 1) (ih h3)
    exact this cb
  cases es with
  | nil =>
    have ea : a = .nil := by
      have h : some Ex.nil = some a := ca
      cases h
      rfl
    subst ea
    have tm2 : TM g W σ (M.bind (evs Φ b.1) (fun ws => M.bind (M.lift (srcs [] ws src)) fun xs => callF Φ x io xs) e) (fun (o' : Opd) (e' : Env) => ∀ F' H', Sub F F' → Ok g F' e' σ H' → ∀ v, OpOk g F' H' e' σ o' v → Q v H') := tm_bind (m := evs Φ Ex.nil) tm1
    refine PySem.W.callWith_KW0 (h₀ := X.base) I.ok.mod.kin hk n1 ?_ (by rw [show (backTo pos (starEach [] X.env)).any (·.1) = false from rfl, n3]; rfl)
    refine thn (pk.run pos pins s σ H (fun zs H2 => zs.length = ks.length ∧ ∃ F2 e2 xs, Sub F F2 ∧ Ok g F2 e2 σ H2 ∧ OpsOk g F2 H2 e2 σ xs zs ∧ TM g W σ (M.bind (M.lift (srcs [] xs src)) (fun xs => callF Φ x io xs) e2) (fun (o' : Opd) (e' : Env) => ∀ F' H', Sub F F' → Ok g F' e' σ H' → ∀ v, OpOk g F' H' e' σ o' v → Q v H')) I ?_) fun ws s2 ⟨zs, H2, I2, rz, hl, F2, e2, xs, s2', k2, o2, t2⟩ => ⟨I2.kIn, ?_⟩
    · refine ⟨g, F, e, hK, hC, k, (tm_bind tm2).mono fun xs e2 q t2 F2 H2 s2 k2 zs o2 => ⟨?_, F2, e2, xs, s2, k2, o2, t2⟩⟩
      rw [← o2.1]
      exact evs_len_ks cb q
    · rw [n2]
      show wpAny _ _ (call (.ref fa) [] (b.2.zip ws)) _ _ _
      exact run_call (us := []) (vs := []) (os := []) o hr Fk hb hK hC k2 I2 .nil rz rfl (by rw [← rz.length, hl, hks]) ⟨rfl, fun j o v q => by simp at q⟩ o2 s2' t2
  | cons ex es =>
    have hst := star_of (env := X.env) (es := es) (stars_head ca).1
    refine PySem.W.callWith_KW (h₀ := X.base) I.ok.mod.kin hk n1 ?_ (by rw [plain_stars ca, n3]; rfl) hst
    refine thn (pa.run pos pins s σ H (fun vs H1 => vs.length = (ex :: es).length ∧ ∃ F1 e1 os, Sub F F1 ∧ Ok g F1 e1 σ H1 ∧ OpsOk g F1 H1 e1 σ os vs ∧ (∀ d, Opd.n d ∉ os) ∧ TM g W σ (M.bind (evs Φ b.1) (fun ws => M.bind (M.lift (srcs os ws src)) fun xs => callF Φ x io xs) e1) (fun (o' : Opd) (e' : Env) => ∀ F' H', Sub F F' → Ok g F' e' σ H' → ∀ v, OpOk g F' H' e' σ o' v → Q v H')) I ?_) fun us s1 ⟨vs, H1, I1, ru, hl, F1, e1, os, s1', k1, o1, no1, t1⟩ => ?_
    · refine ⟨g, F, e, hK, hC, k, (tm_bind tm1).mono fun os e1 q t1 F1 H1 s1 k1 vs o1 => ⟨?_, F1, e1, os, s1, k1, o1, fun d hm => ?_, t1⟩⟩
      · rw [← o1.1]
        exact evs_len_es ca q
      · obtain ⟨i, hi, hx⟩ := List.getElem_of_mem hm
        have hv : i < vs.length := by rw [← o1.1]; exact hi
        exact (o1.2 i _ _ (by rw [List.getElem?_eq_getElem hi, hx]) (List.getElem?_eq_getElem hv)).1 d rfl
    · refine thn (pk.run pos pins s1 σ H1 (fun zs H2 => zs.length = ks.length ∧ ∃ F2 e2 xs, Sub F1 F2 ∧ Ok g F2 e2 σ H2 ∧ OpsOk g F2 H2 e2 σ xs zs ∧ TM g W σ (M.bind (M.lift (srcs os xs src)) (fun xs => callF Φ x io xs) e2) (fun (o' : Opd) (e' : Env) => ∀ F' H', Sub F F' → Ok g F' e' σ H' → ∀ v, OpOk g F' H' e' σ o' v → Q v H')) I1 ?_) fun ws s2 ⟨zs, H2, I2, rz, hl2, F2, e2, xs, s2', k2, o2, t2⟩ => ⟨I2.kIn, ?_⟩
      · refine ⟨g, F1, e1, hK, hC, k1, (tm_bind t1).mono fun xs e2 q t2 F2 H2 s2 k2 zs o2 => ⟨?_, F2, e2, xs, s2, k2, o2, t2⟩⟩
        rw [← o2.1]
        exact evs_len_ks cb q
      · rw [n2]
        have o1' : OpsOk g F2 H2 e2 σ os vs := ⟨o1.1, fun j o' v q1 q2 => by
          obtain ⟨a1, a2⟩ := o1.2 j o' v q1 q2
          exact ⟨a1, op_move a1 a2 s2'⟩⟩
        show wpAny _ _ (call (.ref fa) us (b.2.zip ws)) _ _ _
        refine run_call o hr Fk hb hK hC k2 I2 ru rz (by rw [← ru.length, hl]) (by rw [← rz.length, hl2, hks]) o1' o2 (s1'.trans s2') t2
end
end PL
namespace PL
open L2 PySem PyProof.Rows PySem.Spec
/-! ## what is walked -/
/-- a walk that gives these things, wherever the frozen part and what stood at the entry are kept -/
def ItOk (g : Gh) (F : Hp) (ds : List D) (J : It) : Prop := ∀ H', Sub F H' → Sub g.G H' → ∀ i, (i < ds.length → J.go i H' ∧ ∀ x H3, J.yld i H' x H3 → H3 = H' ∧ ∃ d, ds[i]? = some d ∧ Rep g.K F d x) ∧ (ds.length ≤ i → J.stop i H')
section
variable (Φ : Ora) (C : Str → Option Addr) (W : WX) (K : PySem.W.Frag)
def tEvI (c : Ex) : TI := fun σ H R => Go C W K (evI Φ c) σ H fun g _ _ ds F' H' e' => ∀ J, ItOk g F' ds J → R J H'
end
theorem PI.imp {X : Cx} {tg e : Expr} {t t' : TI} (h : PI X tg e t) (i : ∀ σ H Q, t' σ H Q → t σ H Q) : PI X tg e t' := ⟨fun pins s σ H Q I q => h.run pins s σ H Q I (i σ H Q q)⟩
def iSeq (K : PySem.W.Frag) (te : TE) : TI := fun σ H R => te σ H fun x H1 => (∃ a, x = .ref a ∧ (∃ xs, SqL K H1 a xs) ∧ R (Itl K a) H1) ∨ (∃ a, x = .ref a ∧ (∃ xs, SqT K H1 a xs) ∧ R (Itt K a) H1) ∨ ∃ z, x = .str z ∧ R (Its z) H1
theorem pi_seq {X : Cx} {tg e : Expr} {te : TE} (he : PE X e te) : PI X tg e (iSeq X.K te) := by
  (refine ⟨fun pins s σ H R I h => ?_⟩)
  refine thn (he.run pins s σ H _ I h) fun v s1 hh => ?_
  obtain ⟨y, H1, I1, r1, q | q | q⟩ := hh
  · obtain ⟨a, ey, ⟨xs, hx⟩, q⟩ := q
    subst ey
    (obtain rfl : v = Value.ref a := r1)
    obtain ⟨us, _, pl, _⟩ := I1.list hx
    exact wpAny_pyIter_list pl.isList (pi_one (tk := s1.toks) I1 _ (turn_list a _) ⟨_, Heap.get?_push_size _ rfl, rfl, rfl⟩ q)
  · obtain ⟨a, ey, ⟨xs, hx⟩, q⟩ := q
    subst ey
    (obtain rfl : v = Value.ref a := r1)
    obtain ⟨us, _, pl, _⟩ := I1.tuple hx
    exact wpAny_pyIter_tuple (show s1.heap.IsTuple a us.toArray from pl) (pi_one (tk := s1.toks) I1 _ (turn_tuple a _) ⟨_, Heap.get?_push_size _ rfl, rfl, rfl⟩ q)
  · obtain ⟨z, ey, q⟩ := q
    subst ey
    obtain ⟨t, rfl⟩ := r1
    cases ha : z.cps.all (· < 128)
    · exact wpAny_pyIter_wide ha (pi_one (tk := s1.toks) I1 _ (turn_str _ z t "str_iterator" (Or.inr rfl)) ⟨_, Heap.get?_push_size _ rfl, rfl, rfl⟩ q)
    · exact wpAny_pyIter_ascii ha (pi_one (tk := s1.toks) I1 _ (turn_str _ z t "str_ascii_iterator" (Or.inl rfl)) ⟨_, Heap.get?_push_size _ rfl, rfl, rfl⟩ q)
section
variable {g : Gh} {F H : Hp} {e : Env} {σ : L2.St}
theorem itl_inj {K : PySem.W.Frag} {H : Hp} {a : Addr} {ws : List V} (h : H a = some (.lst ws)) : SqL K H a ws := SqL.of h
theorem itOk_list {xs : List D} {ws : List V} {a : Addr} (h : ∀ H', Sub F H' → Sub g.G H' → H' a = some (.lst ws)) (r : Reps g.K F xs ws) : ItOk g F xs (Itl g.K a) := fun H' s1 s2 i => by
  have hl := SqL.of (K := g.K) (h H' s1 s2)
  refine ⟨fun hi => ?_, fun hi => ⟨ws, hl, by rw [← r.length]; exact hi⟩⟩
  obtain ⟨v, q1, q2⟩ := r.get (List.getElem?_eq_getElem hi)
  refine ⟨⟨ws, v, hl, q1⟩, fun x H3 y => ?_⟩
  obtain ⟨y1, y2⟩ := y
  have y3 := y2 ws hl
  rw [q1] at y3
  cases y3
  exact ⟨y1, xs[i], List.getElem?_eq_getElem hi, q2⟩
theorem itOk_tup {xs : List D} {ws : List V} {a : Addr} (h : SqT g.K F a ws) (r : Reps g.K F xs ws) : ItOk g F xs (Itt g.K a) := fun H' s1 s2 i => by
  have hl := sqT_mono s1 h
  refine ⟨fun hi => ?_, fun hi => ⟨ws, hl, by rw [← r.length]; exact hi⟩⟩
  obtain ⟨v, q1, q2⟩ := r.get (List.getElem?_eq_getElem hi)
  refine ⟨⟨ws, v, hl, q1⟩, fun x H3 y => ?_⟩
  obtain ⟨y1, y2⟩ := y
  have y3 := y2 ws hl
  rw [q1] at y3
  cases y3
  exact ⟨y1, xs[i], List.getElem?_eq_getElem hi, q2⟩
theorem itOk_str {z : Str} : ItOk g F (z.cps.toList.map fun c => .str ⟨#[c]⟩) (Its z) := fun H' s1 s2 i => by
  have hz : (z.cps.toList.map fun c => (D.str ⟨#[c]⟩)).length = z.cps.size := by simp
  refine ⟨fun hi => ?_, fun hi => by rw [hz] at hi; exact hi⟩
  rw [hz] at hi
  refine ⟨hi, fun x H3 y => ?_⟩
  obtain ⟨y1, c, y2, y3⟩ := y
  refine ⟨y1, .str ⟨#[c]⟩, ?_, by rw [y3]; exact .str _⟩
  rw [List.getElem?_map, Array.getElem?_toList, y2]
  rfl
theorem itOk_rng {lo : Int} {n : Nat} : ItOk g F ((List.range n).map fun (k : Nat) => .int (lo + k)) (Itr lo n) := fun H' s1 s2 i => by
  have hz : ((List.range n).map fun (k : Nat) => (D.int (lo + k))).length = n := by simp
  refine ⟨fun hi => ?_, fun hi => by rw [hz] at hi; exact hi⟩
  rw [hz] at hi
  refine ⟨hi, fun x H3 y => ?_⟩
  obtain ⟨y1, y2⟩ := y
  refine ⟨y1, .int (lo + i), ?_, by rw [y2]; exact .int _⟩
  rw [List.getElem?_map, List.getElem?_range hi]
  rfl
/-- a value that stays is walked -/
theorem seq_ok {K : PySem.W.Frag} {d : D} {ds : List D} {v : V} {R : It → Hp → Prop} (hK : g.K = K) (k : Ok g F e σ H) (r : RepS g.K F g.G d v) (h : itD d = some ds) (q : ∀ J, ItOk g F ds J → R J H) :
    (∃ a, v = .ref a ∧ (∃ xs, SqL K H a xs) ∧ R (Itl K a) H) ∨ (∃ a, v = .ref a ∧ (∃ xs, SqT K H a xs) ∧ R (Itt K a) H) ∨ ∃ z, v = .str z ∧ R (Its z) H := by
  subst hK
  cases r with
  | fz r =>
    cases r with
    | lst h1 h2 =>
      rename_i a xs vs
      cases h
      exact .inl ⟨a, rfl, ⟨vs, SqL.of (k.sub _ _ h1)⟩, q _ (itOk_list (fun H' s1 _ => s1 _ _ h1) h2)⟩
    | tup h1 h2 =>
      rename_i a xs vs
      cases h
      exact .inr (.inl ⟨a, rfl, ⟨vs, sqT_mono k.sub h1⟩, q _ (itOk_tup h1 h2)⟩)
    | str z =>
      cases h
      exact .inr (.inr ⟨z, rfl, q _ itOk_str⟩)
    | non => cases h
    | bl b => cases h
    | int i => cases h
    | arg _ _ => cases h
  | gw h1 h2 =>
    rename_i xs vs a
    cases h
    exact .inl ⟨a, rfl, ⟨vs, SqL.of (k.keep _ _ h1)⟩, q _ (itOk_list (fun H' _ s2 => s2 _ _ h1) h2)⟩
end
section
variable {S : Sc} {C : Str → Option Addr} {W : WX} {Φ : Ora} {X : Cx}
theorem ei_seq {tg ex : Expr} {a : Ex} (he : PE X ex (tEv Φ C W X.K a)) : PI X tg ex (tEvI Φ C W X.K (.seq a)) := by
  refine PI.imp (pi_seq he) fun σ H R ⟨g, F, e, hK, hC, k, tm⟩ => ?_
  refine one_raw hK hC k tm fun F1 H1 e1 x v s1 k1 o1 t1 => ?_
  obtain ⟨d, e2, q1, t2⟩ := tm_wlk (tm_bind t1)
  obtain ⟨F2, s2, k2, r2⟩ := wlk_ok k1 o1 q1
  obtain ⟨ds, q3, t3⟩ := tm_lift t2
  exact seq_ok hK k2 r2 q3 (t3 F2 H1 (s1.trans s2) k2)
theorem ei_rng2 {tg : Expr} {ea eb : Expr} {a b : Ex} {p pos : Pos} (hg : Gl X "range") (hm : X.mg "range" = none) (ha : PE X ea (tEv Φ C W X.K a)) (hb : PE X eb (tEv Φ C W X.K b)) (h1 : isStar ea = false) (h2 : isStar eb = false) :
    PI X tg (.Call (.Name "range" p) [ea, eb] [] pos) (tEvI Φ C W X.K (.rng a b)) := by
  have e2 := star_of (es := []) (env := X.env) h2
  have e1 := star_of (es := [eb]) (env := X.env) h1
  refine PI.imp (pi_range2 hg hm (pa_cons ha (pa_cons hb pa_nil e2) e1) (by rw [e1, e2]; rfl) (by rw [e2]; rfl)) fun σ H R ⟨g, F, e, hK, hC, k, tm⟩ => ?_
  refine two_ok hK hC k tm fun F2 H2 e3 x y v1 v2 s2 k2 o1 o2 t2 => ?_
  obtain ⟨dx, q1, t3⟩ := tm_rd (tm_bind t2)
  obtain ⟨dy, q2, t4⟩ := tm_rd (tm_bind t3)
  obtain ⟨ds, q3, t5⟩ := tm_lift t4
  have r1 := rdz k2 o1 q1
  have r2 := rdz k2 o2 q2
  cases dx with
  | int i =>
    cases dy with
    | int j =>
      cases r1.int; cases r2.int
      have q3' : (if -(2 ^ 62) ≤ i ∧ i < 2 ^ 62 ∧ -(2 ^ 62) ≤ j ∧ j < 2 ^ 62 then some ((List.range (j - i).toNat).map fun (k : Nat) => D.int (i + k)) else none) = some ds := q3
      split at q3'
      · rename_i hc
        cases q3'
        exact ⟨i, j, rfl, hc, t5 F2 H2 s2 k2 _ itOk_rng⟩
      · cases q3'
    | _ => cases q3
  | _ => cases q3
theorem ei_rng1 {tg : Expr} {ea : Expr} {a : Ex} {p pos : Pos} (hg : Gl X "range") (hm : X.mg "range" = none) (ha : PE X ea (tEv Φ C W X.K a)) (h1 : isStar ea = false) :
    PI X tg (.Call (.Name "range" p) [ea] [] pos) (tEvI Φ C W X.K (.rng (.int 0) a)) := by
  have e1 := star_of (es := []) (env := X.env) h1
  refine PI.imp (pi_range1 hg hm (pa_cons ha pa_nil e1) (by rw [e1]; rfl)) fun σ H R ⟨g, F, e, hK, hC, k, tm⟩ => ?_
  have tm0 : TM g W σ (M.bind (ev Φ (.int 0)) (fun x => M.bind (ev Φ a) fun y => M.bind (rd x) fun dx => M.bind (rd y) fun dy => M.lift (rngD dx dy)) e) (fun (ds : List D) (e' : Env) => ∀ F' H', Sub F F' → Ok g F' e' σ H' → ∀ J, ItOk g F' ds J → R J H') := tm
  have tm1 := tm_bind tm0
  have tm1 : TM g W σ (M.bind (ev Φ a) (fun y => M.bind (rd (Opd.v (D.int 0))) fun dx => M.bind (rd y) fun dy => M.lift (rngD dx dy)) e) (fun (ds : List D) (e' : Env) => ∀ F' H', Sub F F' → Ok g F' e' σ H' → ∀ J, ItOk g F' ds J → R J H') := tm1
  refine one_ok hK hC k tm1 fun F2 H2 e3 y v2 s2 k2 n2 o2 t2 => ?_
  obtain ⟨dx, q1, t3⟩ := tm_rd (tm_bind t2)
  obtain ⟨dy, q2, t4⟩ := tm_rd (tm_bind t3)
  obtain ⟨ds, q3, t5⟩ := tm_lift t4
  have r2 := rdz k2 o2 q2
  cases q1
  cases dy with
  | int j =>
    cases r2.int
    have q3' : (if -(2 ^ 62) ≤ (0 : Int) ∧ (0 : Int) < 2 ^ 62 ∧ -(2 ^ 62) ≤ j ∧ j < 2 ^ 62 then some ((List.range (j - 0).toNat).map fun (k : Nat) => D.int (0 + k)) else none) = some ds := q3
    split at q3'
    · rename_i hc
      cases q3'
      rw [Int.sub_zero] at t5
      exact ⟨j, rfl, hc.2.2.1, hc.2.2.2, t5 F2 H2 s2 k2 _ itOk_rng⟩
    · cases q3'
  | _ => cases q3
end
end PL
namespace PL
open L2 PySem PyProof.Rows PySem.Spec
/-! ## targets -/
def tTg (K : PySem.W.Frag) (t : List Nat) : TG := fun v σ H Q => ∃ g F e d e', g.K = K ∧ Ok g F e σ H ∧ Rep g.K F d v ∧ asgT t d e = some e' ∧ ∀ σ', Ok g F e' σ' H → (∀ j, j ∉ t → σ'[j]? = σ[j]?) → Q σ' H
def tUnp (K : PySem.W.Frag) (t : List Nat) : TGs := fun vs σ H Q => ∃ g F e ds e', g.K = K ∧ Ok g F e σ H ∧ Reps g.K F ds vs ∧ unpS t ds e = some e' ∧ ∀ σ', Ok g F e' σ' H → (∀ j, j ∉ t → σ'[j]? = σ[j]?) → Q σ' H
theorem PG.imp {X : Cx} {tg : Expr} {t t' : TG} (h : PG X tg t) (i : ∀ v σ H Q, t' v σ H Q → t v σ H Q) : PG X tg t' := ⟨fun pins s σ H v u Q I r q => h.run pins s σ H v u Q I r (i v σ H Q q)⟩
theorem PGs.imp {X : Cx} {tg : List Expr} {t t' : TGs} (h : PGs X tg t) (i : ∀ v σ H Q, t' v σ H Q → t v σ H Q) : PGs X tg t' := ⟨fun pins s σ H v u Q I r q => h.run pins s σ H v u Q I r (i v σ H Q q)⟩
section
variable {S : Sc} {C : Str → Option Addr} {W : WX} {Φ : Ora} {X : Cx}
theorem eg_name (o : XOk S C W Φ X) {x : Str} {i : Nat} {pos : Pos} (h : cName S x = some i) : PG X (.Name x pos) (tTg X.K [i]) := by
  obtain ⟨h1, h2, h3⟩ := cName_ok o h
  refine PG.imp (pg_name (by rw [o.N]; exact o.nd) h1 h2 h3) fun v σ H Q ⟨g, F, e, d, e', hK, k, r, q, w⟩ => ?_
  have q' : setS i (.fz d) e = some e' := q
  exact w _ (k.storeFz q' r) fun j hj => List.getElem?_set_ne (by intro z; exact hj (by simp [z]))
theorem eg_names (o : XOk S C W Φ X) : ∀ {es : List Expr} {t : List Nat}, cNames S es = some t → PGs X es (tUnp X.K t) ∧ (assignEach es X.env).length = es.length ∧ (assignEach es X.env).findIdx? (·.1) = none ∧ t.length = es.length
  | [], t, h => by
    cases h
    refine ⟨PGs.imp pgs_nil fun vs σ H Q ⟨g, F, e, ds, e', hK, k, r, q, w⟩ => ?_, rfl, rfl, rfl⟩
    cases r with
    | nil =>
      cases q
      exact ⟨rfl, w σ k fun _ _ => rfl⟩
    | cons _ _ => cases q
  | .Name x pos :: es, t, h => by
    have h' : ((cName S x).bind fun i => (cNames S es).map fun r => i :: r) = some t := h
    obtain ⟨i, h1, h2⟩ := Option.bind_eq_some_iff.mp h'
    obtain ⟨t2, h3, rfl⟩ := Option.map_eq_some_iff.mp h2
    obtain ⟨a1, a2, a3, a4⟩ := eg_names o h3
    refine ⟨PGs.imp (pgs_cons (eg_name o (pos := pos) h1) a1) fun vs σ H Q ⟨g, F, e, ds, e', hK, k, r, q, w⟩ => ?_, congrArg (· + 1) a2, ?_, congrArg (· + 1) a4⟩
    · cases r with
      | nil => cases q
      | @cons d v ds vs r rr =>
        have q' : (setS i (.fz d) e).bind (unpS t2 ds) = some e' := q
        obtain ⟨e1, q1, q2⟩ := Option.bind_eq_some_iff.mp q'
        refine ⟨v, vs, rfl, g, F, e, d, e1, hK, k, r, q1, fun σ1 k1 z1 => ?_⟩
        refine ⟨g, F, e1, ds, e', hK, k1, rr, q2, fun σ2 k2 z2 => w σ2 k2 fun j hj => ?_⟩
        simp only [List.mem_cons, not_or] at hj
        rw [z2 j hj.2, z1 j (by simpa using hj.1)]
    · show (((false, _) :: assignEach es X.env).findIdx? (·.1)) = none
      rw [List.findIdx?_cons]
      (simp only [Bool.false_eq_true, if_false])
      rw [a3]
      rfl
  | .BoolOp _ _ _ :: _, _, h => by cases h
  | .NamedExpr _ _ _ :: _, _, h => by cases h
  | .BinOp _ _ _ _ :: _, _, h => by cases h
  | .UnaryOp _ _ _ :: _, _, h => by cases h
  | .Lambda _ _ _ _ :: _, _, h => by cases h
  | .IfExp _ _ _ _ :: _, _, h => by cases h
  | .Dict _ _ _ :: _, _, h => by cases h
  | .Set _ _ _ :: _, _, h => by cases h
  | .ListComp _ _ _ _ :: _, _, h => by cases h
  | .SetComp _ _ _ _ :: _, _, h => by cases h
  | .DictComp _ _ _ _ _ :: _, _, h => by cases h
  | .GeneratorExp _ _ _ _ :: _, _, h => by cases h
  | .Await _ _ :: _, _, h => by cases h
  | .Yield _ _ :: _, _, h => by cases h
  | .YieldFrom _ _ :: _, _, h => by cases h
  | .Compare _ _ _ _ :: _, _, h => by cases h
  | .Call _ _ _ _ :: _, _, h => by cases h
  | .FormattedValue _ _ _ _ :: _, _, h => by cases h
  | .JoinedStr _ _ :: _, _, h => by cases h
  | .Constant _ _ _ :: _, _, h => by cases h
  | .Attribute _ _ _ :: _, _, h => by cases h
  | .Subscript _ _ _ :: _, _, h => by cases h
  | .Starred _ _ :: _, _, h => by cases h
  | .List _ _ :: _, _, h => by cases h
  | .Tuple _ _ _ :: _, _, h => by cases h
  | .Slice _ _ _ _ :: _, _, h => by cases h
theorem eg_tg (o : XOk S C W Φ X) {tg : Expr} {t : List Nat} (h : cTg S tg = some t) : PG X tg (tTg X.K t) := by
  cases tg with
  | Name x pos =>
    obtain ⟨i, h1, rfl⟩ := Option.map_eq_some_iff.mp (show (cName S x).map (fun i => [i]) = some t from h)
    exact eg_name o h1
  | Tuple es kk pos =>
    have h' : (if 2 ≤ es.length then cNames S es else none) = some t := h
    split at h'
    · rename_i hl
      obtain ⟨a1, a2, a3, a4⟩ := eg_names o h'
      refine PG.imp (pg_tup o.calm a1 a2 a3) fun v σ H Q ⟨g, F, e, d, e', hK, k, r, q, w⟩ => ?_
      obtain ⟨t0, t1, tr, rfl⟩ : ∃ t0 t1 tr, t = t0 :: t1 :: tr := by
        cases t with
        | nil => simp at a4; omega
        | cons t0 t =>
          cases t with
          | nil => simp at a4; omega
          | cons t1 tr => exact ⟨t0, t1, tr, rfl⟩
      cases d with
      | tup ds =>
        have q' : unpS (t0 :: t1 :: tr) ds e = some e' := q
        cases r with
        | @tup a _ vs r1 r2 =>
          have hl2 : ∀ {t : List Nat} {ds : List D} {e e' : Env}, unpS t ds e = some e' → t.length = ds.length := by
            intro t
            induction t with
            | nil =>
              intro ds e e' z
              cases ds with
              | nil => rfl
              | cons _ _ => cases z
            | cons i t ih =>
              intro ds e e' z
              cases ds with
              | nil => cases z
              | cons d ds =>
                obtain ⟨e1, _, z2⟩ := Option.bind_eq_some_iff.mp (show (setS i (.fz d) e).bind (unpS t ds) = some e' from z)
                exact congrArg (· + 1) (ih z2)
          refine ⟨a, vs, rfl, by rw [← hK]; exact sqT_mono k.sub r1, by rw [← r2.length, ← hl2 q', a4], g, F, e, ds, e', hK, k, r2, q', w⟩
      | _ => cases q
    · cases h'
  | _ => cases h
end
/-! ## comprehensions -/
section
variable {g : Gh} {F H : Hp} {e : Env} {σ : L2.St} {D0 : Addr} {ws : List V}
/-- the list that is being made stands among what stays -/
def Gh.with (g : Gh) (D0 : Addr) (ws : List V) : Gh := { g with G := upd g.G D0 (.lst ws) }
/-- no slot holds the list that is being made -/
def NotAt (e : Env) (σ : L2.St) (D0 : Addr) : Prop := ∀ (i : Nat) (s : Slot), e[i]? = some s → s.mut = true → σ[i]? ≠ some (some (.ref D0))
theorem Ok.more (k : Ok g F e σ H) (h1 : H D0 = some (.lst ws)) (h2 : F D0 = none) (h3 : g.G D0 = none) (h4 : NotAt e σ D0) : Ok (g.with D0 ws) F e σ H where
  len := k.len
  sub := k.sub
  base := k.base
  keep := fun b o q => by
    by_cases hb : b = D0
    · subst hb
      rw [show (g.with b ws).G b = some (.lst ws) from upd_same] at q
      cases q
      exact h1
    · rw [show (g.with D0 ws).G b = g.G b from upd_ne hb] at q
      exact k.keep b o q
  fr := fun b o q => by
    by_cases hb : b = D0
    · subst hb
      rw [h2]
      exact (Sub.none k.base h2).symm
    · rw [show (g.with D0 ws).G b = g.G b from upd_ne hb] at q
      exact k.fr b o q
  bt := k.bt
  slot := fun i s q => by
    have so := k.slot i s q
    cases s with
    | un => trivial
    | fz d => exact so
    | ow d =>
      obtain ⟨a, a1, a2, a3, a4⟩ := so
      have ne : a ≠ D0 := fun z => h4 i _ q rfl (by rw [a1, z])
      exact ⟨a, a1, a2, (show (g.with D0 ws).G a = g.G a from upd_ne ne).trans a3, a4⟩
    | io d =>
      obtain ⟨a, a1, a2, a3, a4, a5⟩ := so
      have ne : a ≠ D0 := fun z => h4 i _ q rfl (by rw [a1, z])
      exact ⟨a, a1, a2, (show (g.with D0 ws).G a = g.G a from upd_ne ne).trans a3, a4, a5⟩
    | bw d =>
      obtain ⟨a, a1, a2, a3, a4⟩ := so
      obtain ⟨xs, vs, rfl, w1, w2⟩ := a4.there
      have ne : a ≠ D0 := fun z => by rw [z, h3] at w1; cases w1
      exact ⟨a, a1, a2, a3, vs, (show (g.with D0 ws).G a = g.G a from upd_ne ne).trans w1, w2⟩
  dis := k.dis
theorem Ok.less (k : Ok (g.with D0 ws) F e σ H) (h3 : g.G D0 = none) (h5 : ∀ i, g.B i ≠ some D0) (h6 : g.F0 D0 = none) : Ok g F e σ H ∧ H D0 = some (.lst ws) ∧ F D0 = none ∧ NotAt e σ D0 := by
  have hD : (g.with D0 ws).G D0 = some (.lst ws) := upd_same
  have hG : ∀ {b o}, g.G b = some o → (g.with D0 ws).G b = some o := fun {b o} q => by
    have ne : b ≠ D0 := fun z => by rw [z, h3] at q; cases q
    exact (show (g.with D0 ws).G b = g.G b from upd_ne ne).trans q
  refine ⟨⟨k.len, k.sub, k.base, fun b o q => k.keep b o (hG q), fun b o q => k.fr b o (hG q), k.bt, fun i s q => ?_, k.dis⟩, k.keep _ _ hD, (k.fr _ _ hD).trans h6, fun i s q hm hz => ?_⟩
  · have so := k.slot i s q
    cases s with
    | un => trivial
    | fz d => exact so
    | ow d =>
      obtain ⟨a, a1, a2, a3, a4⟩ := so
      have ne : a ≠ D0 := fun z => by rw [z, hD] at a3; cases a3
      exact ⟨a, a1, a2, (show (g.with D0 ws).G a = g.G a from upd_ne ne).symm.trans a3, a4⟩
    | io d =>
      obtain ⟨a, a1, a2, a3, a4, a5⟩ := so
      have ne : a ≠ D0 := fun z => by rw [z, hD] at a3; cases a3
      exact ⟨a, a1, a2, (show (g.with D0 ws).G a = g.G a from upd_ne ne).symm.trans a3, a4, a5⟩
    | bw d =>
      obtain ⟨a, a1, a2, a3, a4⟩ := so
      obtain ⟨xs, vs, rfl, w1, w2⟩ := a4.there
      have ne : a ≠ D0 := fun z => h5 i (by rw [← z]; exact a3)
      exact ⟨a, a1, a2, a3, vs, (show (g.with D0 ws).G a = g.G a from upd_ne ne).symm.trans w1, w2⟩
  · obtain ⟨b, d3, y1, y2, y3, y4, y5⟩ := (k.slot i s q).at hm
    rw [hz] at y2
    cases y2
    rw [hD] at y4
    cases y4
theorem Ok.updD {o : HO} (k : Ok g F e σ H) (h2 : F D0 = none) (h3 : g.G D0 = none) (h4 : NotAt e σ D0) : Ok g F e σ (upd H D0 o) where
  len := k.len
  sub := fun b u q => by rw [upd_ne (fun z => by rw [z, h2] at q; cases q)]; exact k.sub b u q
  base := k.base
  keep := fun b u q => by rw [upd_ne (fun z => by rw [z, h3] at q; cases q)]; exact k.keep b u q
  fr := k.fr
  bt := fun i b q => by
    obtain ⟨u, z⟩ := k.bt i b q
    by_cases hb : b = D0
    · exact ⟨o, by rw [hb]; exact upd_same⟩
    · exact ⟨u, by rw [upd_ne hb]; exact z⟩
  slot := fun i s q => (k.slot i s q).move (Same.refl _) (fun b hs hb hF => ⟨hF, upd_ne fun z => h4 i s q hs (by rw [hb, z])⟩) fun _ _ _ z => z
  dis := k.dis
end
theorem set_un_un (e : Env) (i : Nat) : (e.set i Slot.un).set i Slot.un = e.set i Slot.un := by rw [List.set_set]
theorem wipeS_len (e : Env) : ∀ t : List Nat, (wipeS e t).length = e.length
  | [] => rfl
  | i :: t => by
    show ((wipeS e t).set i Slot.un).length = e.length
    rw [List.length_set, wipeS_len e t]
theorem wipeS_out {e : Env} {j : Nat} : ∀ {t : List Nat}, j ∉ t → (wipeS e t)[j]? = e[j]?
  | [], _ => rfl
  | i :: t, h => by
    simp only [List.mem_cons, not_or] at h
    show ((wipeS e t).set i Slot.un)[j]? = e[j]?
    rw [List.getElem?_set_ne (Ne.symm h.1)]
    exact wipeS_out h.2
theorem wipeS_in {e : Env} {j : Nat} : ∀ {t : List Nat}, j ∈ t → ∀ {s : Slot}, (wipeS e t)[j]? = some s → s = .un
  | [], h, _, _ => by simp at h
  | i :: t, h, s, q => by
    have q' : ((wipeS e t).set i Slot.un)[j]? = some s := q
    by_cases hj : j = i
    · subst hj
      have hlt : j < (wipeS e t).length := by
        have := (List.getElem?_eq_some_iff.mp q').1
        rwa [List.length_set] at this
      rw [List.getElem?_set_self hlt] at q'
      cases q'
      rfl
    · rw [List.getElem?_set_ne (Ne.symm hj)] at q'
      exact wipeS_in (by simpa [hj] using h) q'
theorem wipeS_idem (e : Env) (t : List Nat) : wipeS (wipeS e t) t = wipeS e t := by
  (refine List.ext_getElem? fun j => ?_)
  by_cases hj : j ∈ t
  · cases h : (wipeS e t)[j]? with
    | none =>
      have := List.getElem?_eq_none_iff.mp h
      rw [wipeS_len] at this
      exact List.getElem?_eq_none_iff.mpr (by rw [wipeS_len, wipeS_len]; exact this)
    | some s =>
      have hl := (List.getElem?_eq_some_iff.mp h).1
      rw [wipeS_len] at hl
      have hl2 : j < (wipeS (wipeS e t) t).length := by rw [wipeS_len, wipeS_len]; exact hl
      rw [List.getElem?_eq_getElem hl2]
      rw [wipeS_in hj (List.getElem?_eq_getElem hl2), wipeS_in hj h]
  · rw [wipeS_out hj]
theorem wipe_outV {σ : L2.St} {j : Nat} : ∀ {t : List Nat}, j ∉ t → (L2.wipe σ t)[j]? = σ[j]?
  | [], _ => rfl
  | i :: t, h => by
    simp only [List.mem_cons, not_or] at h
    show ((L2.wipe σ t).set i none)[j]? = σ[j]?
    rw [List.getElem?_set_ne (Ne.symm h.1)]
    exact wipe_outV h.2
theorem wipe_inV {σ : L2.St} {j : Nat} : ∀ {t : List Nat}, j ∈ t → j < σ.length → (L2.wipe σ t)[j]? = some none
  | [], h, _ => by simp at h
  | i :: t, h, hl => by
    show ((L2.wipe σ t).set i none)[j]? = some none
    by_cases hj : j = i
    · subst hj
      rw [List.getElem?_set_self (by rw [wipe_length]; exact hl)]
    · rw [List.getElem?_set_ne (Ne.symm hj)]
      exact wipe_inV (by simpa [hj] using h) hl
theorem wipe_eq {a b : L2.St} {t : List Nat} (h : ∀ j, j ∉ t → a[j]? = (L2.wipe b t)[j]?) (hl : a.length = b.length) : L2.wipe a t = L2.wipe b t := by
  (refine List.ext_getElem? fun j => ?_)
  by_cases hj : j ∈ t
  · by_cases hlt : j < a.length
    · rw [wipe_inV hj hlt, wipe_inV hj (by omega)]
    · rw [List.getElem?_eq_none (by rw [wipe_length]; omega), List.getElem?_eq_none (by rw [wipe_length]; omega)]
  · rw [wipe_outV hj, h j hj]
/-- one turn of a comprehension -/
theorem lcL_cons {tg : List Nat} {c : M Bool} {elt : M D} {d : D} {ds : List D} {e e4 : Env} {rs : List D} (h : lcL tg c elt (d :: ds) e = .ok rs e4) :
    ∃ e1, asgT tg d (wipeS e tg) = some e1 ∧ ((∃ e2 x e3 xs, c e1 = .ok true e2 ∧ elt e2 = .ok x e3 ∧ lcL tg c elt ds e3 = .ok xs e4 ∧ rs = x :: xs) ∨ (∃ e2, c e1 = .ok false e2 ∧ lcL tg c elt ds e2 = .ok rs e4)) := by
  have h' : (match asgT tg d (wipeS e tg) with
    | none => (Rz.bad : Rz (List D))
    | some e1 => match c e1 with
      | .ok true e2 => match elt e2 with
        | .ok x e3 => match lcL tg c elt ds e3 with
          | .ok xs e4 => .ok (x :: xs) e4
          | r => .bad
        | _ => .bad
      | .ok false e2 => lcL tg c elt ds e2
      | _ => .bad) = .ok rs e4 := h
  cases q1 : asgT tg d (wipeS e tg) with
  | none => rw [q1] at h'; cases h'
  | some e1 =>
    rw [q1] at h'
    refine ⟨e1, rfl, ?_⟩
    have h2 : (match c e1 with
      | .ok true e2 => match elt e2 with
        | .ok x e3 => match lcL tg c elt ds e3 with
          | .ok xs e4 => (Rz.ok (x :: xs) e4 : Rz (List D))
          | r => .bad
        | _ => .bad
      | .ok false e2 => lcL tg c elt ds e2
      | _ => .bad) = .ok rs e4 := h'
    cases q2 : c e1 with
    | ok b e2 =>
      rw [q2] at h2
      cases b with
      | true =>
        have h3 : (match elt e2 with
          | .ok x e3 => match lcL tg c elt ds e3 with
            | .ok xs e4 => (Rz.ok (x :: xs) e4 : Rz (List D))
            | r => .bad
          | _ => .bad) = .ok rs e4 := h2
        cases q3 : elt e2 with
        | ok x e3 =>
          rw [q3] at h3
          have h4 : (match lcL tg c elt ds e3 with
            | .ok xs e4 => (Rz.ok (x :: xs) e4 : Rz (List D))
            | r => .bad) = .ok rs e4 := h3
          cases q4 : lcL tg c elt ds e3 with
          | ok xs e5 =>
            rw [q4] at h4
            cases h4
            exact .inl ⟨e2, x, e3, xs, rfl, q3, q4, rfl⟩
          | er _ _ => rw [q4] at h4; cases h4
          | bad => rw [q4] at h4; cases h4
        | er _ _ => rw [q3] at h3; cases h3
        | bad => rw [q3] at h3; cases h3
      | false => exact .inr ⟨e2, rfl, h2⟩
    | er _ _ => rw [q2] at h2; cases h2
    | bad => rw [q2] at h2; cases h2
def WF : WX := fun _ _ _ _ => False
def tEvC (Φ : Ora) (C : Str → Option Addr) (W : WX) (K : PySem.W.Frag) (c : Ex) : TT := fun σ H Q => Go C W K (evC Φ c) σ H fun _ _ _ b _ H' _ => Q b H'
theorem PTs.imp {X : Cx} {es : List Expr} {t t' : TT} (h : PTs X es t) (i : ∀ σ H Q, t' σ H Q → t σ H Q) : PTs X es t' := ⟨fun pins s σ H Q I q => h.run pins s σ H Q I (i σ H Q q)⟩
section
variable {S : Sc} {C : Str → Option Addr} {W : WX} {Φ : Ora} {X : Cx}
/-- a comprehension's block has what its def has -/
theorem XOk.blk (o : XOk S C W Φ X) (s : Shared) (H : Hp) (scope : Scope) (Cl : Addr) (cl : List (Str × Addr)) (fp : List Addr) : XOk { S with sc := relS scope S.sc, df := false } C WF Φ (X.blk s H scope (compEnvC scope cl Cl X.env) fp) where
  N := o.N
  nd := o.nd
  sc := by rw [← o.sc]; rfl
  calm := o.calm
  units := o.units
  tk := takes0
  po := PassesOwn.never
  cell := fun z => Bool.noConfusion (show false = true from z)
  fr := o.fr
  gc := o.gc
  fns := o.fns
end
end PL
namespace PL
open L2 PySem PyProof.Rows PySem.Spec
theorem PS.imp {X : Cx} {st : Stmt} {t t' : TS} (h : PS X st t) (i : ∀ D σ H, t' D σ H → t D σ H) : PS X st t' := ⟨fun pins s σ H D I q => h.run pins s σ H D I (i D σ H q)⟩
theorem PSs.imp {X : Cx} {st : List Stmt} {t t' : TS} (h : PSs X st t) (i : ∀ D σ H, t' D σ H → t D σ H) : PSs X st t' := ⟨fun pins s σ H D I q => h.run pins s σ H D I (i D σ H q)⟩
section
variable {S : Sc} {C : Str → Option Addr} {W : WX} {Φ : Ora} {X : Cx}
theorem setS_len {i : Nat} {s : Slot} {e e' : Env} (h : setS i s e = some e') : e'.length = e.length := by
  obtain ⟨_, _, rfl⟩ := setS_some h
  rw [List.length_set]
theorem unpS_len : ∀ {t : List Nat} {ds : List D} {e e' : Env}, unpS t ds e = some e' → e'.length = e.length
  | [], [], e, e', h => by cases h; rfl
  | [], _ :: _, e, e', h => by cases h
  | _ :: _, [], e, e', h => by cases h
  | i :: t, d :: ds, e, e', h => by
    obtain ⟨e1, h1, h2⟩ := Option.bind_eq_some_iff.mp (show (setS i (.fz d) e).bind (unpS t ds) = some e' from h)
    rw [unpS_len h2, setS_len h1]
theorem asgT_len {t : List Nat} {d : D} {e e' : Env} (h : asgT t d e = some e') : e'.length = e.length := by
  cases t with
  | nil =>
    cases d with
    | tup ds => exact unpS_len (t := []) (show unpS [] ds e = some e' from h)
    | _ => cases h
  | cons i t =>
    cases t with
    | nil => exact setS_len (show setS i (.fz d) e = some e' from h)
    | cons j t =>
      cases d with
      | tup ds => exact unpS_len (show unpS (i :: j :: t) ds e = some e' from h)
      | _ => cases h
/-- [elt for tg in it if ..], by meanings -/
theorem lc_sem {K : PySem.W.Frag} {t : List Nat} {i c x : Ex} {σ : L2.St} {H : Hp} {Q : VK} (h : tEv Φ C W K (.lc t i c x) σ H Q) : tLc (tEvI Φ C W K i) (tTg K t) (tEvC Φ C WF K c) (tEv Φ C WF K x) t σ H Q := by
  obtain ⟨g, F, e, hK, hC, k, tm⟩ := h
  subst hK
  have hK : g.K = g.K := rfl
  have tm0 : TM g W σ (M.bind (evI Φ i) (fun ds => fun e => if ds.length ≤ sizeLine then
      match lcL t (evC Φ c) (M.bind (ev Φ x) cns) ds e with
      | .ok xs e' => Rz.ok (Opd.n (.lst xs)) (wipeS e' t)
      | _ => Rz.bad
      else Rz.bad) e) (fun (o' : Opd) (e' : Env) => ∀ F' H', Sub F F' → Ok g F' e' σ H' → ∀ v, OpOk g F' H' e' σ o' v → Q v H') := tm
  refine ⟨g, F, e, hK, hC, k, (tm_bind tm0).mono fun ds e1 _ t1 F1 H1 s1 k1 J hJ D0 hD => ?_⟩
  -- the run of the turns
  obtain ⟨hz, xs, e2, run, fin⟩ : ds.length ≤ sizeLine ∧ ∃ xs e2, lcL t (evC Φ c) (M.bind (ev Φ x) cns) ds e1 = .ok xs e2 ∧ ∀ F' H', Sub F F' → Ok g F' (wipeS e2 t) σ H' → ∀ v, OpOk g F' H' (wipeS e2 t) σ (.n (.lst xs)) v → Q v H' := by
    by_cases hz : ds.length ≤ sizeLine
    · rw [if_pos hz] at t1
      cases q : lcL t (evC Φ c) (M.bind (ev Φ x) cns) ds e1 with
      | ok xs e2 => rw [q] at t1; exact ⟨hz, xs, e2, rfl, t1⟩
      | er _ _ => rw [q] at t1; exact t1.elim
      | bad => rw [q] at t1; exact t1.elim
    · rw [if_neg hz] at t1
      exact t1.elim
  -- the new list is new
  have g3 : g.G D0 = none := Same.free k1.keep hD
  have f1 : F1 D0 = none := k1.sub.none hD
  have g6 : g.F0 D0 = none := Sub.none k1.base f1
  have g5 : ∀ i, g.B i ≠ some D0 := fun i z => by
    obtain ⟨u, w⟩ := k1.bt i D0 z
    rw [hD] at w
    cases w
  have n1 : NotAt e1 σ D0 := fun i s q hm hz => by
    obtain ⟨b, d3, y1, y2, y3, y4, y5⟩ := (k1.slot i s q).at hm
    rw [hz] at y2
    cases y2
    obtain ⟨_, _, _, w, _⟩ := y5.there
    rw [hD] at w
    cases w
  have notW : ∀ {e : Env} {σ2 : L2.St}, NotAt e σ2 D0 → NotAt (wipeS e t) (L2.wipe σ2 t) D0 := fun {e σ2} hn i s q hm => by
    have hi : i ∉ t := fun z => by
      have := wipeS_in z q
      rw [this] at hm
      cases hm
    rw [wipe_outV hi]
    rw [wipeS_out hi] at q
    exact hn i s q hm
  let Inv0 : Nat → Hp → Prop := fun i H => i ≤ ds.length ∧ ∃ F' e' acc ws rs, Sub F1 F' ∧ Ok g F' (wipeS e' t) (L2.wipe σ t) H ∧ lcL t (evC Φ c) (M.bind (ev Φ x) cns) (ds.drop i) e' = .ok rs e2 ∧ acc ++ rs = xs ∧ acc.length ≤ i ∧
    H D0 = some (.lst ws) ∧ Reps g.K F' acc ws ∧ F' D0 = none ∧ NotAt (wipeS e' t) (L2.wipe σ t) D0
  refine ⟨fun i m H => m = ds.length - i ∧ Inv0 i H, ⟨ds.length, rfl, Nat.zero_le _, F1, e1, [], [], xs, Same.refl _, (k1.grow hD).wipe t, run, rfl, Nat.le_refl _, upd_same, .nil, f1, notW n1⟩, ?_⟩
  rintro i m H2 ⟨rfl, hi, F', e', acc, ws, rs, sF, kF, rn, ea, la, hw, rp, fD, nA⟩
  have sJ := hJ H2 (sF.trans kF.sub) kF.keep i
  rcases Nat.lt_or_ge i ds.length with hlt | hge
  · obtain ⟨go, yl⟩ := sJ.1 hlt
    refine .inr ⟨go, fun H' => Inv0 (i + 1) H', fun H' q => ⟨ds.length - (i + 1), by omega, rfl, q⟩, fun y H3 hy => ?_⟩
    obtain ⟨rfl, d, hd, rd0⟩ := yl y H3 hy
    have rd1 := rd0.mono sF
    have hdrop : ds.drop i = d :: ds.drop (i + 1) := by
      (rw [List.drop_eq_getElem_cons hlt])
      rw [List.getElem?_eq_getElem hlt] at hd
      cases hd
      rfl
    rw [hdrop] at rn
    obtain ⟨e3, a1, turn⟩ := lcL_cons rn
    have kM := kF.more (ws := ws) hw fD g3 nA
    refine ⟨g.with D0 ws, F', wipeS e' t, d, e3, hK, kM, rd1, a1, fun σ2 k2 z2 => ?_⟩
    have hl2 : σ2.length = σ.length := by rw [← k2.len, asgT_len a1, kF.len, wipe_length]
    have hw2 : L2.wipe σ2 t = L2.wipe σ t := wipe_eq z2 hl2
    refine ⟨hw2, g.with D0 ws, F', e3, hK, hC, k2, ?_⟩
    rcases turn with ⟨e4, y, e5, xs2, q1, q2, q3, rfl⟩ | ⟨e4, q1, q3⟩
    · rw [q1]
      show ∀ F3 H3, Sub F' F3 → Ok (g.with D0 ws) F3 e4 σ2 H3 → _
      intro F3 H3 s3 k3
      refine iteT ?_
      obtain ⟨oy, e6, q4, q5⟩ := bind_ok q2
      refine ⟨g.with D0 ws, F3, e4, hK, hC, k3, ?_⟩
      rw [q4]
      show ∀ F4 H4, Sub F3 F4 → Ok (g.with D0 ws) F4 e6 σ2 H4 → _
      intro F4 H4 s4 k4 v ov
      obtain ⟨F5, s5, k5, r5⟩ := cns_ok k4 ov q5
      obtain ⟨k6, w1, w2, w3⟩ := k5.less g3 g5 g6
      have s15 : Sub F' F5 := (s3.trans s4).trans s5
      refine ⟨ws, w1, ?_, hlt, F5, e5, acc ++ [y], ws ++ [v], xs2, sF.trans s15, ?_, q3, by rw [List.append_assoc]; exact ea, by rw [List.length_append, List.length_singleton]; omega, upd_same, (rp.mono s15).append (.cons r5 .nil), w2, ?_⟩
      · rw [← rp.length]; omega
      · have := (k6.updD (o := .lst (ws ++ [v])) w2 g3 w3).wipe t
        rw [hw2] at this
        exact this
      · have := notW w3
        rw [hw2] at this
        exact this
    · rw [q1]
      show ∀ F3 H3, Sub F' F3 → Ok (g.with D0 ws) F3 e4 σ2 H3 → _
      intro F3 H3 s3 k3
      refine iteF ?_
      obtain ⟨k6, w1, w2, w3⟩ := k3.less g3 g5 g6
      refine ⟨hlt, F3, e4, acc, ws, rs, sF.trans s3, ?_, q3, ea, by omega, w1, rp.mono s3, w2, ?_⟩
      · have := k6.wipe t
        rw [hw2] at this
        exact this
      · have := notW w3
        rw [hw2] at this
        exact this
  · have ei : i = ds.length := by omega
    subst ei
    refine .inl ⟨sJ.2 hge, ?_⟩
    rw [List.drop_length] at rn
    cases rn
    rw [List.append_nil] at ea
    subst ea
    have kU := Ok.unwipe kF t (σ := σ) (fun j hj => wipe_outV hj) (wipe_length σ t)
    rw [wipeS_idem] at kU
    refine fin F' H2 (s1.trans sF) kU _ ⟨D0, rfl, fD, g3, ⟨ws, hw, rp⟩, fun j s q hm hz => ?_⟩
    have hj : j ∉ t := fun z => by
      have := wipeS_in z q
      rw [this] at hm
      cases hm
    exact nA j s q hm (by rw [wipe_outV hj]; exact hz)
/-- [elt for tg in it if ..] -/
theorem ei_lc (o : XOk S C W Φ X) {tg it elt : Expr} {ifs : List Expr} {scope : Scope} {pos : Pos} {t : List Nat} {i c x : Ex}
    (hb : blkC S.N S.sc scope ((tgNames tg).zip t) = true) (hl : (tgNames tg).length = t.length)
    (hi : PI X tg it (tEvI Φ C W X.K i)) (hs : ∀ z, foldedSetIterable it X.env z = pure z)
    (ht : ∀ X', XOk { S with sc := relS scope S.sc, df := false } C WF Φ X' → X'.K = X.K → PG X' tg (tTg X.K t))
    (hc : ∀ X', XOk { S with sc := relS scope S.sc, df := false } C WF Φ X' → X'.K = X.K → PTs X' ifs (tEvC Φ C WF X.K c))
    (he : ∀ X', XOk { S with sc := relS scope S.sc, df := false } C WF Φ X' → X'.K = X.K → PE X' elt (tEv Φ C WF X.K x)) :
    PE X (.ListComp elt [⟨tg, it, ifs, 0⟩] scope pos) (tEv Φ C W X.K (.lc t i c x)) := by
  have ok : BlkOk X.N X.env.scope scope ((tgNames tg).zip t) := blkOk_by (by rw [o.N, o.sc]; exact hb)
  have hown : ((tgNames tg).zip t).map (·.2) = t := by rw [List.map_snd_zip (by omega)]
  refine PE.imp (pe_lc o.calm (by rw [o.N]; exact o.nd) hi ok (fun s H Cl cl fp => ht _ (o.blk s H scope Cl cl fp) rfl) (fun s H Cl cl fp => hc _ (o.blk s H scope Cl cl fp) rfl) (fun s H Cl cl fp => he _ (o.blk s H scope Cl cl fp) rfl) hs) fun σ H Q h => ?_
  rw [hown]
  exact lc_sem h
/-- a name is given one -/
theorem es_lc (o : XOk S C W Φ X) {tg it elt : Expr} {ifs : List Expr} {scope : Scope} {pos spos py : Pos} {t : List Nat} {i c x : Ex} {y : Str} {l : Nat}
    (hb : blkC S.N S.sc scope ((tgNames tg).zip t) = true) (hl : (tgNames tg).length = t.length)
    (hi : PI X tg it (tEvI Φ C W X.K i)) (hs : ∀ z, foldedSetIterable it X.env z = pure z)
    (ht : ∀ X', XOk { S with sc := relS scope S.sc, df := false } C WF Φ X' → X'.K = X.K → PG X' tg (tTg X.K t))
    (hc : ∀ X', XOk { S with sc := relS scope S.sc, df := false } C WF Φ X' → X'.K = X.K → PTs X' ifs (tEvC Φ C WF X.K c))
    (he : ∀ X', XOk { S with sc := relS scope S.sc, df := false } C WF Φ X' → X'.K = X.K → PE X' elt (tEv Φ C WF X.K x))
    (hk : S.sc.kind = .function) (hy : S.sc.names.lookup y = some .local) (hyi : idx S.N y = some l) (hln : (py.line == pos.line) = true) (ha : (scope.names.any fun (n, k) => n == y && (k == .local || k == .cell)) = false) :
    PS X (.Assign [.Name y py] (.ListComp elt [⟨tg, it, ifs, 0⟩] scope pos) spos) (tAsg (tEv Φ C W X.K (.lc t i c x)) (gName l)) := by
  have ok : BlkOk X.N X.env.scope scope ((tgNames tg).zip t) := blkOk_by (by rw [o.N, o.sc]; exact hb)
  have hown : ((tgNames tg).zip t).map (·.2) = t := by rw [List.map_snd_zip (by omega)]
  refine PS.imp (ps_setLc o.calm (by rw [o.N]; exact o.nd) (o.at hyi) (by rw [o.sc]; exact hy) (sw_true (by rw [o.sc]; exact hk) (by rw [o.sc]; exact hy) hln ha) hi ok (fun s H Cl cl fp => ht _ (o.blk s H scope Cl cl fp) rfl) (fun s H Cl cl fp => hc _ (o.blk s H scope Cl cl fp) rfl) (fun s H Cl cl fp => he _ (o.blk s H scope Cl cl fp) rfl) hs) fun D σ H h => ?_
  rw [hown]
  exact lc_sem h
end
end PL
namespace PL
open L2 PySem PyProof.Rows PySem.Spec
section
variable {S : Sc} {C : Str → Option Addr} {W : WX} {Φ : Ora} {X : Cx}
theorem slot_val {g : Gh} {F H : Hp} {e : Env} {σ : L2.St} {i : Nat} {s : Slot} (k : Ok g F e σ H) (h : e[i]? = some s) (hs : s ≠ .un) : ∃ v, σ[i]? = some (some v) := by
  have so := k.slot i s h
  cases s with
  | un => exact absurd rfl hs
  | fz d => obtain ⟨v, a, _⟩ := so; exact ⟨v, a⟩
  | ow d => obtain ⟨v, a, _⟩ := so; exact ⟨_, a⟩
  | bw d => obtain ⟨v, a, _⟩ := so; exact ⟨_, a⟩
  | io d => obtain ⟨v, a, _⟩ := so; exact ⟨_, a⟩
theorem ee_var (o : XOk S C W Φ X) {x : Str} {i : Nat} {pos : Pos} (h1 : seen S x = true) (h2 : idx S.N x = some i) : PE X (.Name x pos) (tEv Φ C W X.K (.var i)) := by
  obtain ⟨a, b, c⟩ := o.vis h1
  refine PE.imp (pe_var (o.at h2) a b c) fun σ H Q ⟨g, F, e, hK, hC, k, tm⟩ => ?_
  have tm' : TM g W σ (match e[i]? with | some .un => (Rz.bad : Rz Opd) | none => .bad | some _ => .ok (.s i) e) (fun (o' : Opd) (e' : Env) => ∀ F' H', Sub F F' → Ok g F' e' σ H' → ∀ v, OpOk g F' H' e' σ o' v → Q v H') := tm
  cases q : e[i]? with
  | none => rw [q] at tm'; exact tm'.elim
  | some s =>
    rw [q] at tm'
    have go : s ≠ .un → (∀ F' H', Sub F F' → Ok g F' e σ H' → ∀ v, OpOk g F' H' e σ (.s i) v → Q v H') → tVar i σ H Q := fun hs tm2 => by
      obtain ⟨v, hv⟩ := slot_val k q hs
      exact ⟨v, hv, tm2 F H (Same.refl _) k v hv⟩
    cases s with
    | un => exact tm'.elim
    | fz d => exact go (fun z => by cases z) tm'
    | ow d => exact go (fun z => by cases z) tm'
    | bw d => exact go (fun z => by cases z) tm'
    | io d => exact go (fun z => by cases z) tm'
theorem ee_gl (o : XOk S C W Φ X) {x : Str} {pos : Pos} (h1 : glob S x = true) (h2 : S.gc x = true) : PE X (.Name x pos) (tEv Φ C W X.K (.gl x)) := by
  obtain ⟨a, b, _⟩ := o.gl h1
  obtain ⟨d, u, v, g1, g2, g3, g4⟩ := o.gc x h2
  refine PE.imp (pe_glob a g2 g3 b) fun σ H Q ⟨g, F, e, hK, hC, k, tm⟩ => ?_
  obtain ⟨d', q1, t1⟩ := tm_lift (tm_bind tm)
  rw [g1] at q1
  cases q1
  exact t1 F H (Same.refl _) k v (by rw [← hK] at g4; exact g4.mono fun _ _ z => by cases z)
/-- a constant -/
theorem ee_const {e : Expr} {c : Ex} {d : D} {v : V} (h : PE X e (tC v)) (hc : ∀ en, ev Φ c en = .ok (.v d) en) (r : ∀ F, Rep X.K F d v) : PE X e (tEv Φ C W X.K c) := by
  refine PE.imp h fun σ H Q ⟨g, F, e, hK, hC, k, tm⟩ => ?_
  rw [hc] at tm
  exact tm F H (Same.refl _) k v (by rw [← hK] at r; exact r F)
theorem ee_bin {f : Expr → Option Ex} (hf : ∀ {e c}, f e = some c → PE X e (tEv Φ C W X.K c)) {a b : Expr} {o : Operator} {bo : BOp} {ca cb : Ex} {pos : Pos} (ho : cB o = some bo) (ha : f a = some ca) (hb : f b = some cb) :
    PE X (.BinOp a o b pos) (tEv Φ C W X.K (.bin bo ca cb)) := by
  have eo : o = opB bo := by cases o <;> cases ho <;> rfl
  subst eo
  obtain ⟨r, h1, h2⟩ := bin_ok (X := X) bo
  refine PE.imp (pe_op h1 (hf ha) (hf hb)) fun σ H Q ⟨g, F, e, hK, hC, k, tm⟩ => ?_
  refine two_ok hK hC k tm fun F2 H2 e2 x y v1 v2 s2 k2 o1 o2 t2 => ?_
  obtain ⟨dx, q1, t3⟩ := tm_rd (tm_bind t2)
  obtain ⟨dy, q2, t4⟩ := tm_rd (tm_bind t3)
  obtain ⟨c, q3, t5⟩ := tm_lift t4
  exact h2 hK k2 (rdz k2 o1 q1) (rdz k2 o2 q2) q3 fun F' H' v s k' ov => t5 F' H' (s2.trans s) k' v ov
theorem ee_neg {a : Expr} {ca : Ex} {pos : Pos} (ha : PE X a (tEv Φ C W X.K ca)) : PE X (.UnaryOp .USub a pos) (tEv Φ C W X.K (.neg ca)) := by
  refine PE.imp (pe_un un_neg ha) fun σ H Q ⟨g, F, e, hK, hC, k, tm⟩ => ?_
  refine one_ok hK hC k tm fun F2 H2 e2 x v1 s2 k2 n1 o1 t2 => ?_
  obtain ⟨dx, q1, t3⟩ := tm_rd (tm_bind t2)
  have r1 := rdz k2 o1 q1
  cases dx with
  | int i =>
    cases r1.int
    exact ⟨i, rfl, t3 F2 H2 s2 k2 _ (.int _)⟩
  | _ => exact t3.elim
theorem ee_not {a : Expr} {ca : Ex} {pos : Pos} (ha : PE X a (tEv Φ C W X.K ca)) : PE X (.UnaryOp .Not a pos) (tEv Φ C W X.K (.not ca)) := by
  refine PE.imp (pe_notT ha) fun σ H Q ⟨g, F, e, hK, hC, k, tm⟩ => ?_
  refine one_ok hK hC k tm fun F2 H2 e2 x v1 s2 k2 n1 o1 t2 => ?_
  obtain ⟨dx, q1, t3⟩ := tm_rd (tm_bind t2)
  obtain ⟨b, q2, t4⟩ := tm_lift (tm_bind t3)
  exact ⟨b, tru_of hK k2 (rdz k2 o1 q1) q2, t4 F2 H2 s2 k2 _ (.bl _)⟩
/-- and, or as values -/
theorem ee_bool {f : Expr → Option Ex} (hf : ∀ {e c}, f e = some c → PE X e (tEv Φ C W X.K c)) {op : BoolOp} {and : Bool} (hop : op = if and = true then .And else .Or) : ∀ {es : List Expr} {c : Ex} {pos : Pos}, cBool f and es = some c → PE X (.BoolOp op es pos) (tEv Φ C W X.K c)
  | [], c, pos, h => by cases h
  | [e], c, pos, h => pe_one (hf h)
  | e :: b :: es, c, pos, h => by
    have h' : ((f e).bind fun a => (cBool f and (b :: es)).map fun r => if and = true then Ex.and a r else .or a r) = some c := h
    obtain ⟨a, h1, h2⟩ := Option.bind_eq_some_iff.mp h'
    obtain ⟨r, h3, h4⟩ := Option.map_eq_some_iff.mp h2
    have ih := ee_bool hf hop (pos := pos) h3
    cases and with
    | true =>
      have e1 : op = .And := hop
      subst e1
      have e2 : Ex.and a r = c := h4
      subst e2
      refine PE.imp (pe_andT (hf h1) ih) fun σ H Q ⟨g, F, e, hK, hC, k, tm⟩ => ?_
      refine one_ok hK hC k tm fun F2 H2 e2 x v1 s2 k2 n1 o1 t2 => ?_
      obtain ⟨dx, q1, t3⟩ := tm_rd (tm_bind t2)
      obtain ⟨b, q2, t4⟩ := tm_lift (tm_bind t3)
      refine ⟨b, tru_of hK k2 (rdz k2 o1 q1) q2, ?_⟩
      cases b with
      | true =>
        refine iteT ⟨g, F2, e2, hK, hC, k2, TM.mono (show TM g W σ (ev Φ r e2) _ from t4) fun o' e' _ w F' H' s k' => w F' H' (s2.trans s) k'⟩
      | false =>
        refine iteF ?_
        have t5 : ∀ F' H', Sub F F' → Ok g F' e2 σ H' → ∀ v, OpOk g F' H' e2 σ x.fz v → Q v H' := t4
        exact t5 F2 H2 s2 k2 v1 o1
    | false =>
      have e1 : op = .Or := hop
      subst e1
      have e2 : Ex.or a r = c := h4
      subst e2
      refine PE.imp (pe_orT (hf h1) ih) fun σ H Q ⟨g, F, e, hK, hC, k, tm⟩ => ?_
      refine one_ok hK hC k tm fun F2 H2 e2 x v1 s2 k2 n1 o1 t2 => ?_
      obtain ⟨dx, q1, t3⟩ := tm_rd (tm_bind t2)
      obtain ⟨b, q2, t4⟩ := tm_lift (tm_bind t3)
      refine ⟨b, tru_of hK k2 (rdz k2 o1 q1) q2, ?_⟩
      cases b with
      | false =>
        refine iteF ⟨g, F2, e2, hK, hC, k2, TM.mono (show TM g W σ (ev Φ r e2) _ from t4) fun o' e' _ w F' H' s k' => w F' H' (s2.trans s) k'⟩
      | true =>
        refine iteT ?_
        have t5 : ∀ F' H', Sub F F' → Ok g F' e2 σ H' → ∀ v, OpOk g F' H' e2 σ x.fz v → Q v H' := t4
        exact t5 F2 H2 s2 k2 v1 o1
theorem ee_ite {c a b : Expr} {cc ca cb : Ex} {pos : Pos} (hc : PT X c (tEvT Φ C W X.K cc)) (ha : PE X a (tEv Φ C W X.K ca)) (hb : PE X b (tEv Φ C W X.K cb)) : PE X (.IfExp c a b pos) (tEv Φ C W X.K (.ite cc ca cb)) := by
  refine PE.imp (pe_ifExp hc ha hb) fun σ H Q ⟨g, F, e, hK, hC, k, tm⟩ => ?_
  refine ⟨g, F, e, hK, hC, k, (tm_bind tm).mono fun b e1 _ t1 F1 H1 s1 k1 => ?_⟩
  cases b with
  | true => exact iteT ⟨g, F1, e1, hK, hC, k1, TM.mono (show TM g W σ (ev Φ ca e1) _ from t1) fun o' e' _ w F' H' s k' => w F' H' (s1.trans s) k'⟩
  | false => exact iteF ⟨g, F1, e1, hK, hC, k1, TM.mono (show TM g W σ (ev Φ cb e1) _ from t1) fun o' e' _ w F' H' s k' => w F' H' (s1.trans s) k'⟩
/-- a comparison that is no mark -/
def isSet : Expr → Bool
  | .Set _ _ _ => true
  | _ => false
theorem nomark_of {op : CmpOp} {e : Expr} (h : isSet e = false) : behindInMarks op e = false := by
  cases e <;> first | rfl | cases h
theorem ee_cmp (o : XOk S C W Φ X) {f : Expr → Option Ex} (hf : ∀ {e c}, f e = some c → PE X e (tEv Φ C W X.K c)) (hset : ∀ {e c}, f e = some c → isSet e = false) {a b : Expr} {op : CmpOp} {c : Ex} {pos : Pos} (h : cCmp f a op b = some c) :
    PE X (.Compare a [op] [b] pos) (tEv Φ C W X.K c) ∧ PT X (.Compare a [op] [b] pos) (tEvT Φ C W X.K (.so c)) := by
  have isCase : ∀ (n : Bool), op = (if n = true then .IsNot else .Is) → ((cK b).bind fun k => (f a).map fun a => Ex.is n k a) = some c → PE X (.Compare a [op] [b] pos) (tEv Φ C W X.K c) ∧ PT X (.Compare a [op] [b] pos) (tEvT Φ C W X.K (.so c)) := by
    intro n hop h
    obtain ⟨k, h1, h2⟩ := Option.bind_eq_some_iff.mp h
    obtain ⟨ca, h3, rfl⟩ := Option.map_eq_some_iff.mp h2
    have hb : PE X b (tC (konV k)) := by
      cases b with
      | Constant cst kk p =>
        cases cst with
        | none => cases h1; exact pe_non
        | bool bb => cases bb <;> (cases h1; exact pe_bl)
        | _ => cases h1
      | _ => cases h1
    obtain ⟨r, r1, r2⟩ := is_ok (X := X) n k
    rw [← hop] at r1
    have hm : behindInMarks op b = false := nobehind b (by rw [hop]; cases n <;> decide) (by rw [hop]; cases n <;> decide)
    refine ⟨PE.imp (pe_cmpR r1 (hf h3) hb hm) fun σ H Q ⟨g, F, e, hK, hC, kk, tm⟩ => ?_, PT.imp (pt_cmpR r1 (hf h3) hb hm) fun σ H Q ⟨g, F, e, hK, hC, kk, tm⟩ => ?_⟩
    · refine one_ok hK hC kk tm fun F2 H2 e2 x v1 s2 k2 n1 o1 t2 => ?_
      obtain ⟨dx, q1, t3⟩ := tm_rd (tm_bind t2)
      obtain ⟨bb, q2, t4⟩ := tm_lift (tm_bind t3)
      obtain ⟨b0, q3, rfl⟩ := Option.map_eq_some_iff.mp q2
      exact r2 (rdz k2 o1 q1) q3 (t4 F2 H2 s2 k2 _ (.bl _))
    · refine one_ok hK hC kk (tm_bind tm) fun F2 H2 e2 x v1 s2 k2 n1 o1 t2 => ?_
      obtain ⟨dx, q1, t3⟩ := tm_rd (tm_bind t2)
      obtain ⟨bb, q2, t4⟩ := tm_lift (tm_bind t3)
      obtain ⟨b0, q3, rfl⟩ := Option.map_eq_some_iff.mp q2
      refine r2 (rdz k2 o1 q1) q3 ⟨_, rfl, ?_⟩
      have t5 : ∀ F' H', Sub F F' → Ok g F' e2 σ H' → Q (if n = true then !b0 else b0) H' := t4
      exact t5 F2 H2 s2 k2
  have opCase : ((cC op).bind fun o => (f a).bind fun a => (f b).map fun b => Ex.cmp o a b) = some c → PE X (.Compare a [op] [b] pos) (tEv Φ C W X.K c) ∧ PT X (.Compare a [op] [b] pos) (tEvT Φ C W X.K (.so c)) := by
    intro h
    obtain ⟨co, h1, h2⟩ := Option.bind_eq_some_iff.mp h
    obtain ⟨ca, h3, h4⟩ := Option.bind_eq_some_iff.mp h2
    obtain ⟨cb, h5, rfl⟩ := Option.map_eq_some_iff.mp h4
    have eo : op = opC co := by cases op <;> cases h1 <;> rfl
    subst eo
    obtain ⟨r, r1, r2⟩ := cmp_ok (X := X) o.units co
    have hm := nomark_of (op := opC co) (hset h5)
    refine ⟨PE.imp (pe_cmpR r1 (hf h3) (hf h5) hm) fun σ H Q ⟨g, F, e, hK, hC, kk, tm⟩ => ?_, PT.imp (pt_cmpR r1 (hf h3) (hf h5) hm) fun σ H Q ⟨g, F, e, hK, hC, kk, tm⟩ => ?_⟩
    · refine two_ok hK hC kk tm fun F2 H2 e2 x y v1 v2 s2 k2 o1 o2 t2 => ?_
      obtain ⟨dx, q1, t3⟩ := tm_rd (tm_bind t2)
      obtain ⟨dy, q2, t4⟩ := tm_rd (tm_bind t3)
      obtain ⟨bb, q3, t5⟩ := tm_lift (tm_bind t4)
      exact r2 hK k2 (rdz k2 o1 q1) (rdz k2 o2 q2) q3 (t5 F2 H2 s2 k2 _ (.bl _))
    · refine two_ok hK hC kk (tm_bind tm) fun F2 H2 e2 x y v1 v2 s2 k2 o1 o2 t2 => ?_
      obtain ⟨dx, q1, t3⟩ := tm_rd (tm_bind t2)
      obtain ⟨dy, q2, t4⟩ := tm_rd (tm_bind t3)
      obtain ⟨bb, q3, t5⟩ := tm_lift (tm_bind t4)
      refine r2 hK k2 (rdz k2 o1 q1) (rdz k2 o2 q2) q3 ⟨_, rfl, ?_⟩
      have t6 : ∀ F' H', Sub F F' → Ok g F' e2 σ H' → Q bb H' := t5
      exact t6 F2 H2 s2 k2
  cases op with
  | Is => exact isCase false rfl h
  | IsNot => exact isCase true rfl h
  | _ => exact opCase h
end
end PL
namespace PL
open L2 PySem PyProof.Rows PySem.Spec
section
variable {S : Sc} {C : Str → Option Addr} {W : WX} {Φ : Ora} {X : Cx}
theorem ee_chn (o : XOk S C W Φ X) {f : Expr → Option Ex} (hf : ∀ {e c}, f e = some c → PE X e (tEv Φ C W X.K c)) (hset : ∀ {e c}, f e = some c → isSet e = false) {a b c : Expr} {op oq : CmpOp} {cc : Ex} {pos : Pos} (h : cChn f a op oq b c = some cc) :
    PE X (.Compare a [op, oq] [b, c] pos) (tEv Φ C W X.K cc) ∧ PT X (.Compare a [op, oq] [b, c] pos) (tEvT Φ C W X.K (.so cc)) := by
  obtain ⟨co, h1, h2⟩ := Option.bind_eq_some_iff.mp h
  obtain ⟨cq, h3, h4⟩ := Option.bind_eq_some_iff.mp h2
  obtain ⟨ca, h5, h6⟩ := Option.bind_eq_some_iff.mp h4
  obtain ⟨cb, h7, h8⟩ := Option.bind_eq_some_iff.mp h6
  obtain ⟨ce, h9, rfl⟩ := Option.map_eq_some_iff.mp h8
  have e1 : op = opC co := by cases op <;> cases h1 <;> rfl
  have e2 : oq = opC cq := by cases oq <;> cases h3 <;> rfl
  subst e1 e2
  obtain ⟨r, r1, r2⟩ := cmp_ok (X := X) o.units co
  obtain ⟨q, q1, q2⟩ := cmp_ok (X := X) o.units cq
  have hm : lastMarks [opC co, opC cq] [b, c] = false := by
    have m1 := nomark_of (op := opC co) (hset h7)
    have m2 := nomark_of (op := opC cq) (hset h9)
    first
      | exact m2
      | simp [lastMarks, m1, m2]
  refine ⟨PE.imp (pe_chain r1 q1 (hf h5) (hf h7) (hf h9) hm) fun σ H Q ⟨g, F, e, hK, hC, k, tm⟩ => ?_, PT.imp (pt_chain r1 q1 (hf h5) (hf h7) (hf h9) hm) fun σ H Q ⟨g, F, e, hK, hC, k, tm⟩ => ?_⟩
  · refine one_ok hK hC k tm fun F1 H1 e1 x v1 s1 k1 n1 o1 t1 => one_ok hK hC k1 t1 fun F2 H2 e2 y v2 s2 k2 n2 o2 t2 => ?_
    have o1' := op_move (H' := H2) (e' := e2) n1 o1 s2
    obtain ⟨dx, w1, t3⟩ := tm_rd (tm_bind t2)
    obtain ⟨dy, w2, t4⟩ := tm_rd (tm_bind t3)
    obtain ⟨bb, w3, t5⟩ := tm_lift (tm_bind t4)
    refine r2 hK k2 (rdz k2 o1' w1) (rdz k2 o2 w2) w3 ⟨bb, rfl, ?_⟩
    cases bb with
    | false =>
      have t6 : ∀ F' H', Sub F F' → Ok g F' e2 σ H' → ∀ v, OpOk g F' H' e2 σ (.v (.bl false)) v → Q v H' := t5
      exact iteF (t6 F2 H2 (s1.trans s2) k2 _ (.bl _))
    | true =>
      have t6 : TM g W σ (M.bind (ev Φ ce) (fun z => M.bind (rd y) fun dy => M.bind (rd z) fun dz => bl (cmpD cq dy dz)) e2) (fun (o' : Opd) (e' : Env) => ∀ F' H', Sub F F' → Ok g F' e' σ H' → ∀ v, OpOk g F' H' e' σ o' v → Q v H') := t5
      refine iteT (one_ok hK hC k2 t6 fun F3 H3 e3 z v3 s3 k3 n3 o3 t7 => ?_)
      obtain ⟨dy', w4, t8⟩ := tm_rd (tm_bind t7)
      obtain ⟨dz, w5, t9⟩ := tm_rd (tm_bind t8)
      obtain ⟨b2, w6, t10⟩ := tm_lift (tm_bind t9)
      exact q2 hK k3 (rdz k3 (op_move n2 o2 s3) w4) (rdz k3 o3 w5) w6 (t10 F3 H3 ((s1.trans s2).trans s3) k3 _ (.bl _))
  · refine one_ok hK hC k (tm_bind tm) fun F1 H1 e1 x v1 s1 k1 n1 o1 t1 => one_ok hK hC k1 t1 fun F2 H2 e2 y v2 s2 k2 n2 o2 t2 => ?_
    have o1' := op_move (H' := H2) (e' := e2) n1 o1 s2
    obtain ⟨dx, w1, t3⟩ := tm_rd (tm_bind t2)
    obtain ⟨dy, w2, t4⟩ := tm_rd (tm_bind t3)
    obtain ⟨bb, w3, t5⟩ := tm_lift (tm_bind t4)
    refine r2 hK k2 (rdz k2 o1' w1) (rdz k2 o2 w2) w3 ⟨bb, rfl, ?_⟩
    cases bb with
    | false =>
      have t6 : ∀ F' H', Sub F F' → Ok g F' e2 σ H' → Q false H' := t5
      exact iteF ⟨false, rfl, t6 F2 H2 (s1.trans s2) k2⟩
    | true =>
      have t6 : TM g W σ (M.bind (ev Φ ce) (fun z => M.bind (rd y) fun dy => M.bind (rd z) fun dz => bl (cmpD cq dy dz)) e2) (fun (o' : Opd) (e' : Env) => TM g W σ (M.bind (rd o') (fun d => M.lift (truD d)) e') fun b e'' => ∀ F' H', Sub F F' → Ok g F' e'' σ H' → Q b H') := t5
      refine iteT (one_ok hK hC k2 t6 fun F3 H3 e3 z v3 s3 k3 n3 o3 t7 => ?_)
      obtain ⟨dy', w4, t8⟩ := tm_rd (tm_bind t7)
      obtain ⟨dz, w5, t9⟩ := tm_rd (tm_bind t8)
      obtain ⟨b2, w6, t10⟩ := tm_lift (tm_bind t9)
      refine q2 hK k3 (rdz k3 (op_move n2 o2 s3) w4) (rdz k3 o3 w5) w6 ⟨b2, rfl, ?_⟩
      have t11 : ∀ F' H', Sub F F' → Ok g F' e3 σ H' → Q b2 H' := t10
      exact t11 F3 H3 ((s1.trans s2).trans s3) k3
theorem ee_tup {es : List Expr} {c : Ex} {kk : Nat} {pos : Pos} (h : PA X es (tEvc Φ C W X.K c)) : PE X (.Tuple es kk pos) (tEv Φ C W X.K (.tup c)) := by
  refine PE.imp (pe_tup h) fun σ H Q ⟨g, F, e, hK, hC, k, tm⟩ => ?_
  have tm0 : TM g W σ (M.bind (evc Φ c) (fun ds => fun e => if ds.length ≤ sizeLine then Rz.ok (Opd.v (.tup ds)) e else Rz.bad) e) (fun (o' : Opd) (e' : Env) => ∀ F' H', Sub F F' → Ok g F' e' σ H' → ∀ v, OpOk g F' H' e' σ o' v → Q v H') := tm
  refine ⟨g, F, e, hK, hC, k, (tm_bind tm0).mono fun ds e1 _ t1 F1 H1 s1 k1 vs r => ?_⟩
  by_cases hz : ds.length ≤ sizeLine
  · rw [if_pos hz] at t1
    exact ⟨by rw [← r.length]; exact hz, fun p hp => want_tup k1 r (fun F' H' v s k' ov => t1 F' H' (s1.trans s) k' v ov) hp⟩
  · rw [if_neg hz] at t1
    exact t1.elim
theorem ee_lst {es : List Expr} {c : Ex} {pos : Pos} (h : PA X es (tEvc Φ C W X.K c)) : PE X (.List es pos) (tEv Φ C W X.K (.lst c)) := by
  refine PE.imp (pe_lst h) fun σ H Q ⟨g, F, e, hK, hC, k, tm⟩ => ?_
  have tm0 : TM g W σ (M.bind (evc Φ c) (fun ds => fun e => if ds.length ≤ sizeLine then Rz.ok (Opd.n (.lst ds)) e else Rz.bad) e) (fun (o' : Opd) (e' : Env) => ∀ F' H', Sub F F' → Ok g F' e' σ H' → ∀ v, OpOk g F' H' e' σ o' v → Q v H') := tm
  refine ⟨g, F, e, hK, hC, k, (tm_bind tm0).mono fun ds e1 _ t1 F1 H1 s1 k1 vs r => ?_⟩
  by_cases hz : ds.length ≤ sizeLine
  · rw [if_pos hz] at t1
    exact ⟨by rw [← r.length]; exact hz, fun p hp => want_lst k1 r (fun F' H' v s k' ov => t1 F' H' (s1.trans s) k' v ov) hp⟩
  · rw [if_neg hz] at t1
    exact t1.elim
theorem ee_sub {a b : Expr} {ca cb : Ex} {pos : Pos} (ha : PE X a (tEv Φ C W X.K ca)) (hb : PE X b (tEv Φ C W X.K cb)) (hp : PlainIx b) : PE X (.Subscript a b pos) (tEv Φ C W X.K (.sub ca cb)) := by
  refine PE.imp (pe_ix ix_seq ha hb hp) fun σ H Q ⟨g, F, e, hK, hC, k, tm⟩ => ?_
  refine two_ok hK hC k tm fun F2 H2 e2 x y v1 v2 s2 k2 o1 o2 t2 => ?_
  obtain ⟨dx, q1, t3⟩ := tm_rd (tm_bind t2)
  obtain ⟨dy, q2, t4⟩ := tm_rd (tm_bind t3)
  obtain ⟨d, q3, t5⟩ := tm_lift (tm_bind t4)
  have t6 : ∀ F' H', Sub F F' → Ok g F' e2 σ H' → ∀ v, OpOk g F' H' e2 σ (.v d) v → Q v H' := t5
  exact sub_ok hK k2 (rdz k2 o1 q1) (rdz k2 o2 q2) q3 fun F' H' v s k' ov => t6 F' H' (s2.trans s) k' v ov
theorem ee_sli {a : Expr} {lo hi : Option Expr} {ca cl ch : Ex} {pos p2 : Pos} (ha : PE X a (tEv Φ C W X.K ca)) (hl : PO X lo (tEvP Φ C W X.K cl)) (hh : PO X hi (tEvP Φ C W X.K ch)) : PE X (.Subscript a (.Slice lo hi none p2) pos) (tEv Φ C W X.K (.sli ca cl ch)) := by
  refine PE.imp (pe_slice sl_any ha hl hh) fun σ H Q ⟨g, F, e, hK, hC, k, tm⟩ => ?_
  refine one_ok hK hC k tm fun F1 H1 e1 x v1 s1 k1 n1 o1 t1 => ?_
  refine ⟨g, F1, e1, hK, hC, k1, (tm_bind t1).mono fun l e2 _ t2 F2 H2 s2 k2 => ?_⟩
  refine ⟨g, F2, e2, hK, hC, k2, (tm_bind t2).mono fun h e3 _ t3 F3 H3 s3 k3 => ?_⟩
  obtain ⟨dx, q1, t4⟩ := tm_rd (tm_bind t3)
  obtain ⟨c, q2, t5⟩ := tm_lift t4
  exact sli_ok hK k3 (rdz k3 (op_move n1 o1 (s2.trans s3)) q1) q2 fun F' H' v s k' ov => t5 F' H' (((s1.trans s2).trans s3).trans s) k' v ov
theorem ee_rev {a : Expr} {ca : Ex} {st : Expr} {pos p2 : Pos} (ha : PE X a (tEv Φ C W X.K ca)) (hs : isOne st = true) : PE X (.Subscript a (.Slice none none (some st) p2) pos) (tEv Φ C W X.K (.rev ca)) := by
  obtain ⟨kk, q1, q2, rfl⟩ : ∃ kk q1 q2, st = .UnaryOp .USub (.Constant (.int 1) kk q1) q2 := by
    unfold isOne at hs
    split at hs
    · exact ⟨_, _, _, rfl⟩
    · cases hs
  refine PE.imp (pe_revL ha) fun σ H Q ⟨g, F, e, hK, hC, k, tm⟩ => ?_
  refine one_ok hK hC k tm fun F1 H1 e1 x v1 s1 k1 n1 o1 t1 => ?_
  obtain ⟨dx, w1, t2⟩ := tm_rd (tm_bind t1)
  obtain ⟨c, w2, t3⟩ := tm_lift t2
  exact rev_ok k1 (rdz k1 o1 w1) w2 fun F' H' v s k' ov => t3 F' H' (s1.trans s) k' v ov
/-- built-in functions -/
theorem ee_blt (o : XOk S C W Φ X) {f : Expr → Option Ex} (hf : ∀ e c, f e = some c → PE X e (tEv Φ C W X.K c)) {x : Str} {p pos : Pos} {e : Expr} {es : List Expr} {b : Blt} {c : Ex} (h1 : glob S x = true) (h2 : S.free x = true) (h3 : cBlt x = some b) (h4 : cEs f (e :: es) = some c) :
    PE X (.Call (.Name x p) (e :: es) [] pos) (tEv Φ C W X.K (.blt b c)) := by
  obtain ⟨g1, g2, g3⟩ := o.gl h1
  have hm := o.fr x h2
  have ha := pa_evs hf h4
  have hst := star_of (env := X.env) (es := es) (stars_head h4).1
  have hpl : (backTo pos (starEach es X.env)).any (·.1) = false := by
    obtain ⟨_, a, r, _, h5, _⟩ := stars_head h4
    exact plain_stars h5
  have hx : x = (bltK b).1 := by
    unfold cBlt at h3
    split at h3
    · rename_i z; cases h3; exact beq_iff_eq.mp z
    · split at h3
      · rename_i z; cases h3; exact beq_iff_eq.mp z
      · split at h3
        · rename_i z; cases h3; exact beq_iff_eq.mp z
        · split at h3
          · rename_i z; cases h3; exact beq_iff_eq.mp z
          · cases h3
  obtain ⟨r, r1, r2⟩ := blt_ok (X := X) b
  have fin : ∀ σ H Q, tEv Φ C W X.K (.blt b c) σ H Q → tCB r (tEvs Φ C W X.K c) σ H Q := fun σ H Q ⟨g, F, e, hK, hC, k, tm⟩ => by
    refine ⟨g, F, e, hK, hC, k, (tm_bind tm).mono fun os e1 _ t1 F1 H1 s1 k1 vs o1 => ?_⟩
    obtain ⟨ds, w1, t2⟩ := rds_ok k1 o1 t1
    obtain ⟨c', w2, t3⟩ := tm_lift t2
    exact r2 hK k1 w1 w2 fun F' H' v s k' ov => t3 F' H' (s1.trans s) k' v ov
  have hv : bootBuiltins x = some (bltK b).2 := by rw [hx]; cases b <;> decide +kernel
  cases b with
  | len => exact PE.imp (pe_callB r1 g1 hm hv ha g3 g2 hst hpl) fin
  | int => exact PE.imp (pe_callTy r1 g1 hm hv ha g3 g2 hst hpl) fin
  | list => exact PE.imp (pe_callTy r1 g1 hm hv ha g3 g2 hst hpl) fin
  | tuple => exact PE.imp (pe_callTy r1 g1 hm hv ha g3 g2 hst hpl) fin
/-- isinstance(x, T) -/
theorem ee_isi (o : XOk S C W Φ X) {a : Expr} {ca : Ex} {x t : Str} {p p2 pos : Pos} {ty : Ty} (hx : x = ("isinstance" : Str)) (h1 : glob S x = true) (h2 : S.free x = true) (h3 : glob S t = true) (h4 : S.free t = true) (h5 : cTy t = some ty) (hs : isStar a = false) (ha : PE X a (tEv Φ C W X.K ca)) :
    PE X (.Call (.Name x p) [a, .Name t p2] [] pos) (tEv Φ C W X.K (.isi ty ca)) := by
  obtain ⟨g1, g2, g3⟩ := o.gl h1
  obtain ⟨t1, t2, t3⟩ := o.gl h3
  have ht : t = Str.ofString (tyN ty) ∧ bootBuiltins t = some (.type (tyN ty)) := by
    have : t = Str.ofString (tyN ty) := by
      unfold cTy at h5
      split at h5
      · rename_i z; cases h5; exact beq_iff_eq.mp z
      · split at h5
        · rename_i z; cases h5; exact beq_iff_eq.mp z
        · split at h5
          · rename_i z; cases h5; exact beq_iff_eq.mp z
          · split at h5
            · rename_i z; cases h5; exact beq_iff_eq.mp z
            · split at h5
              · rename_i z; cases h5; exact beq_iff_eq.mp z
              · cases h5
    refine ⟨this, ?_⟩
    rw [this]
    cases ty <;> decide +kernel
  have hb : PE X (.Name t p2) (tC (.ty (tyN ty))) := pe_bltn t1 (o.fr t h4) ht.2 rfl t3 t2
  have e1 := star_of (es := [.Name t p2]) (env := X.env) hs
  refine PE.imp (pe_callB call_isi g1 (o.fr x h2) (by rw [hx]; decide +kernel) (pa_cons ha (pa_cons hb pa_nil) e1) g3 g2 e1 rfl) fun σ H Q ⟨g, F, e, hK, hC, k, tm⟩ => ?_
  refine one_ok hK hC k tm fun F1 H1 e1 x v1 s1 k1 n1 o1 t1 => ?_
  obtain ⟨dx, w1, t2⟩ := tm_rd (tm_bind t1)
  have t6 : ∀ F' H', Sub F F' → Ok g F' e1 σ H' → ∀ v, OpOk g F' H' e1 σ (.v (.bl (isiD ty dx))) v → Q v H' := t2
  exact isi_ok hK k1 (rdz k1 o1 w1) (t6 F1 H1 s1 k1 _ (.bl _))
/-- methods of texts -/
theorem ee_mth {f : Expr → Option Ex} (hf : ∀ e c, f e = some c → PE X e (tEv Φ C W X.K c)) {ob : Expr} {co ca : Ex} {x : Str} {apos cpos : Pos} {es : List Expr} {m : Mth} (h1 : f ob = some co) (h2 : cEs f es = some ca) (h3 : cMth x es.length = some m)
    (hline : (apos.endLine == cpos.line) = true) (hn : es.length ≤ 3) (hbase : attributeBase ob x X.env (eval ob X.env) = eval ob X.env) : PE X (.Call (.Attribute ob x apos) es [] cpos) (tEv Φ C W X.K (.mth m co ca)) := by
  have hx : x = (mthK m).name ∧ es.length = (mthK m).args := by
    unfold cMth at h3
    split at h3
    · rename_i z; cases h3; exact ⟨beq_iff_eq.mp z.1, z.2⟩
    · split at h3
      · rename_i z; cases h3; exact ⟨beq_iff_eq.mp z.1, z.2⟩
      · split at h3
        · rename_i z; cases h3; exact ⟨beq_iff_eq.mp z.1, z.2⟩
        · split at h3
          · rename_i z; cases h3; exact ⟨beq_iff_eq.mp z.1, z.2⟩
          · cases h3
  obtain ⟨s1, s2, s3⟩ := mth_slot m
  obtain ⟨r, r1, r2⟩ := mth_ok (X := X) m
  obtain ⟨ex, en⟩ := hx
  subst ex
  have fin : ∀ (K : PySem.W.Frag) {x : V} {H : Hp}, (∃ z, x = .str z) → tyV K "str" x H := fun K x H ⟨z, e⟩ => by subst e; rfl
  cases es with
  | nil =>
    refine PE.imp (pe_bm0 s1 s2 s3 r1 (hf _ _ h1) hbase hline) fun σ H Q ⟨g, F, e, hK, hC, k, tm⟩ => ?_
    have ec : ca = .nil := by
      have h : some Ex.nil = some ca := h2
      cases h
      rfl
    subst ec
    refine one_ok hK hC k tm fun F1 H1 e1 x v1 s1' k1 n1 o1 t1 => ?_
    obtain ⟨dx, w1, t2⟩ := tm_rd (tm_bind t1)
    have rx := rdz k1 o1 w1
    cases dx with
    | str z =>
      have t2' : TM g W σ (M.bind (rds []) (fun ds => M.lift (mthD m (.str z) ds)) e1) (fun (o' : Opd) (e' : Env) => ∀ F' H', Sub F F' → Ok g F' e' σ H' → ∀ v, OpOk g F' H' e' σ o' v → Q v H') := t2
      obtain ⟨ds, w2, t4⟩ := rds_ok k1 (vs := []) ⟨rfl, fun j o v q => by simp at q⟩ t2'
      obtain ⟨c', w3, t5⟩ := tm_lift t4
      obtain ⟨a1, a2⟩ := r2 k1 rx w2 w3 fun F' H' v s k' ov => t5 F' H' (s1'.trans s) k' v ov
      exact ⟨fin _ a1, a2⟩
    | _ => exact t2.elim
  | cons e0 es =>
    have hst := star_of (env := X.env) (es := es) (stars_head h2).1
    have hpl : (backTo cpos (starEach es X.env)).any (·.1) = false := by
      obtain ⟨_, a, r, _, h5, _⟩ := stars_head h2
      exact plain_stars h5
    have hfew : ((backTo cpos (starEach (e0 :: es) X.env)).all (fun x => !x.1) && (backToKw cpos (keywordEach [] X.env)).all (fun x => x.1.isSome) && decide ((e0 :: es).length + ([] : List Keyword).length + (if ([] : List Keyword).isEmpty then 0 else 1) < 30)) = true := by
      have a1 : (backTo cpos (starEach (e0 :: es) X.env)).all (fun x => !x.1) = true := by
        have := plain_stars (env := X.env) (pos := cpos) h2
        rw [List.any_eq_false] at this
        rw [List.all_eq_true]
        intro z hz
        have q := this z hz
        cases hz1 : z.1 with
        | true => rw [hz1] at q; exact absurd rfl q
        | false => rfl
      rw [a1]
      have a2 : decide ((e0 :: es).length + ([] : List Keyword).length + (if ([] : List Keyword).isEmpty then 0 else 1) < 30) = true := by
        refine decide_eq_true ?_
        show (e0 :: es).length + 0 + 0 < 30
        omega
      rw [a2]
      rfl
    refine PE.imp (pe_bm s1 s2 s3 r1 (hf _ _ h1) (pa_evs hf h2) hbase hfew hline hst hpl) fun σ H Q ⟨g, F, e, hK, hC, k, tm⟩ => ?_
    refine one_ok hK hC k tm fun F1 H1 e1 x v1 s1' k1 n1 o1 t1 => ?_
    obtain ⟨dx, w1, t2⟩ := tm_rd (tm_bind t1)
    have rx := rdz k1 o1 w1
    cases dx with
    | str z =>
      cases rx.str
      refine ⟨fin _ ⟨z, rfl⟩, g, F1, e1, hK, hC, k1, (tm_bind (m := evs Φ ca) t2).mono fun os e2 _ t3 F2 H2 s2' k2 vs o2 => ?_⟩
      obtain ⟨ds, w2, t4⟩ := rds_ok k2 o2 t3
      obtain ⟨c', w3, t5⟩ := tm_lift t4
      exact (r2 k2 (.fz (.str z)) w2 w3 fun F' H' v s k' ov => t5 F' H' ((s1'.trans s2').trans s) k' v ov).2
    | _ => exact t2.elim
end
end PL
namespace PL
open L2 PySem PyProof.Rows PySem.Spec
section
variable {S : Sc} {C : Str → Option Addr} {W : WX} {Φ : Ora} {X : Cx}
theorem et_so {e : Expr} {c : Ex} (h : PE X e (tEv Φ C W X.K c)) (he : ∀ whole, isTrue e X.env whole = (do let v ← whole; standAt e.pos; holding [v] (truthy v))) : PT X e (tEvT Φ C W X.K (.so c)) := by
  refine PT.imp (pt_truth h he) fun σ H Q ⟨g, F, e, hK, hC, k, tm⟩ => ?_
  refine one_ok hK hC k tm fun F1 H1 e1 x v1 s1 k1 n1 o1 t1 => ?_
  obtain ⟨dx, w1, t2⟩ := tm_rd (tm_bind t1)
  obtain ⟨b, w2, t3⟩ := tm_lift t2
  have t4 : ∀ F' H', Sub F F' → Ok g F' e1 σ H' → Q b H' := t3
  exact ⟨b, tru_of hK k1 (rdz k1 o1 w1) w2, t4 F1 H1 s1 k1⟩
theorem et_not {e : Expr} {c : Ex} {pos : Pos} (h : PT X e (tEvT Φ C W X.K c)) : PT X (.UnaryOp .Not e pos) (tEvT Φ C W X.K (.not c)) := by
  refine PT.imp (pt_not h) fun σ H Q ⟨g, F, e, hK, hC, k, tm⟩ => ?_
  exact ⟨g, F, e, hK, hC, k, (tm_bind tm).mono fun b e1 _ t1 F1 H1 s1 k1 => t1 F1 H1 s1 k1⟩
theorem et_bool {f : Expr → Option Ex} (hf : ∀ {e c}, f e = some c → PT X e (tEvT Φ C W X.K c)) {op : BoolOp} {and : Bool} (hop : op = if and = true then .And else .Or) : ∀ {es : List Expr} {c : Ex} {pos : Pos}, cBool f and es = some c → PW X (.BoolOp op es pos) (tEvT Φ C W X.K c)
  | [], c, pos, h => by cases h
  | [e], c, pos, h => by
    cases and with
    | true =>
      have e1 : op = .And := hop
      subst e1
      exact pw_and1 (hf h)
    | false =>
      have e1 : op = .Or := hop
      subst e1
      exact pw_or1 (hf h)
  | e :: b :: es, c, pos, h => by
    have h' : ((f e).bind fun a => (cBool f and (b :: es)).map fun r => if and = true then Ex.and a r else .or a r) = some c := h
    obtain ⟨a, h1, h2⟩ := Option.bind_eq_some_iff.mp h'
    obtain ⟨r, h3, h4⟩ := Option.map_eq_some_iff.mp h2
    have ih := et_bool hf hop (pos := pos) h3
    cases and with
    | true =>
      have e1 : op = .And := hop
      subst e1
      have e2 : Ex.and a r = c := h4
      subst e2
      refine PW.imp (pw_and (hf h1) ih) fun σ H Q ⟨g, F, e, hK, hC, k, tm⟩ => ?_
      refine ⟨g, F, e, hK, hC, k, (tm_bind tm).mono fun b e1 _ t1 F1 H1 s1 k1 => ?_⟩
      cases b with
      | true => exact iteT ⟨g, F1, e1, hK, hC, k1, TM.mono (show TM g W σ (evT Φ r e1) _ from t1) fun o' e' _ w F' H' s k' => w F' H' (s1.trans s) k'⟩
      | false =>
        have t2 : ∀ F' H', Sub F F' → Ok g F' e1 σ H' → Q false H' := t1
        exact iteF (t2 F1 H1 s1 k1)
    | false =>
      have e1 : op = .Or := hop
      subst e1
      have e2 : Ex.or a r = c := h4
      subst e2
      refine PW.imp (pw_or (hf h1) ih) fun σ H Q ⟨g, F, e, hK, hC, k, tm⟩ => ?_
      refine ⟨g, F, e, hK, hC, k, (tm_bind tm).mono fun b e1 _ t1 F1 H1 s1 k1 => ?_⟩
      cases b with
      | false => exact iteF ⟨g, F1, e1, hK, hC, k1, TM.mono (show TM g W σ (evT Φ r e1) _ from t1) fun o' e' _ w F' H' s k' => w F' H' (s1.trans s) k'⟩
      | true =>
        have t2 : ∀ F' H', Sub F F' → Ok g F' e1 σ H' → Q true H' := t1
        exact iteT (t2 F1 H1 s1 k1)
theorem eo_none : PO X none (tEvP Φ C W X.K .no) := by
  refine PO.imp po_none fun σ H Q ⟨g, F, e, hK, hC, k, tm⟩ => ?_
  have t1 : ∀ F' H', Sub F F' → Ok g F' e σ H' → Q none H' := tm
  exact t1 F H (Same.refl _) k
theorem eo_some {e : Expr} {c : Ex} (h : PE X e (tEv Φ C W X.K c)) : PO X (some e) (tEvP Φ C W X.K (.so c)) := by
  refine PO.imp (po_some h) fun σ H Q ⟨g, F, e, hK, hC, k, tm⟩ => ?_
  refine one_ok hK hC k tm fun F1 H1 e1 x v1 s1 k1 n1 o1 t1 => ?_
  obtain ⟨dx, w1, t2⟩ := tm_rd (tm_bind t1)
  have r := rdz k1 o1 w1
  cases dx with
  | int i =>
    cases r.int
    have t3 : ∀ F' H', Sub F F' → Ok g F' e1 σ H' → Q (some i) H' := t2
    exact ⟨i, rfl, t3 F1 H1 s1 k1⟩
  | _ => exact t2.elim
theorem eq_nil : PTs X [] (tEvC Φ C W X.K .no) := by
  refine PTs.imp pts_nil fun σ H Q ⟨g, F, e, hK, hC, k, tm⟩ => ?_
  have t1 : ∀ F' H', Sub F F' → Ok g F' e σ H' → Q true H' := tm
  exact t1 F H (Same.refl _) k
theorem eq_one {e : Expr} {c : Ex} (h : PT X e (tEvT Φ C W X.K c)) : PTs X [e] (tEvC Φ C W X.K (.so c)) := PTs.imp (pts_one h) fun σ H Q ⟨g, F, e, hK, hC, k, tm⟩ => ⟨g, F, e, hK, hC, k, tm⟩
end
theorem base_of {o : Expr} {x : Str} {env : PySem.Env} {w : Sem Value} (h : isC0 o = false) : attributeBase o x env w = w := by
  unfold attributeBase
  split
  · cases h
  · rfl
structure IHn (n : Nat) : Prop where
  E : ∀ {S : Sc} {C : Str → Option Addr} {W : WX} {Φ : Ora} {X : Cx}, XOk S C W Φ X → ∀ {e : Expr} {c : Ex}, cE n S e = some c → PE X e (tEv Φ C W X.K c)
  T : ∀ {S : Sc} {C : Str → Option Addr} {W : WX} {Φ : Ora} {X : Cx}, XOk S C W Φ X → ∀ {e : Expr} {c : Ex}, cT n S e = some c → PT X e (tEvT Φ C W X.K c)
  P : ∀ {S : Sc} {C : Str → Option Addr} {W : WX} {Φ : Ora} {X : Cx}, XOk S C W Φ X → ∀ {e : Option Expr} {c : Ex}, cP n S e = some c → PO X e (tEvP Φ C W X.K c)
  Q : ∀ {S : Sc} {C : Str → Option Addr} {W : WX} {Φ : Ora} {X : Cx}, XOk S C W Φ X → ∀ {e : List Expr} {c : Ex}, cC1 n S e = some c → PTs X e (tEvC Φ C W X.K c)
  I : ∀ {S : Sc} {C : Str → Option Addr} {W : WX} {Φ : Ora} {X : Cx}, XOk S C W Φ X → ∀ {e : Expr} {c : Ex}, cI n S e = some c → (∀ tg, PI X tg e (tEvI Φ C W X.K c)) ∧ ∀ env z, foldedSetIterable e env z = pure z
theorem cE_set {n : Nat} {S : Sc} {e : Expr} {c : Ex} (h : cE n S e = some c) : isSet e = false := by
  cases e with
  | Set a b p =>
    cases n with
    | zero => cases h
    | succ n => rw [cE] at h <;> first | cases h | (intros; contradiction)
  | _ => rfl
theorem cE_plain {n : Nat} {S : Sc} {e : Expr} {c : Ex} (h : cE n S e = some c) : PlainIx e := by
  cases e with
  | Slice a b d p =>
    cases n with
    | zero => cases h
    | succ n => rw [cE] at h <;> first | cases h | (intros; contradiction)
  | _ => exact fun _ _ => rfl
theorem cE_star {n : Nat} {S : Sc} {e : Expr} {c : Ex} (h : cE n S e = some c) : isStar e = false := by
  cases e with
  | Starred a p =>
    cases n with
    | zero => cases h
    | succ n => cases h
  | _ => rfl
end PL
namespace PL
open L2 PySem PyProof.Rows PySem.Spec
theorem ihn : ∀ n, IHn n
  | 0 => ⟨fun {S C W Φ X} o {e c} h => (by cases h), fun {S C W Φ X} o {e c} h => (by cases h), fun {S C W Φ X} o {e c} h => (by cases h), fun {S C W Φ X} o {e c} h => (by cases h), fun {S C W Φ X} o {e c} h => (by cases h)⟩
  | n + 1 => by
    have ih := ihn n
    refine ⟨?_, ?_, ?_, ?_, ?_⟩
    · intro S C W Φ X o e c h
      have hE : ∀ {e c}, cE n S e = some c → PE X e (tEv Φ C W X.K c) := fun q => ih.E o q
      have hE' : ∀ e c, cE n S e = some c → PE X e (tEv Φ C W X.K c) := fun e c q => ih.E o q
      cases e with
      | Name x p =>
        rw [cE] at h
        split at h
        · rename_i h1
          obtain ⟨i, h2, rfl⟩ := Option.map_eq_some_iff.mp h
          exact ee_var o h1 h2
        · split at h
          · rename_i h1
            cases h
            rw [Bool.and_eq_true] at h1
            exact ee_gl o h1.1 h1.2
          · cases h
      | Constant cst kk p =>
        cases cst with
        | int i => rw [cE] at h; cases h; exact ee_const pe_int (fun _ => rfl) fun _ => .int i
        | str i => rw [cE] at h; cases h; exact ee_const pe_str (fun _ => rfl) fun _ => .str i
        | bool i => rw [cE] at h; cases h; exact ee_const pe_bl (fun _ => rfl) fun _ => .bl i
        | none => rw [cE] at h; cases h; exact ee_const pe_non (fun _ => rfl) fun _ => .non
        | _ => rw [cE] at h <;> first | cases h | (intros; contradiction)
      | BinOp a op b p =>
        rw [cE] at h
        obtain ⟨bo, h1, h2⟩ := Option.bind_eq_some_iff.mp h
        obtain ⟨ca, h3, h4⟩ := Option.bind_eq_some_iff.mp h2
        obtain ⟨cb, h5, rfl⟩ := Option.map_eq_some_iff.mp h4
        exact ee_bin (f := cE n S) hE h1 h3 h5
      | UnaryOp op a p =>
        cases op with
        | USub =>
          rw [cE] at h
          obtain ⟨ca, h1, rfl⟩ := Option.map_eq_some_iff.mp h
          exact ee_neg (hE h1)
        | Not =>
          rw [cE] at h
          obtain ⟨ca, h1, rfl⟩ := Option.map_eq_some_iff.mp h
          exact ee_not (hE h1)
        | _ => rw [cE] at h <;> first | cases h | (intros; contradiction)
      | BoolOp op es p =>
        cases op with
        | And => rw [cE] at h; exact ee_bool (f := cE n S) hE rfl h
        | Or => rw [cE] at h; exact ee_bool (f := cE n S) hE rfl h
      | IfExp t a b p =>
        rw [cE] at h
        obtain ⟨ct, h1, h2⟩ := Option.bind_eq_some_iff.mp h
        obtain ⟨ca, h3, h4⟩ := Option.bind_eq_some_iff.mp h2
        obtain ⟨cb, h5, rfl⟩ := Option.map_eq_some_iff.mp h4
        exact ee_ite (ih.T o h1) (hE h3) (hE h5)
      | Compare a ops cs p =>
        match ops, cs, h with
        | [op], [b], h =>
          rw [cE] at h
          exact (ee_cmp o (f := cE n S) hE cE_set h).1
        | [op, oq], [b, cc], h =>
          rw [cE] at h
          exact (ee_chn o (f := cE n S) hE cE_set h).1
        | [], _, h => rw [cE] at h <;> first | cases h | (intros; contradiction)
        | [_], [], h => rw [cE] at h <;> first | cases h | (intros; contradiction)
        | [_], _ :: _ :: _, h => rw [cE] at h <;> first | cases h | (intros; contradiction)
        | [_, _], [], h => rw [cE] at h <;> first | cases h | (intros; contradiction)
        | [_, _], [_], h => rw [cE] at h <;> first | cases h | (intros; contradiction)
        | [_, _], _ :: _ :: _ :: _, h => rw [cE] at h <;> first | cases h | (intros; contradiction)
        | _ :: _ :: _ :: _, _, h => rw [cE] at h <;> first | cases h | (intros; contradiction)
      | Tuple es kk p =>
        rw [cE] at h
        obtain ⟨ca, h1, rfl⟩ := Option.map_eq_some_iff.mp h
        exact ee_tup (pa_evc hE' h1)
      | List es p =>
        rw [cE] at h
        obtain ⟨ca, h1, rfl⟩ := Option.map_eq_some_iff.mp h
        exact ee_lst (pa_evc hE' h1)
      | Subscript a i p =>
        by_cases hsl : ∃ lo hi st p2, i = .Slice lo hi st p2
        · obtain ⟨lo, hi, st, p2, rfl⟩ := hsl
          cases st with
          | none =>
            rw [cE] at h
            obtain ⟨ca, h1, h2⟩ := Option.bind_eq_some_iff.mp h
            obtain ⟨cl, h3, h4⟩ := Option.bind_eq_some_iff.mp h2
            obtain ⟨ch, h5, rfl⟩ := Option.map_eq_some_iff.mp h4
            exact ee_sli (hE h1) (ih.P o h3) (ih.P o h5)
          | some st =>
            cases lo with
            | none =>
              cases hi with
              | none =>
                rw [cE] at h
                split at h
                · rename_i hs
                  obtain ⟨ca, h1, rfl⟩ := Option.map_eq_some_iff.mp h
                  exact ee_rev (hE h1) hs
                · cases h
              | some hi =>
                rw [cE] at h
                · obtain ⟨ca, h1, h2⟩ := Option.bind_eq_some_iff.mp h
                  obtain ⟨ci, h3, rfl⟩ := Option.map_eq_some_iff.mp h2
                  exact ee_sub (hE h1) (hE h3) (cE_plain h3)
                all_goals (intros; rename_i z; cases z)
            | some lo =>
              rw [cE] at h
              · obtain ⟨ca, h1, h2⟩ := Option.bind_eq_some_iff.mp h
                obtain ⟨ci, h3, rfl⟩ := Option.map_eq_some_iff.mp h2
                exact ee_sub (hE h1) (hE h3) (cE_plain h3)
              all_goals (intros; rename_i z; cases z)
        · rw [cE] at h
          · obtain ⟨ca, h1, h2⟩ := Option.bind_eq_some_iff.mp h
            obtain ⟨ci, h3, rfl⟩ := Option.map_eq_some_iff.mp h2
            exact ee_sub (hE h1) (hE h3) (cE_plain h3)
          all_goals (intros; exact hsl ⟨_, _, _, _, by assumption⟩)
      | Call fn args ks p =>
        cases fn with
        | Name f fp =>
          have h' : (if glob S f = true then
        (if S.free f = true then
          (if (f == ("isinstance" : Str)) = true then match (generalizing := false) args, ks with
            | [a, .Name t _], [] => if (glob S t && S.free t) = true then (cTy t).bind fun t => (cE n S a).map fun a => Ex.isi t a else none
            | _, _ => none
          else match (generalizing := false) args, ks with
            | a :: r, [] => (cBlt f).bind fun b => (cEs (cE n S) (a :: r)).map fun es => .blt b es
            | _, _ => none)
        else (cEs (cE n S) args).bind fun es => (cKs (cE n S) ks).bind fun ks => (S.sh f args.length ks.2).map fun q => .call f q.1 q.2 es ks.1)
      else none) = some c := h
          split at h'
          · rename_i hg
            split at h'
            · rename_i hfr
              split at h'
              · rename_i hin
                split at h'
                · split at h'
                  · rename_i hq
                    rw [Bool.and_eq_true] at hq
                    obtain ⟨ty, h1, h2⟩ := Option.bind_eq_some_iff.mp h'
                    obtain ⟨ca, h3, rfl⟩ := Option.map_eq_some_iff.mp h2
                    exact ee_isi o (beq_iff_eq.mp hin) hg hfr hq.1 hq.2 h1 (cE_star h3) (hE h3)
                  · cases h'
                · cases h'
              · split at h'
                · obtain ⟨b, h1, h2⟩ := Option.bind_eq_some_iff.mp h'
                  obtain ⟨ca, h3, rfl⟩ := Option.map_eq_some_iff.mp h2
                  exact ee_blt o hE' hg hfr h1 h3
                · cases h'
            · obtain ⟨ca, h1, h2⟩ := Option.bind_eq_some_iff.mp h'
              obtain ⟨ck, h3, h4⟩ := Option.bind_eq_some_iff.mp h2
              obtain ⟨q, h5, rfl⟩ := Option.map_eq_some_iff.mp h4
              exact pe_callG o hE' hg h1 h3 h5
          · cases h'
        | Attribute ob m ap =>
          cases ks with
          | nil =>
            rw [cE] at h
            split at h
            · rename_i hc
              obtain ⟨mm, h1, h2⟩ := Option.bind_eq_some_iff.mp h
              obtain ⟨co, h3, h4⟩ := Option.bind_eq_some_iff.mp h2
              obtain ⟨ca, h5, rfl⟩ := Option.map_eq_some_iff.mp h4
              exact ee_mth hE' h3 h5 h1 hc.1 hc.2.1 (base_of hc.2.2)
            · cases h
          | cons k1 ks => rw [cE] at h <;> first | cases h | (intros; contradiction)
        | _ => rw [cE] at h <;> first | cases h | (intros; contradiction)
      | ListComp elt gens scope p =>
        match gens, h with
        | [⟨tg, it, ifs, ia⟩], h =>
          by_cases hz : ia = 0
          case neg => rw [cE] at h <;> first | cases h | (intros; rename_i q; first | (cases q; done) | (cases q; exact hz rfl))
          subst hz
          have h' : ((cTg { S with sc := relS scope S.sc, df := false } tg).bind fun t => if blkC S.N S.sc scope ((tgNames tg).zip t) = true ∧ (tgNames tg).length = t.length then
        (cI n S it).bind fun i => (cC1 n { S with sc := relS scope S.sc, df := false } ifs).bind fun c => (cE n { S with sc := relS scope S.sc, df := false } elt).map fun x => Ex.lc t i c x
      else none) = some c := h
          obtain ⟨t, h1, h2⟩ := Option.bind_eq_some_iff.mp h'
          split at h2
          · rename_i hb
            obtain ⟨i, h3, h4⟩ := Option.bind_eq_some_iff.mp h2
            obtain ⟨cc, h5, h6⟩ := Option.bind_eq_some_iff.mp h4
            obtain ⟨x, h7, rfl⟩ := Option.map_eq_some_iff.mp h6
            obtain ⟨hi, hs⟩ := ih.I o h3
            refine ei_lc o hb.1 hb.2 (hi tg) (hs X.env) (fun X' o' hk => ?_) (fun X' o' hk => ?_) (fun X' o' hk => ?_)
            · rw [← hk]; exact eg_tg o' h1
            · rw [← hk]; exact ih.Q o' h5
            · rw [← hk]; exact ih.E o' h7
          · cases h2
        | [], h => cases h
        | _ :: _ :: _, h => rw [cE] at h <;> first | cases h | (intros; rename_i q; cases q; done)
      | _ => rw [cE] at h <;> first | cases h | (intros; contradiction)
    · intro S C W Φ X o e c h
      have hE : ∀ {e c}, cE n S e = some c → PE X e (tEv Φ C W X.K c) := fun q => ih.E o q
      have hT : ∀ {e c}, cT n S e = some c → PT X e (tEvT Φ C W X.K c) := fun q => ih.T o q
      cases e with
      | UnaryOp op a p =>
        cases op with
        | Not =>
          obtain ⟨ca, h1, rfl⟩ := Option.map_eq_some_iff.mp (show (cT n S a).map Ex.not = some c from h)
          exact et_not (hT h1)
        | _ =>
          obtain ⟨ca, h1, rfl⟩ := Option.map_eq_some_iff.mp (show (cE n S _).map Ex.so = some c from h)
          exact et_so (hE h1) (fun _ => rfl)
      | BoolOp op es p =>
        cases op with
        | And => exact (et_bool (f := cT n S) hT (and := true) rfl h).pt
        | Or => exact (et_bool (f := cT n S) hT (and := false) rfl h).pt
      | IfExp t a b p => cases h
      | Compare a ops cs p =>
        match ops, cs, h with
        | [op], [b], h =>
          obtain ⟨ca, h1, rfl⟩ := Option.map_eq_some_iff.mp (show (cCmp (cE n S) a op b).map Ex.so = some c from h)
          exact (ee_cmp o (f := cE n S) hE cE_set h1).2
        | [op, oq], [b, cc], h =>
          obtain ⟨ca, h1, rfl⟩ := Option.map_eq_some_iff.mp (show (cChn (cE n S) a op oq b cc).map Ex.so = some c from h)
          exact (ee_chn o (f := cE n S) hE cE_set h1).2
        | [], _, h => cases h
        | [_], [], h => cases h
        | [_], _ :: _ :: _, h => cases h
        | [_, _], [], h => cases h
        | [_, _], [_], h => cases h
        | [_, _], _ :: _ :: _ :: _, h => cases h
        | _ :: _ :: _ :: _, _, h => cases h
      | _ =>
        obtain ⟨ca, h1, rfl⟩ := Option.map_eq_some_iff.mp (show (cE n S _).map Ex.so = some c from h)
        exact et_so (hE h1) (fun _ => rfl)
    · intro S C W Φ X o e c h
      cases e with
      | none => cases h; exact eo_none
      | some e =>
        obtain ⟨ca, h1, rfl⟩ := Option.map_eq_some_iff.mp (show (cE n S e).map Ex.so = some c from h)
        exact eo_some (ih.E o h1)
    · intro S C W Φ X o e c h
      match e, h with
      | [], h => cases h; exact eq_nil
      | [e], h =>
        obtain ⟨ca, h1, rfl⟩ := Option.map_eq_some_iff.mp (show (cT n S e).map Ex.so = some c from h)
        exact eq_one (ih.T o h1)
      | _ :: _ :: _, h => cases h
    · intro S C W Φ X o e c h
      have pl : ∀ {e : Expr} {c : Ex}, isSet e = false → (cE n S e).map Ex.seq = some c → (∀ tg, PI X tg e (tEvI Φ C W X.K c)) ∧ ∀ env z, foldedSetIterable e env z = pure z := by
        intro e c hs h
        obtain ⟨a, h1, rfl⟩ := Option.map_eq_some_iff.mp h
        refine ⟨fun tg => ei_seq (ih.E o h1), fun env z => ?_⟩
        cases e <;> first | rfl | cases hs
      cases e with
      | Set a b p => cases h
      | Call fn args ks p =>
        by_cases hn : ∃ f fp, fn = .Name f fp
        · obtain ⟨f, fp, rfl⟩ := hn
          match args, ks, h with
          | [a], [], h =>
            have h' : (if (f == ("range" : Str)) = true ∧ (glob S f && S.free f) = true then (if isStar a = true then none else (cE n S a).map fun a => Ex.rng (.int 0) a) else (cE n S (.Call (.Name f fp) [a] [] p)).map .seq) = some c := h
            split at h'
            · rename_i hr
              rw [Bool.and_eq_true] at hr
              have hf := beq_iff_eq.mp hr.1
              subst hf
              split at h'
              · cases h'
              · rename_i hst
                obtain ⟨ca, h1, rfl⟩ := Option.map_eq_some_iff.mp h'
                exact ⟨fun tg => ei_rng1 (o.gl hr.2.1).1 (o.fr _ hr.2.2) (ih.E o h1) (by simpa using hst), fun _ _ => rfl⟩
            · exact pl rfl h'
          | [a, b], [], h =>
            have h' : (if (f == ("range" : Str)) = true ∧ (glob S f && S.free f) = true then (if (isStar a || isStar b) = true then none else (cE n S a).bind fun a => (cE n S b).map fun b => Ex.rng a b) else (cE n S (.Call (.Name f fp) [a, b] [] p)).map .seq) = some c := h
            split at h'
            · rename_i hr
              rw [Bool.and_eq_true] at hr
              have hf := beq_iff_eq.mp hr.1
              subst hf
              split at h'
              · cases h'
              · rename_i hst
                simp only [Bool.or_eq_true, not_or, Bool.not_eq_true] at hst
                obtain ⟨ca, h1, h2⟩ := Option.bind_eq_some_iff.mp h'
                obtain ⟨cb, h3, rfl⟩ := Option.map_eq_some_iff.mp h2
                exact ⟨fun tg => ei_rng2 (o.gl hr.2.1).1 (o.fr _ hr.2.2) (ih.E o h1) (ih.E o h3) hst.1 hst.2, fun _ _ => rfl⟩
            · exact pl rfl h'
          | [], _, h => exact pl rfl h
          | [_], _ :: _, h => exact pl rfl h
          | [_, _], _ :: _, h => exact pl rfl h
          | _ :: _ :: _ :: _, _, h => exact pl rfl h
        · cases fn <;> first | exact absurd ⟨_, _, rfl⟩ hn | exact pl rfl h
      | _ => exact pl rfl h
end PL
namespace PL
open L2 PySem PyProof.Rows PySem.Spec
/-! ## statements: from the text -/
def isLc : Expr → Bool
  | .ListComp _ _ _ _ => true
  | .SetComp _ _ _ _ => true
  | .DictComp _ _ _ _ _ => true
  | _ => false
def isTup : Expr → Bool
  | .Tuple _ _ _ => true
  | _ => false
def isFnK : ScopeKind → Bool
  | .function => true
  | _ => false
def lcLine (S : Sc) (x : Str) (xp : Pos) : Expr → Bool
  | .ListComp _ _ scope p => isFnK S.sc.kind && S.sc.names.lookup x == some .local && (xp.line == p.line) && !(scope.names.any fun (n, k) => n == x && (k == .local || k == .cell))
  | _ => false
def cSs (f : Stmt → Option St) : List Stmt → Option St
  | [] => some .skip
  | s :: r => (f s).bind fun a => (cSs f r).map fun b => .seq a b
def isLoc (S : Sc) (x : Str) : Bool := S.sc.names.lookup x == some .local
def cnst : Expr → Bool
  | .Constant _ _ _ => true
  | .UnaryOp _ _ _ => true
  | .Tuple _ _ _ => true
  | .BinOp _ _ _ _ => true
  | .Subscript _ _ _ => true
  | .Starred _ _ => true
  | .Name x _ => x == ("__debug__" : Str)
  | _ => false
def isKon : Expr → Bool
  | .Constant _ _ _ => true
  | _ => false
/-- x, y = a, b -/
def cPar (f : Expr → Option Ex) (S : Sc) (es : List Expr) (tk : Nat) (tp : Pos) (e : Expr) : Option St := match es, e with
  | [.Name x px, .Name y py], .Tuple [a, b] k p => if (isKon a && isKon b) = true then (cTg S (.Tuple es tk tp)).bind fun t => (f (.Tuple [a, b] k p)).map fun a => .unp t a
      else if (isLoc S x && isLoc S y && isFnK S.sc.kind && px.line == py.line && !(x == y) && !(cnst a && cnst b) && !isStar a && !isStar b) = true then (idx S.N x).bind fun i => (idx S.N y).bind fun j => (f a).bind fun a => (f b).map fun b => .par i j a b else none
  | _, _ => none
def cS : Nat → Sc → Stmt → Option St
  | 0, _, _ => none
  | n + 1, S, st => match st with
    | .Expr (.Constant (.str _) _ _) _ => some .skip
    | .Expr (.Call (.Attribute (.Name x _) m ap) [a] [] cp) _ => if (m == ("append" : Str)) = true ∧ (ap.endLine == cp.line) = true ∧ seen S x = true ∧ isStar a = false then (idx S.N x).bind fun i => (cE n S a).map fun a => .app i a else none
    | .Expr e _ => if isLc e = true then none else (cE n S e).map .exp
    | .Return none _ => some .retN
    | .Return (some e) _ => (cE n S e).map .ret
    | .If c a b _ => (cT n S c).bind fun c => (cSs (cS n S) a).bind fun a => (cSs (cS n S) b).map fun b => .ifs c a b
    | .While c b [] _ => (cT n S c).bind fun c => (cSs (cS n S) b).map fun b => .whl c b
    | .For tg it b [] _ => (cTg S tg).bind fun t => (cI n S it).bind fun i => (cSs (cS n S) b).map fun b => .fr t i b
    | .Break _ => some .brk
    | .Continue _ => some .cnt
    | .Pass _ => some .skip
    | .Assign [.Name x xp] e _ => if isLc e = true then (if lcLine S x xp e = true then (idx S.N x).bind fun i => (cE n S e).map fun a => .set i a else none) else (cName S x).bind fun i => (cE n S e).map fun a => .set i a
    | .Assign [.Tuple es tk tp] e _ => if isTup e = true then cPar (cE n S) S es tk tp e else (cTg S (.Tuple es tk tp)).bind fun t => (cE n S e).map fun a => .unp t a
    | .Assign [.Subscript (.Name x _) ix _] e _ => if isLc e = true ∨ seen S x = false then none else (idx S.N x).bind fun i => (cE n S ix).bind fun ix => (cE n S e).map fun a => .sset i ix a
    | _ => none
theorem isFnK_eq {k : ScopeKind} (h : isFnK k = true) : k = .function := by cases k <;> first | rfl | cases h
theorem cnst_alone {a : Expr} (h : cnst a = false) : constantsAlone 8 a = false ∧ foldedForSure 8 a = false := by
  cases a with
  | Name x p => exact ⟨h, rfl⟩
  | Constant c k p => cases h
  | UnaryOp o e p => cases h
  | Tuple es k p => cases h
  | BinOp l o r p => cases h
  | Subscript v s p => cases h
  | Starred v p => cases h
  | _ => exact ⟨rfl, rfl⟩
theorem swap2 {env : PySem.Env} {x y : Str} {px py pt pt2 : Pos} {kt k2 : Nat} {a b : Expr} (hk : env.scope.kind = .function) (hx : env.scope.names.lookup x = some .local) (hy : env.scope.names.lookup y = some .local)
    (hl : (px.line == py.line) = true) (hne : (x == y) = false) (hc : (cnst a && cnst b) = false) (sa : isStar a = false) (sb : isStar b = false) :
    swappedStores [.Tuple [.Name x px, .Name y py] kt pt] (.Tuple [a, b] k2 pt2) env = pure (some [x, y]) := by
  have kx : env.kindOf x = some .local := hx
  (have ky : env.kindOf y = some .local := hy)
  (have hb : env.blockKind = .function := by unfold Env.blockKind; rw [hk]; rfl)
  have e1 : (py.line == px.line) = true := by rw [beq_iff_eq] at hl ⊢; exact hl.symm
  have q : ∀ {e : Expr}, isStar e = false → (match e with | .Starred .. => true | _ => false) = false := fun {e} h => by cases e <;> first | rfl | cases h
  have qa := q sa
  have qb := q sb
  have ex : (y == x) = false := by rw [beq_eq_false_iff_ne] at hne ⊢; exact Ne.symm hne
  have fs : [a, b].all (foldedForSure 8) = false ∧ [a, b].all (constantsAlone 8) = false := by
    simp only [List.all_cons, List.all_nil, Bool.and_true, Bool.and_eq_false_iff]
    rw [Bool.and_eq_false_iff] at hc
    rcases hc with hc | hc
    · exact ⟨.inl (cnst_alone hc).2, .inl (cnst_alone hc).1⟩
    · exact ⟨.inr (cnst_alone hc).2, .inr (cnst_alone hc).1⟩
  unfold swappedStores
  simp only [hb, kx, ky, e1, List.head?_cons, Option.map_some, Option.getD_some, List.filterMap_cons, List.filterMap_nil, fs.1, fs.2]
  have ne : ¬ x = y := by simpa using hne
  simp [Expr.pos, e1, List.eraseDups_cons, List.filter, ex, sa, sb]
  intro z
  rcases z with z | z
  · exact absurd (Eq.trans (Eq.symm qa) z) Bool.false_ne_true
  · exact absurd (Eq.trans (Eq.symm qb) z) Bool.false_ne_true
section
variable (Φ : Ora) (C : Str → Option Addr) (W : WX) (K : PySem.W.Frag)
/-- what is wanted of statements -/
def SM (g : Gh) (W : WX) (r : SR) (D : Ends) : Prop := match r with
  | .nx e => ∀ F σ H, Ok g F e σ H → D.nx σ H
  | .bk e => ∀ F σ H, Ok g F e σ H → D.bk σ H
  | .ct e => ∀ F σ H, Ok g F e σ H → D.ct σ H
  | .rt n d e => ∀ F σ H v, Ok g F e σ H → OpOk g F H e σ (if n = true then .n d else .v d) v → D.rt v H
  | .er x e => ∀ F σ H cls dd, Ok g F e σ H → ErOk g.K g.C F x cls dd → W cls dd σ H
  | .bad => False
def tEx (c : St) : TS := fun D σ H => ∃ g F e, g.K = K ∧ g.C = C ∧ Ok g F e σ H ∧ SM g W (ex Φ c e) D
end
section
variable {g : Gh} {W : WX} {σ : L2.St} {F H : Hp} {e : Env} {D : Ends} {α : Type}
theorem sm_of {r : Rz α} {f : α → Env → SR} (h : SM g W (SR.of r f) D) : TM g W σ r fun a e' => SM g W (f a e') D := by
  cases r with
  | ok a e => exact h
  | er x e => exact fun F H cls dd k q => h F σ H cls dd k q
  | bad => exact h
theorem sm_opt {o : Option Env} (h : SM g W (SR.opt o) D) : ∃ e', o = some e' ∧ ∀ F σ H, Ok g F e' σ H → D.nx σ H := by
  cases o with
  | none => exact h.elim
  | some e => exact ⟨e, rfl, h⟩
/-- a value goes into a slot -/
theorem st_ok {i : Nat} {o : Opd} {v : V} (k : Ok g F e σ H) (r : OpOk g F H e σ o v) (h : SM g W (stO i o e) D) : D.nx (σ.set i (some v)) H := by
  cases o with
  | v d =>
    obtain ⟨e', q, w⟩ := sm_opt (show SM g W (SR.opt (setS i (.fz d) e)) D from h)
    exact w _ _ _ (k.storeFz q r)
  | n d =>
    obtain ⟨e', q, w⟩ := sm_opt (show SM g W (SR.opt (setS i (.ow d) e)) D from h)
    exact w _ _ _ (k.storeOw q r)
  | s j =>
    obtain ⟨d, e1, q1, t1⟩ := tm_cns (sm_of (σ := σ) (show SM g W (SR.of (cns (.s j) e) fun d e' => SR.opt (setS i (.fz d) e')) D from h))
    obtain ⟨F2, s2, k2, r2⟩ := cns_ok k r q1
    obtain ⟨e', q, w⟩ := sm_opt t1
    exact w _ _ _ (k2.storeFz q r2)
end
end PL
namespace PL
open L2 PySem PyProof.Rows PySem.Spec
section
variable {S : Sc} {C : Str → Option Addr} {W : WX} {Φ : Ora} {X : Cx}
theorem es_nil : PSs X [] (tEx Φ C W X.K .skip) := PSs.imp pss_nil fun D σ H ⟨g, F, e, hK, hC, k, w⟩ => (show ∀ F σ H, Ok g F e σ H → D.nx σ H from w) F σ H k
theorem es_cons {st : Stmt} {sts : List Stmt} {a b : PL.St} (h1 : PS X st (tEx Φ C W X.K a)) (h2 : PSs X sts (tEx Φ C W X.K b)) : PSs X (st :: sts) (tEx Φ C W X.K (.seq a b)) := by
  refine PSs.imp (pss_cons h1 h2) fun D σ H ⟨g, F, e, hK, hC, k, w⟩ => ⟨g, F, e, hK, hC, k, ?_⟩
  have w' : SM g W (match ex Φ a e with | .nx e' => ex Φ b e' | r => r) D := w
  cases q : ex Φ a e with
  | nx e' => rw [q] at w'; exact fun F' σ' H' k' => ⟨g, F', e', hK, hC, k', w'⟩
  | rt n d e' => rw [q] at w'; exact w'
  | bk e' => rw [q] at w'; exact w'
  | ct e' => rw [q] at w'; exact w'
  | er x e' => rw [q] at w'; exact w'
  | bad => rw [q] at w'; exact w'
theorem es_list {f : Stmt → Option PL.St} (hf : ∀ {st c}, f st = some c → PS X st (tEx Φ C W X.K c)) : ∀ {sts : List Stmt} {c : PL.St}, cSs f sts = some c → PSs X sts (tEx Φ C W X.K c)
  | [], c, h => by cases h; exact es_nil
  | s :: sts, c, h => by
    obtain ⟨a, h1, h2⟩ := Option.bind_eq_some_iff.mp (show ((f s).bind fun a => (cSs f sts).map fun b => St.seq a b) = some c from h)
    obtain ⟨b, h3, rfl⟩ := Option.map_eq_some_iff.mp h2
    exact es_cons (hf h1) (es_list hf h3)
theorem es_next {st : Stmt} (h : PS X st tNext) : PS X st (tEx Φ C W X.K .skip) := PS.imp h fun D σ H ⟨g, F, e, hK, hC, k, w⟩ => (show ∀ F σ H, Ok g F e σ H → D.nx σ H from w) F σ H k
theorem es_brk {pos : Pos} : PS X (.Break pos) (tEx Φ C W X.K .brk) := PS.imp ps_break fun D σ H ⟨g, F, e, hK, hC, k, w⟩ => (show ∀ F σ H, Ok g F e σ H → D.bk σ H from w) F σ H k
theorem es_cnt {pos : Pos} : PS X (.Continue pos) (tEx Φ C W X.K .cnt) := PS.imp ps_continue fun D σ H ⟨g, F, e, hK, hC, k, w⟩ => (show ∀ F σ H, Ok g F e σ H → D.ct σ H from w) F σ H k
theorem es_retN {pos : Pos} : PS X (.Return none pos) (tEx Φ C W X.K .retN) := PS.imp ps_retN fun D σ H ⟨g, F, e, hK, hC, k, w⟩ => (show ∀ F σ H v, Ok g F e σ H → OpOk g F H e σ (if false = true then .n .non else .v .non) v → D.rt v H from w) F σ H .non k .non
theorem es_exp {ex : Expr} {c : Ex} {pos : Pos} (he : PE X ex (tEv Φ C W X.K c)) (hl : isLc ex = false) : PS X (.Expr ex pos) (tEx Φ C W X.K (.exp c)) := by
  have hs : swapsWith ex none pos.line X.env = pure false := by cases ex <;> first | rfl | cases hl
  refine PS.imp (ps_expr he hs) fun D σ H ⟨g, F, e, hK, hC, k, w⟩ => ⟨g, F, e, hK, hC, k, ?_⟩
  exact (sm_of w).mono fun o e' _ t F' H' _ k' v _ => (show ∀ F σ H, Ok g F e' σ H → D.nx σ H from t) F' σ H' k'
theorem es_ret {ex : Expr} {c : Ex} {pos : Pos} (he : PE X ex (tEv Φ C W X.K c)) : PS X (.Return (some ex) pos) (tEx Φ C W X.K (.ret c)) := by
  refine PS.imp (ps_ret he) fun D σ H ⟨g, F, e, hK, hC, k, w⟩ => ⟨g, F, e, hK, hC, k, ?_⟩
  refine (sm_of w).mono fun o e' _ t F' H' _ k' v r => ?_
  cases o with
  | v d => exact (show ∀ F σ H v, Ok g F e' σ H → OpOk g F H e' σ (if false = true then .n d else .v d) v → D.rt v H from t) F' σ H' v k' r
  | n d => exact (show ∀ F σ H v, Ok g F e' σ H → OpOk g F H e' σ (if true = true then .n d else .v d) v → D.rt v H from t) F' σ H' v k' r
  | s i =>
    have t' : SM g W (match e'[i]? with | some (.fz d) => .rt false d e' | some (.ow d) => .rt true d (e'.set i .un) | _ => .bad) D := t
    have r' : σ[i]? = some (some v) := r
    cases q : e'[i]? with
    | none => rw [q] at t'; exact t'.elim
    | some s =>
      rw [q] at t'
      have so := k'.slot i s q
      cases s with
      | un => exact t'.elim
      | bw d => exact t'.elim
      | io d => exact t'.elim
      | fz d =>
        obtain ⟨v', h1, h2⟩ := so
        rw [r'] at h1
        cases h1
        exact t' F' σ H' v k' h2
      | ow d =>
        obtain ⟨a, h1, h2, h3, h4⟩ := so
        rw [r'] at h1
        cases h1
        have kd := k'.drop i (some (.ref a))
        rw [show σ.set i (some (V.ref a)) = σ from by
          have hlt := (List.getElem?_eq_some_iff.mp r').1
          have := (List.getElem?_eq_some_iff.mp r').2
          rw [← this, List.set_getElem_self]] at kd
        refine t' F' σ H' _ kd ⟨a, rfl, h2, h3, h4, fun j s' q' hm hz => ?_⟩
        by_cases hj : j = i
        · subst hj
          rw [List.getElem?_set_self (List.getElem?_eq_some_iff.mp q).1] at q'
          cases q'
          cases hm
        · rw [List.getElem?_set_ne (Ne.symm hj)] at q'
          exact k'.dis i j _ s' a (Ne.symm hj) q q' rfl hm r' hz
theorem es_if {c : Expr} {cc : Ex} {p q : List Stmt} {cp cq : PL.St} {pos : Pos} (hc : PT X c (tEvT Φ C W X.K cc)) (hp : PSs X p (tEx Φ C W X.K cp)) (hq : PSs X q (tEx Φ C W X.K cq)) : PS X (.If c p q pos) (tEx Φ C W X.K (.ifs cc cp cq)) := by
  refine PS.imp (ps_if hc hp hq) fun D σ H ⟨g, F, e, hK, hC, k, w⟩ => ⟨g, F, e, hK, hC, k, ?_⟩
  refine (sm_of w).mono fun b e' _ t F' H' _ k' => ?_
  cases b with
  | true => exact iteT ⟨g, F', e', hK, hC, k', t⟩
  | false => exact iteF ⟨g, F', e', hK, hC, k', t⟩
theorem es_set {x : Str} {i : Nat} {ex : Expr} {c : Ex} {p pos : Pos} (o : XOk S C W Φ X) (hi : cName S x = some i) (he : PE X ex (tEv Φ C W X.K c)) (hl : isLc ex = false) : PS X (.Assign [.Name x p] ex pos) (tEx Φ C W X.K (.set i c)) := by
  have hs : swapsWith ex (some (.Name x p)) pos.line X.env = pure false := by cases ex <;> first | rfl | cases hl
  obtain ⟨h1, h2, h3⟩ := cName_ok o hi
  refine PS.imp (ps_set (by rw [o.N]; exact o.nd) h1 h2 he hs h3) fun D σ H ⟨g, F, e, hK, hC, k, w⟩ => ⟨g, F, e, hK, hC, k, ?_⟩
  exact (sm_of w).mono fun o' e' _ t F' H' _ k' v r => st_ok k' r t
theorem es_setLc {st : Stmt} {i : Nat} {c : Ex} (h : PS X st (tAsg (tEv Φ C W X.K c) (gName i))) : PS X st (tEx Φ C W X.K (.set i c)) := by
  refine PS.imp h fun D σ H ⟨g, F, e, hK, hC, k, w⟩ => ⟨g, F, e, hK, hC, k, ?_⟩
  exact (sm_of w).mono fun o' e' _ t F' H' _ k' v r => st_ok k' r t
theorem es_unp {es : List Expr} {tk : Nat} {tp pos : Pos} {t : List Nat} {ex : Expr} {c : Ex} (o : XOk S C W Φ X) (ht : cTg S (.Tuple es tk tp) = some t) (he : PE X ex (tEv Φ C W X.K c)) (hw : swappedStores [.Tuple es tk tp] ex X.env = pure none) : PS X (.Assign [.Tuple es tk tp] ex pos) (tEx Φ C W X.K (.unp t c)) := by
  have hs : swapsWithSole [.Tuple es tk tp] ex pos.line X.env = pure false := by cases ex <;> rfl
  refine PS.imp (ps_asg he (eg_tg o ht) hs hw) fun D σ H ⟨g, F, e, hK, hC, k, w⟩ => ⟨g, F, e, hK, hC, k, ?_⟩
  refine (sm_of w).mono fun o' e' _ t1 F' H' _ k' v r => ?_
  obtain ⟨d, q1, t2⟩ := tm_rd (sm_of (σ := σ) t1)
  obtain ⟨_, r1⟩ := rd_ok k' r q1
  have ht2 : cNames S es = some t ∧ 2 ≤ es.length := by
    have h : (if 2 ≤ es.length then cNames S es else none) = some t := ht
    split at h
    · exact ⟨h, by assumption⟩
    · cases h
  have hlen : 2 ≤ t.length := by rw [(eg_names o ht2.1).2.2.2]; exact ht2.2
  cases d with
  | tup ds =>
    obtain ⟨e2, q2, w2⟩ := sm_opt t2
    have rf : Rep g.K F' (.tup ds) v := by
      cases r1 with
      | fz r => exact r
    refine ⟨g, F', e', .tup ds, e2, hK, k', rf, ?_, fun σ' k2 _ => w2 F' σ' H' k2⟩
    match t, hlen with
    | i :: j :: t, _ => exact q2
  | _ => exact t2.elim
theorem es_par {x y : Str} {i j : Nat} {px py pt pt2 pos : Pos} {kt k2 : Nat} {a b : Expr} {ca cb : Ex} (o : XOk S C W Φ X) (hk : S.sc.kind = .function) (hx : S.sc.names.lookup x = some .local) (hy : S.sc.names.lookup y = some .local)
    (hl : (px.line == py.line) = true) (hne : (x == y) = false) (hc : (cnst a && cnst b) = false) (sa : isStar a = false) (sb : isStar b = false) (hi : idx S.N x = some i) (hj : idx S.N y = some j) (ha : PA X [a, b] (tEvc Φ C W X.K (.cons ca (.cons cb .nil)))) :
    PS X (.Assign [.Tuple [.Name x px, .Name y py] kt pt] (.Tuple [a, b] k2 pt2) pos) (tEx Φ C W X.K (.par i j ca cb)) := by
  have hij : i ≠ j := fun z => by
    subst z
    have e1 := idx_at hi
    have e2 := idx_at hj
    rw [e1] at e2
    cases e2
    rw [beq_self_eq_true] at hne
    cases hne
  have lx : X.env.scope.names.lookup x = some .local := by rw [o.sc]; exact hx
  have ly : X.env.scope.names.lookup y = some .local := by rw [o.sc]; exact hy
  refine PS.imp (ps_par o.calm (by rw [o.N]; exact o.nd) (o.at hi) (o.at hj) hij lx ly ha (swap2 (by rw [o.sc]; exact hk) lx ly hl hne hc sa sb)) fun D σ H ⟨g, F, e, hK, hC, k, w⟩ => ⟨g, F, e, hK, hC, k, ?_⟩
  refine (sm_of w).mono fun ds e' _ t F' H' _ k' vs r => ?_
  have rr : Reps g.K F' ds vs := r
  cases rr with
  | nil => exact t.elim
  | cons r1 rr =>
    cases rr with
    | nil => exact t.elim
    | cons r2 rr =>
      cases rr with
      | cons _ _ => exact t.elim
      | nil =>
        obtain ⟨e3, q3, w3⟩ := sm_opt t
        obtain ⟨e2, q2, q4⟩ := Option.bind_eq_some_iff.mp q3
        exact ⟨_, _, rfl, w3 _ _ _ ((k'.storeFz q2 r1).storeFz q4 r2)⟩
end
end PL
namespace PL
open L2 PySem PyProof.Rows PySem.Spec
section
variable {S : Sc} {C : Str → Option Addr} {W : WX} {Φ : Ora} {X : Cx}
theorem ev_var {i : Nat} {e e' : Env} {o : Opd} (h : ev Φ (.var i) e = .ok o e') : o = .s i ∧ e' = e := by
  have h' : (match e[i]? with | some .un => Rz.bad | none => .bad | some _ => .ok (Opd.s i) e) = .ok o e' := h
  cases q : e[i]? with
  | none => rw [q] at h'; cases h'
  | some s =>
    rw [q] at h'
    cases s with
    | un => cases h'
    | _ => cases h'; exact ⟨rfl, rfl⟩
theorem held_var {i : Nat} {e : Env} (h : held i e = true) : ev Φ (.var i) e = .ok (.s i) e ∧ ∃ s xs, e[i]? = some s ∧ (s = .ow (.lst xs) ∨ s = .io (.lst xs)) := by
  unfold held at h
  show (match e[i]? with | some .un => Rz.bad | none => .bad | some _ => .ok (Opd.s i) e) = _ ∧ _
  cases q : e[i]? with
  | none => rw [q] at h; cases h
  | some s =>
    rw [q] at h
    cases s with
    | ow d => cases d with
      | lst xs => exact ⟨rfl, _, xs, rfl, .inl rfl⟩
      | _ => cases h
    | io d => cases d with
      | lst xs => exact ⟨rfl, _, xs, rfl, .inr rfl⟩
      | _ => cases h
    | _ => cases h
theorem es_app {x m : Str} {i : Nat} {px ap cp pos : Pos} {a : Expr} {ca : Ex} (o : XOk S C W Φ X) (hm : m = ("append" : Str)) (hx : seen S x = true) (hi : idx S.N x = some i) (hl : (ap.endLine == cp.line) = true) (hs : isStar a = false) (ha : PE X a (tEv Φ C W X.K ca)) :
    PS X (.Expr (.Call (.Attribute (.Name x px) m ap) [a] [] cp) pos) (tEx Φ C W X.K (.app i ca)) := by
  subst hm
  have hst := star_of (env := X.env) (es := []) hs
  have hfew : ((backTo cp (starEach [a] X.env)).all (fun x => !x.1) && (backToKw cp (keywordEach [] X.env)).all (fun x => x.1.isSome) && decide (([a] : List Expr).length + ([] : List Keyword).length + (if ([] : List Keyword).isEmpty then 0 else 1) < 30)) = true := by
    rw [hst]
    rfl
  refine PS.imp (ps_expr (pe_bm PySem.F.plainAttrs_list PySem.F.slot_list_append PySem.F.type_list_append mt_append (ee_var o (pos := px) hx hi) (pa_cons ha pa_nil hst) rfl hfew hl hst rfl) rfl) fun D σ H ⟨g, F, e, hK, hC, k, w⟩ => ?_
  have w' : SM g W (if held i e = true then SR.of (M.bind (ev Φ ca) cns e) (fun d e2 => SR.opt (chg i (fun xs => if xs.length < sizeLine then some (xs ++ [d]) else none) e2)) else .bad) D := w
  by_cases hh : held i e = true
  · rw [if_pos hh] at w'
    obtain ⟨hv, s, xs, q1, q2⟩ := held_var (Φ := Φ) hh
    refine ⟨g, F, e, hK, hC, k, ?_⟩
    rw [hv]
    show ∀ F' H', Sub F F' → Ok g F' e σ H' → ∀ v, σ[i]? = some (some v) → _
    intro F' H' s1 k1 v r
    refine ⟨?_, g, F', e, hK, hC, k1, (tm_bind (sm_of w')).mono fun ox e1 _ t1 F2 H2 s2 k2 y oy => ?_⟩
    · have so := k1.slot i s q1
      have hm : s.mut = true := by rcases q2 with rfl | rfl <;> rfl
      obtain ⟨b, d3, y1, y2, y3, y4, y5⟩ := so.at hm
      rw [r] at y2
      cases y2
      obtain ⟨_, vs, _, z, _⟩ := y5.there
      exact .inl ⟨rfl, vs, SqL.of z⟩
    · obtain ⟨d, e2, w1, t2⟩ := tm_cns t1
      obtain ⟨F3, s3, k3, r3⟩ := cns_ok k2 oy w1
      obtain ⟨e3, w3, w4⟩ := sm_opt t2
      obtain ⟨b, xs, ys, vs, rfl, f1, f2, f3, f4⟩ := k3.chg (xs := []) (ys := []) (ws := []) w3 r
      refine ⟨b, vs, y, rfl, rfl, f2, ?_⟩
      split at f1
      · rename_i hlt
        cases f1
        exact ⟨by rw [← f3.length]; exact hlt, w4 _ _ _ (f4 _ (f3.append (.cons r3 .nil)))⟩
      · cases f1
  · rw [if_neg hh] at w'
    exact w'.elim
theorem es_sset {x : Str} {i : Nat} {px sp pos : Pos} {ix v : Expr} {ci cv : Ex} (o : XOk S C W Φ X) (hx : seen S x = true) (hi : idx S.N x = some i) (hl : isLc v = false) (hp : ∀ lo hi p, ix ≠ .Slice lo hi none p) (h1 : PE X ix (tEv Φ C W X.K ci)) (h2 : PE X v (tEv Φ C W X.K cv)) :
    PS X (.Assign [.Subscript (.Name x px) ix sp] v pos) (tEx Φ C W X.K (.sset i ci cv)) := by
  have ha : ∀ u, assign (.Subscript (.Name x px) ix sp) X.env u = (do
      let ov ← holding [u] (eval (.Name x px) X.env)
      let iv ← holding [u, ov] (eval ix X.env)
      standAt sp
      holding [u, ov, iv] (setItem ov iv u)
      release [u, ov, iv] []) := by
    intro u
    cases ix with
    | Slice lo hi st p =>
      cases st with
      | none => exact absurd rfl (hp lo hi p)
      | some st => rfl
    | _ => rfl
  have hs : swapsWithSole [.Subscript (.Name x px) ix sp] v pos.line X.env = pure false := by cases v <;> first | rfl | cases hl
  have hw : swappedStores [.Subscript (.Name x px) ix sp] v X.env = pure none := by cases v <;> rfl
  refine PS.imp (ps_asg h2 (pg_sub (ee_var o (pos := px) hx hi) h1 set_list ha) hs hw) fun D σ H ⟨g, F, e, hK, hC, k, w⟩ => ⟨g, F, e, hK, hC, k, ?_⟩
  refine (tm_bind (sm_of w)).mono fun ox e1 _ t1 F1 H1 s1 k1 y oy => ?_
  obtain ⟨d, e2, w1, t2⟩ := tm_cns t1
  obtain ⟨F2, s2, k2, r2⟩ := cns_ok k1 oy w1
  refine ⟨g, F2, e2, hK, hC, k2, (sm_of t2).mono fun ob e3 w2 t3 F3 H3 s3 k3 b rb => ?_⟩
  obtain ⟨rfl, rfl⟩ := ev_var w2
  refine ⟨g, F3, e3, hK, hC, k3, (sm_of t3).mono fun oi e4 _ t4 F4 H4 s4 k4 iv ri => ?_⟩
  obtain ⟨dk, w5, t5⟩ := tm_rd (sm_of (σ := σ) t4)
  obtain ⟨_, rk⟩ := rd_ok k4 ri w5
  cases dk with
  | int n =>
    cases rk.int
    obtain ⟨e5, w6, w7⟩ := sm_opt t5
    obtain ⟨a, xs, ys, vs, rfl, f1, f2, f3, f4⟩ := k4.chg (xs := []) (ys := []) (ws := []) w6 rb
    obtain ⟨j, j1, rfl⟩ := Option.map_eq_some_iff.mp f1
    exact ⟨a, vs, n, j, rfl, rfl, f2, by rw [← f3.length]; exact j1, w7 _ _ _ (f4 _ (f3.set (r2.mono (s3.trans s4)) j))⟩
  | _ => exact t5.elim
theorem es_while {c : Expr} {cc : Ex} {b : List Stmt} {cb : PL.St} {pos : Pos} (o : XOk S C W Φ X) (hc : PT X c (tEvT Φ C W X.K cc)) (hb : PSs X b (tEx Φ C W X.K cb)) : PS X (.While c b [] pos) (tEx Φ C W X.K (.whl cc cb)) := by
  refine PS.imp (ps_while o.po hc hb) fun D σ H ⟨g, F, e, hK, hC, k, w⟩ => ?_
  refine ⟨fun m σ H => ∃ F e, Ok g F e σ H ∧ SM g W (whS (evT Φ cc) (ex Φ cb) m e) D, ⟨_, F, e, k, w⟩, ?_⟩
  rintro m σ H ⟨F, e, k, w⟩
  cases m with
  | zero => exact w.elim
  | succ m =>
    refine ⟨g, F, e, hK, hC, k, ?_⟩
    have w' : SM g W (match evT Φ cc e with
      | .ok true e1 => match ex Φ cb e1 with
        | .nx e2 => whS (evT Φ cc) (ex Φ cb) m e2
        | .ct e2 => whS (evT Φ cc) (ex Φ cb) m e2
        | .bk e2 => .nx e2
        | r => r
      | .ok false e1 => .nx e1
      | .er x e1 => .er x e1
      | .bad => .bad) D := w
    cases q : evT Φ cc e with
    | bad => rw [q] at w'; exact w'.elim
    | er x e1 => rw [q] at w'; exact fun F H cls dd k q => w' F σ H cls dd k q
    | ok t e1 =>
      rw [q] at w'
      intro F1 H1 s1 k1
      cases t with
      | false => exact iteF (w' F1 σ H1 k1)
      | true =>
        refine iteT ⟨fun σ H => ∃ F e, Ok g F e σ H ∧ SM g W (whS (evT Φ cc) (ex Φ cb) m e) D, fun σ' H' n => ⟨m, Nat.lt_succ_self m, n⟩, g, F1, e1, hK, hC, k1, ?_⟩
        have w2 : SM g W (match ex Φ cb e1 with
          | .nx e2 => whS (evT Φ cc) (ex Φ cb) m e2
          | .ct e2 => whS (evT Φ cc) (ex Φ cb) m e2
          | .bk e2 => .nx e2
          | r => r) D := w'
        cases q2 : ex Φ cb e1 with
        | nx e2 => rw [q2] at w2; exact fun F σ H k => ⟨F, e2, k, w2⟩
        | ct e2 => rw [q2] at w2; exact fun F σ H k => ⟨F, e2, k, w2⟩
        | bk e2 => rw [q2] at w2; exact w2
        | rt n d e2 => rw [q2] at w2; exact w2
        | er x e2 => rw [q2] at w2; exact w2
        | bad => rw [q2] at w2; exact w2
/-- from here on the frozen part is counted anew -/
theorem Ok.rebase {g : Gh} {F1 F H1 H : Hp} {e1 e : Env} {σ1 σ : L2.St} (k1 : Ok g F1 e1 σ1 H1) (k : Ok g F e σ H) (s : Sub F1 F) : Ok { g with F0 := F1 } F e σ H :=
  ⟨k.len, k.sub, s, k.keep, fun a o q => (k.fr a o q).trans (k1.fr a o q).symm, k.bt, k.slot, k.dis⟩
theorem Ok.unbase {g : Gh} {F1 F H1 H : Hp} {e1 e : Env} {σ1 σ : L2.St} (k1 : Ok g F1 e1 σ1 H1) (k : Ok { g with F0 := F1 } F e σ H) : Ok g F e σ H ∧ Sub F1 F :=
  ⟨⟨k.len, k.sub, k1.base.trans k.base, k.keep, fun a o q => (k.fr a o q).trans (k1.fr a o q), k.bt, k.slot, k.dis⟩, k.base⟩
theorem es_for {tg it : Expr} {t : List Nat} {ci : Ex} {b : List Stmt} {cb : PL.St} {pos : Pos} (o : XOk S C W Φ X) (hi : PI X tg it (tEvI Φ C W X.K ci)) (hs : ∀ z, foldedSetIterable it X.env z = pure z) (hg : PG X tg (tTg X.K t)) (hb : PSs X b (tEx Φ C W X.K cb)) :
    PS X (.For tg it b [] pos) (tEx Φ C W X.K (.fr t ci cb)) := by
  refine PS.imp (ps_for o.po o.calm hi hg hb hs) fun D σ H ⟨g, F, e, hK, hC, k, w⟩ => ⟨g, F, e, hK, hC, k, ?_⟩
  refine (sm_of w).mono fun ds e1 _ t1 F1 H1 s1 k1 J hJ => ?_
  refine ⟨fun i m σ H => m = ds.length - i ∧ i ≤ ds.length ∧ ∃ F' e', Sub F1 F' ∧ Ok g F' e' σ H ∧ SM g W (lpS t (ex Φ cb) (ds.drop i) e') D, ⟨_, rfl, Nat.zero_le _, F1, e1, Same.refl _, k1, t1⟩, ?_⟩
  rintro i m σ2 H2 ⟨rfl, hle, F2, e2, s2, k2, w2⟩
  have sJ := hJ H2 (s2.trans k2.sub) k2.keep i
  rcases Nat.lt_or_ge i ds.length with hlt | hge
  · obtain ⟨go, yl⟩ := sJ.1 hlt
    refine .inr ⟨go, fun σ H => ∃ F' e', Sub F1 F' ∧ Ok g F' e' σ H ∧ SM g W (lpS t (ex Φ cb) (ds.drop (i + 1)) e') D, fun σ' H' n => ⟨ds.length - (i + 1), by omega, rfl, hlt, n⟩, fun x H3 hy => ?_⟩
    obtain ⟨rfl, d, hd, rd0⟩ := yl x H3 hy
    have hdrop : ds.drop i = d :: ds.drop (i + 1) := by
      (rw [List.drop_eq_getElem_cons hlt])
      rw [List.getElem?_eq_getElem hlt] at hd
      cases hd
      rfl
    rw [hdrop] at w2
    have w3 : SM g W (match asgT t d e2 with
      | none => .bad
      | some e1 => match ex Φ cb e1 with
        | .nx e2 => lpS t (ex Φ cb) (ds.drop (i + 1)) e2
        | .ct e2 => lpS t (ex Φ cb) (ds.drop (i + 1)) e2
        | .bk e2 => .nx e2
        | r => r) D := w2
    cases q : asgT t d e2 with
    | none => rw [q] at w3; exact w3.elim
    | some e3 =>
      rw [q] at w3
      refine ⟨g, F2, e2, d, e3, hK, k2, rd0.mono s2, q, fun σ3 k3 _ => ?_⟩
      refine ⟨{ g with F0 := F1 }, F2, e3, hK, hC, k1.rebase k3 s2, ?_⟩
      have w4 : SM g W (match ex Φ cb e3 with
        | .nx e2 => lpS t (ex Φ cb) (ds.drop (i + 1)) e2
        | .ct e2 => lpS t (ex Φ cb) (ds.drop (i + 1)) e2
        | .bk e2 => .nx e2
        | r => r) D := w3
      cases q2 : ex Φ cb e3 with
      | nx e4 => rw [q2] at w4; exact fun F σ H k => ⟨F, e4, (k1.unbase k).2, (k1.unbase k).1, w4⟩
      | ct e4 => rw [q2] at w4; exact fun F σ H k => ⟨F, e4, (k1.unbase k).2, (k1.unbase k).1, w4⟩
      | bk e4 => rw [q2] at w4; exact fun F σ H k => w4 F σ H (k1.unbase k).1
      | rt n d e4 => rw [q2] at w4; exact fun F σ H v k r => w4 F σ H v (k1.unbase k).1 (by cases n <;> exact r)
      | er x e4 => rw [q2] at w4; exact fun F σ H cls dd k r => w4 F σ H cls dd (k1.unbase k).1 r
      | bad => rw [q2] at w4; exact w4.elim
  · have ei : i = ds.length := by omega
    subst ei
    rw [List.drop_length] at w2
    exact .inl ⟨sJ.2 hge, (show ∀ F σ H, Ok g F e2 σ H → D.nx σ H from w2) F2 σ2 H2 k2⟩
end
end PL
namespace PL
open L2 PySem PyProof.Rows PySem.Spec
theorem cE_slice {n : Nat} {S : Sc} {e : Expr} {c : Ex} (h : cE n S e = some c) : ∀ lo hi p, e ≠ .Slice lo hi none p := by
  intro lo hi p z
  subst z
  cases n with
  | zero => cases h
  | succ n => cases h
theorem cE_lc {n : Nat} {S : Sc} {e : Expr} {c : Ex} (h : cE n S e = some c) : isLc e = false ∨ ∃ elt tg it ifs scope p, e = .ListComp elt [⟨tg, it, ifs, 0⟩] scope p := by
  cases e with
  | SetComp a b d p =>
    cases n with
    | zero => cases h
    | succ n => cases h
  | DictComp a b d f p =>
    cases n with
    | zero => cases h
    | succ n => cases h
  | ListComp elt gens scope p =>
    refine .inr ?_
    cases n with
    | zero => cases h
    | succ n =>
      match gens, h with
      | [⟨tg, it, ifs, ia⟩], h =>
        by_cases hz : ia = 0
        · subst hz; exact ⟨_, _, _, _, _, _, rfl⟩
        · rw [cE] at h <;> first | cases h | (intros; rename_i q; first | (cases q; done) | (cases q; exact hz rfl))
      | [], h => cases h
      | _ :: _ :: _, h => rw [cE] at h <;> first | cases h | (intros; rename_i q; cases q; done)
  | _ => exact .inl rfl
/-- what a comprehension is made of -/
theorem cE_lcParts {n : Nat} {S : Sc} {elt tg it : Expr} {ifs : List Expr} {scope : Scope} {p : Pos} {c : Ex} (h : cE (n + 1) S (.ListComp elt [⟨tg, it, ifs, 0⟩] scope p) = some c) :
    ∃ t i cc x, c = .lc t i cc x ∧ cTg { S with sc := relS scope S.sc, df := false } tg = some t ∧ blkC S.N S.sc scope ((tgNames tg).zip t) = true ∧ (tgNames tg).length = t.length ∧ cI n S it = some i ∧ cC1 n { S with sc := relS scope S.sc, df := false } ifs = some cc ∧ cE n { S with sc := relS scope S.sc, df := false } elt = some x := by
  have h' : ((cTg { S with sc := relS scope S.sc, df := false } tg).bind fun t => if blkC S.N S.sc scope ((tgNames tg).zip t) = true ∧ (tgNames tg).length = t.length then
        (cI n S it).bind fun i => (cC1 n { S with sc := relS scope S.sc, df := false } ifs).bind fun c => (cE n { S with sc := relS scope S.sc, df := false } elt).map fun x => Ex.lc t i c x
      else none) = some c := h
  obtain ⟨t, h1, h2⟩ := Option.bind_eq_some_iff.mp h'
  split at h2
  · rename_i hb
    obtain ⟨i, h3, h4⟩ := Option.bind_eq_some_iff.mp h2
    obtain ⟨cc, h5, h6⟩ := Option.bind_eq_some_iff.mp h4
    obtain ⟨x, h7, rfl⟩ := Option.map_eq_some_iff.mp h6
    exact ⟨t, i, cc, x, rfl, h1, hb.1, hb.2, h3, h5, h7⟩
  · cases h2
theorem swapK {env : PySem.Env} {es : List Expr} {tk k : Nat} {tp p : Pos} {a b : Expr} (h : (isKon a && isKon b) = true) : swappedStores [.Tuple es tk tp] (.Tuple [a, b] k p) env = pure none := by
  rw [Bool.and_eq_true] at h
  cases a <;> first | cases h.1 | skip
  cases b <;> first | cases h.2 | skip
  unfold swappedStores
  simp [foldedForSure]
theorem ihs : ∀ n, ∀ {S : Sc} {C : Str → Option Addr} {W : WX} {Φ : Ora} {X : Cx}, XOk S C W Φ X → ∀ {st : Stmt} {c : PL.St}, cS n S st = some c → PS X st (tEx Φ C W X.K c)
  | 0, S, C, W, Φ, X, o, st, c, h => by cases h
  | n + 1, S, C, W, Φ, X, o, st, c, h => by
    have ih := ihn n
    have hE : ∀ {e c}, cE n S e = some c → PE X e (tEv Φ C W X.K c) := fun q => ih.E o q
    have hS : ∀ {sts c}, cSs (cS n S) sts = some c → PSs X sts (tEx Φ C W X.K c) := fun q => es_list (fun q => ihs n o q) q
    have plain : ∀ {e : Expr} {c : PL.St} {pos : Pos}, (if isLc e = true then none else (cE n S e).map PL.St.exp) = some c → PS X (.Expr e pos) (tEx Φ C W X.K c) := by
      intro e c pos h
      split at h
      · cases h
      · rename_i hl
        obtain ⟨a, h1, rfl⟩ := Option.map_eq_some_iff.mp h
        exact es_exp (hE h1) (by simpa using hl)
    cases st with
    | Pass p => cases h; exact es_next ps_pass
    | Break p => cases h; exact es_brk
    | Continue p => cases h; exact es_cnt
    | Return v p =>
      cases v with
      | none => cases h; exact es_retN
      | some e =>
        obtain ⟨a, h1, rfl⟩ := Option.map_eq_some_iff.mp (show (cE n S e).map PL.St.ret = some c from h)
        exact es_ret (hE h1)
    | If t a b p =>
      obtain ⟨ct, h1, h2⟩ := Option.bind_eq_some_iff.mp (show ((cT n S t).bind fun c => (cSs (cS n S) a).bind fun a => (cSs (cS n S) b).map fun b => PL.St.ifs c a b) = some c from h)
      obtain ⟨ca, h3, h4⟩ := Option.bind_eq_some_iff.mp h2
      obtain ⟨cb, h5, rfl⟩ := Option.map_eq_some_iff.mp h4
      exact es_if (ih.T o h1) (hS h3) (hS h5)
    | While t b el p =>
      cases el with
      | cons _ _ => cases h
      | nil =>
        obtain ⟨ct, h1, h2⟩ := Option.bind_eq_some_iff.mp (show ((cT n S t).bind fun c => (cSs (cS n S) b).map fun b => PL.St.whl c b) = some c from h)
        obtain ⟨cb, h3, rfl⟩ := Option.map_eq_some_iff.mp h2
        exact es_while o (ih.T o h1) (hS h3)
    | For tg it b el p =>
      cases el with
      | cons _ _ => cases h
      | nil =>
        obtain ⟨t, h1, h2⟩ := Option.bind_eq_some_iff.mp (show ((cTg S tg).bind fun t => (cI n S it).bind fun i => (cSs (cS n S) b).map fun b => PL.St.fr t i b) = some c from h)
        obtain ⟨ci, h3, h4⟩ := Option.bind_eq_some_iff.mp h2
        obtain ⟨cb, h5, rfl⟩ := Option.map_eq_some_iff.mp h4
        obtain ⟨hi, hs⟩ := ih.I o h3
        exact es_for o (hi tg) (hs X.env) (eg_tg o h1) (hS h5)
    | Expr e p =>
      cases e with
      | Constant cst k cp =>
        cases cst with
        | str s => cases h; exact es_next ps_doc
        | _ => exact plain h
      | Call fn args ks cp =>
        cases fn with
        | Attribute ob m ap =>
          cases ob with
          | Name x xp =>
            match args, ks, h with
            | [a], [], h =>
              have h' : (if (m == ("append" : Str)) = true ∧ (ap.endLine == cp.line) = true ∧ seen S x = true ∧ isStar a = false then (idx S.N x).bind fun i => (cE n S a).map fun a => PL.St.app i a else none) = some c := h
              split at h'
              · rename_i hc
                obtain ⟨i, h1, h2⟩ := Option.bind_eq_some_iff.mp h'
                obtain ⟨ca, h3, rfl⟩ := Option.map_eq_some_iff.mp h2
                exact es_app o (beq_iff_eq.mp hc.1) hc.2.2.1 h1 hc.2.1 hc.2.2.2 (hE h3)
              · cases h'
            | [], _, h => exact plain h
            | [_], _ :: _, h => exact plain h
            | _ :: _ :: _, _, h => exact plain h
          | _ => exact plain h
        | _ => exact plain h
      | _ => exact plain h
    | Assign ts e p =>
      match ts, h with
      | [], h => cases h
      | _ :: _ :: _, h => rw [cS] at h <;> first | cases h | (intros; rename_i q; cases q)
      | [t], h =>
       cases t with
       | Name x xp =>
        have h' : (if isLc e = true then (if lcLine S x xp e = true then (idx S.N x).bind fun i => (cE n S e).map fun a => PL.St.set i a else none) else (cName S x).bind fun i => (cE n S e).map fun a => PL.St.set i a) = some c := h
        split at h'
        · rename_i hl
          split at h'
          · rename_i hln
            obtain ⟨i, h1, h2⟩ := Option.bind_eq_some_iff.mp h'
            obtain ⟨a, h3, rfl⟩ := Option.map_eq_some_iff.mp h2
            rcases cE_lc h3 with z | ⟨elt, tg, it, ifs, scope, lp, rfl⟩
            · rw [hl] at z; cases z
            · cases n with
              | zero => cases h3
              | succ n =>
                obtain ⟨t, ci, cc, cx, rfl, p1, p2, p3, p4, p5, p6⟩ := cE_lcParts h3
                have ih' := ihn n
                obtain ⟨hi, hs⟩ := ih'.I o p4
                have hq : (isFnK S.sc.kind && S.sc.names.lookup x == some .local && (xp.line == lp.line) && !(scope.names.any fun (n, k) => n == x && (k == .local || k == .cell))) = true := hln
                simp only [Bool.and_eq_true, Bool.not_eq_true'] at hq
                refine es_setLc (es_lc o p2 p3 (hi tg) (hs X.env) (fun X' o' hk => ?_) (fun X' o' hk => ?_) (fun X' o' hk => ?_) (isFnK_eq hq.1.1.1) (beq_iff_eq.mp hq.1.1.2) h1 hq.1.2 hq.2)
                · rw [← hk]; exact eg_tg o' p1
                · rw [← hk]; exact ih'.Q o' p5
                · rw [← hk]; exact ih'.E o' p6
          · cases h'
        · rename_i hl
          obtain ⟨i, h1, h2⟩ := Option.bind_eq_some_iff.mp h'
          obtain ⟨a, h3, rfl⟩ := Option.map_eq_some_iff.mp h2
          exact es_set o h1 (hE h3) (by simpa using hl)
       | Subscript ob ix sp =>
        cases ob with
        | Name x xp =>
          have h' : (if isLc e = true ∨ seen S x = false then none else (idx S.N x).bind fun i => (cE n S ix).bind fun ix => (cE n S e).map fun a => PL.St.sset i ix a) = some c := h
          split at h'
          · cases h'
          · rename_i hc
            rw [not_or] at hc
            obtain ⟨i, h1, h2⟩ := Option.bind_eq_some_iff.mp h'
            obtain ⟨ci, h3, h4⟩ := Option.bind_eq_some_iff.mp h2
            obtain ⟨ca, h5, rfl⟩ := Option.map_eq_some_iff.mp h4
            exact es_sset o (by simpa using hc.2) h1 (by simpa using hc.1) (cE_slice h3) (hE h3) (hE h5)
        | _ => cases h
       | Tuple es tk tp =>
        have h' : (if isTup e = true then cPar (cE n S) S es tk tp e else (cTg S (.Tuple es tk tp)).bind fun t => (cE n S e).map fun a => PL.St.unp t a) = some c := h
        split at h'
        · unfold cPar at h'
          split at h'
          · rename_i a b kk2 pp2 hx1 hx2
            split at h'
            · rename_i hk
              obtain ⟨t, h1, h2⟩ := Option.bind_eq_some_iff.mp h'
              obtain ⟨ca, h3, rfl⟩ := Option.map_eq_some_iff.mp h2
              exact es_unp o h1 (hE h3) (swapK hk)
            · split at h'
              · rename_i hq
                simp only [Bool.and_eq_true, Bool.not_eq_true'] at hq
                obtain ⟨⟨⟨⟨⟨⟨⟨q1, q2⟩, q3⟩, q4⟩, q5⟩, q6⟩, q7⟩, q8⟩ := hq
                obtain ⟨i, h1, h2⟩ := Option.bind_eq_some_iff.mp h'
                obtain ⟨j, h3, h4⟩ := Option.bind_eq_some_iff.mp h2
                obtain ⟨ca, h5, h6⟩ := Option.bind_eq_some_iff.mp h4
                obtain ⟨cb, h7, rfl⟩ := Option.map_eq_some_iff.mp h6
                have hab : cEs (cE n S) [a, b] = some (.cons ca (.cons cb .nil)) := by
                  show (if isStar a = true then none else (cE n S a).bind fun a => (if isStar b = true then none else (cE n S b).bind fun b => (some Ex.nil).map fun r => Ex.cons b r).map fun r => Ex.cons a r) = _
                  rw [q7, q8, h5, h7]
                  rfl
                exact es_par o (isFnK_eq q3) (beq_iff_eq.mp q1) (beq_iff_eq.mp q2) q4 q5 q6 q7 q8 h1 h3 (pa_evc (fun e c q => hE q) hab)
              · cases h'
          · cases h'
        · rename_i ht
          obtain ⟨t, h1, h2⟩ := Option.bind_eq_some_iff.mp h'
          obtain ⟨a, h3, rfl⟩ := Option.map_eq_some_iff.mp h2
          exact es_unp o h1 (hE h3) (by cases e <;> first | rfl | exact absurd (show isTup (.Tuple _ _ _) = true from rfl) ht)
       | _ => cases h
    | _ => cases h
end PL
namespace PL
open L2 PySem PyProof.Rows PySem.Spec
/-! ## a program -/
/-- its names by what they are -/
structure Tab where
  def_ : Str → Option Def
  gv : Str → Option D
  free : Str → Bool
  gc : Str → Bool
  sh : Str → Nat → List Str → Option (List Bool × List Src)
def Tab.sc (T : Tab) (N : List Str) (sc : Scope) : Sc := ⟨N, sc, true, T.free, T.gc, T.sh⟩
/-- a def behind the top: where it lies, how it binds -/
structure Lies (K : PySem.W.Frag) (mg : Str → Option Value) (T : Tab) (x : Str) (fa : Addr) (fd : FuncData) (ps : List Str) : Prop where
  at_ : mg x = some (.ref fa)
  kp : PySem.W.keepIn K (.ref fa) = true
  bnd : ∀ n ks io src, T.sh x n ks = some (io, src) → Bnd K fd ps n ks src
  body : ∀ d, T.def_ x = some d → d.np = ps.length ∧ ∃ params body scope dvs kws N n, FunD K x x params body scope dvs kws fa fd ∧ FnScope N ps scope ∧ d.nn = N.length ∧ cSs (cS n (T.sc N scope)) body = some d.body
structure Mod (K : PySem.W.Frag) (mg : Str → Option Value) (T : Tab) : Prop where
  fr : ∀ x, T.free x = true → mg x = none
  gc : ∀ x, T.gc x = true → ∃ d u v, T.gv x = some d ∧ mg x = some u ∧ RelV v u ∧ Rep K (fun _ => none) d v
  df : ∀ x n ks io src, T.sh x n ks = some (io, src) → ∃ fa fd ps, Lies K mg T x fa fd ps
section
variable {P : Program} {w : World} {K : PySem.W.Frag} {mg : Str → Option Value} {base : Heap} {T : Tab} {C : Str → Option Addr} {fuel : Nat}
theorem spF_len {run : List Arg → FRes} {n : Nat} (h : ∀ as, run as ≠ .bad → as.length = n) : ∀ vs H Q E, SpF K C run vs H Q E → vs.length = n := fun vs H Q E ⟨F, as, s, ok, w⟩ => by
  rw [← ok.len]
  refine h as fun z => ?_
  rw [z] at w
  exact w
theorem runD_len {Φ : Ora} {d : Def} {as : List Arg} (h : runD Φ d as ≠ .bad) : as.length = d.np ∧ d.np ≤ d.nn := by
  unfold runD at h
  split at h
  · assumption
  · exact absurd rfl h
/-- THE RULE: a def's run -/
theorem fn_ok {Φ : Ora} {x : Str} {k n : Nat} {params : Arguments} {body : List Stmt} {scope : Scope} {dvs : List V} {kws : List (Str × V)} {fa : Addr} {fd : FuncData} {ps N : List Str} {d : Def}
    (M : Mod K mg T) (hgv : Φ.gv = T.gv) (F : FunD K x x params body scope dvs kws fa fd) (S : FnScope N ps scope) (hnp : d.np = ps.length) (hnn : d.nn = N.length) (hb : cSs (cS n (T.sc N scope)) body = some d.body)
    (calls : ∀ f m ks io src, T.sh f m ks = some (io, src) → ∃ fa fd ps, mg f = some (.ref fa) ∧ PySem.W.keepIn K (.ref fa) = true ∧ FnOk P w K mg base (L2.CX P w) k fa fd ps (SpF K C (Φ.call f)) ∧ Bnd K fd ps m ks src) :
    FnOk P w K mg base (L2.CX P w) (k + 1) fa fd ps (SpF K C (runD Φ d)) := by
  refine F.ok S (spF_len fun as h => by rw [(runD_len h).1, hnp]) fun cdv A outer s H vs Q E hr hsp => ?_
  have o : XOk (T.sc N scope) C (fun cls dd _ H' => E cls dd H') Φ (cxOf (L2.CX P w) P w K mg base N x scope fa cdv A outer s H E) := by
    refine ⟨rfl, S.nd, rfl, rfl, ?_, takes_of rfl rfl rfl rfl, passes_of rfl, fun _ _ => rfl, M.fr, fun y hy => ?_, fun f m ks io src q => ?_⟩
    · have := hr.un
      show (A.deeper _).units + 65 < cLine
      omega
    · rw [hgv]
      exact M.gc y hy
    · obtain ⟨fa', fd', ps', h1, h2, h3, h4⟩ := calls f m ks io src q
      exact ⟨fa', fd', ps', k, h1, h2, hr, h3, h4⟩
  refine ⟨_, es_list (fun q => ihs n o q) hb, ?_⟩
  obtain ⟨F0, as, sub, ok, run⟩ := hsp
  have nb : runD Φ d as ≠ .bad := fun z => by rw [z] at run; exact run
  obtain ⟨hl, hle⟩ := runD_len nb
  have k0 := start_ok (C := C) (N := N) (nn := d.nn) ok sub (by omega) hnn.symm
  refine ⟨gh0 K C F0 H as vs, F0, startE d.nn as, rfl, rfl, k0, ?_⟩
  unfold runD at run
  rw [if_pos ⟨hl, hle⟩] at run
  cases q : ex Φ d.body (startE d.nn as) with
  | nx e =>
    rw [q] at run
    intro F' σ H' k1
    by_cases hk : kept as e = true
    · simp only [if_pos hk] at run
      exact run F' H' .non (end_ok ok hl k1 hk) .non
    · simp only [if_neg hk] at run
  | rt nw v e =>
    rw [q] at run
    intro F' σ H' u k1 r
    by_cases hk : kept as e = true
    · simp only [if_pos hk] at run
      exact run F' H' u (end_ok ok hl k1 hk) (end_ret ok k1 hk r)
    · simp only [if_neg hk] at run
  | er z e =>
    rw [q] at run
    intro F' σ H' cls dd k1 r
    by_cases hk : kept as e = true
    · simp only [if_pos hk] at run
      exact run F' H' cls dd (end_ok ok hl k1 hk) r
    · simp only [if_neg hk] at run
  | bk e => rw [q] at run; exact run.elim
  | ct e => rw [q] at run; exact run.elim
  | bad => rw [q] at run; exact run.elim
theorem fn_bad {k : Nat} {fa : Addr} {fd : FuncData} {ps : List Str} {run : List Arg → FRes} (h : ∀ as, run as = .bad) : FnOk P w K mg base (L2.CX P w) k fa fd ps (SpF K C run) := by
  have no : ∀ vs H Q E, ¬ SpF K C run vs H Q E := fun vs H Q E ⟨F, as, s, ok, w⟩ => by
    rw [h] at w
    exact w
  exact ⟨fun vs H Q E q => (no _ _ _ _ q).elim, fun A outer s H args us vs Q E hr e0 hb hv hs => (no _ _ _ _ hs).elim⟩
/-- every def, at every depth of calls -/
theorem all_ok (M : Mod K mg T) : ∀ (k : Nat) (x : Str) (fa : Addr) (fd : FuncData) (ps : List Str), Lies K mg T x fa fd ps → FnOk P w K mg base (L2.CX P w) k fa fd ps (SpF K C ((orc T.def_ T.gv fuel k).call x))
  | 0, x, fa, fd, ps, L => fn_bad fun as => rfl
  | k + 1, x, fa, fd, ps, L => by
    cases q : T.def_ x with
    | none =>
      refine fn_bad fun as => ?_
      show (match T.def_ x with | some d => runD (orc T.def_ T.gv fuel k) d as | none => .bad) = .bad
      rw [q]
    | some d =>
      obtain ⟨hnp, params, body, scope, dvs, kws, N, n, F, S, hnn, hb⟩ := L.body d q
      have e : (orc T.def_ T.gv fuel (k + 1)).call x = runD (orc T.def_ T.gv fuel k) d := by
        funext as
        show (match T.def_ x with | some d => runD (orc T.def_ T.gv fuel k) d as | none => .bad) = _
        rw [q]
      rw [e]
      refine fn_ok (n := n) M ?_ F S hnp hnn hb fun f m ks io src hs => ?_
      · cases k <;> rfl
      · obtain ⟨fa', fd', ps', L'⟩ := M.df f m ks io src hs
        exact ⟨fa', fd', ps', L'.at_, L'.kp, all_ok M k f fa' fd' ps' L', L'.bnd m ks io src hs⟩
end
end PL
namespace PL
open L2 PySem PyProof.Rows PySem.Spec
/-! ## a program by rows -/
structure PRow where
  x : Str
  /-- how it is called: so many positional arguments, these keywords; what is changed in place; where the parameters come from -/
  shapes : List (Nat × List Str × List Bool × List Src)
  d : Def
def mkTab (es : List PRow) (fs : List Str) (cs : List (Str × D)) : Tab where
  def_ := fun x => (es.find? fun e => e.x == x).map PRow.d
  gv := fun x => cs.lookup x
  free := fun x => fs.contains x
  gc := fun x => (cs.lookup x).isSome
  sh := fun x n ks => (es.find? fun e => e.x == x).bind fun e => (e.shapes.find? fun s => s.1 == n && s.2.1 == ks).map fun s => s.2.2
section
variable {K : PySem.W.Frag} {mg : Str → Option Value}
structure LiesE (K : PySem.W.Frag) (mg : Str → Option Value) (T : Tab) (e : PRow) : Prop where
  ex : ∃ fa fd ps, mg e.x = some (.ref fa) ∧ PySem.W.keepIn K (.ref fa) = true ∧ (∀ s ∈ e.shapes, Bnd K fd ps s.1 s.2.1 s.2.2.2) ∧ e.d.np = ps.length ∧
    ∃ params body scope dvs kws N n, FunD K e.x e.x params body scope dvs kws fa fd ∧ FnScope N ps scope ∧ e.d.nn = N.length ∧ cSs (cS n (T.sc N scope)) body = some e.d.body
theorem mod_mk {es : List PRow} {fs : List Str} {cs : List (Str × D)} (h1 : ∀ e ∈ es, LiesE K mg (mkTab es fs cs) e) (h2 : ∀ x ∈ fs, mg x = none) (h3 : ∀ q ∈ cs, ∃ u v, mg q.1 = some u ∧ RelV v u ∧ Rep K (fun _ => none) q.2 v) : Mod K mg (mkTab es fs cs) where
  fr := fun x hx => h2 x (by
    have hx' : fs.contains x = true := hx
    simpa using hx')
  gc := fun x hx => by
    have hx' : (cs.lookup x).isSome = true := hx
    obtain ⟨d, hd⟩ := Option.isSome_iff_exists.mp hx'
    obtain ⟨u, v, q1, q2, q3⟩ := h3 _ (PySem.mem_of_lookup hd)
    exact ⟨d, u, v, hd, q1, q2, q3⟩
  df := fun x n ks io src hs => by
    have hs' : ((es.find? fun e => e.x == x).bind fun e => (e.shapes.find? fun s => s.1 == n && s.2.1 == ks).map fun s => s.2.2) = some (io, src) := hs
    obtain ⟨e, he, _⟩ := Option.bind_eq_some_iff.mp hs'
    have hm := List.mem_of_find?_eq_some he
    have hx : e.x = x := by simpa using List.find?_some he
    obtain ⟨fa, fd, ps, a1, a2, a3, a4, a5⟩ := (h1 e hm).ex
    refine ⟨fa, fd, ps, by rw [← hx]; exact a1, a2, fun n ks io src q => ?_, fun d q => ?_⟩
    · have q' : ((es.find? fun e => e.x == x).bind fun e => (e.shapes.find? fun s => s.1 == n && s.2.1 == ks).map fun s => s.2.2) = some (io, src) := q
      rw [he, Option.bind_some] at q'
      obtain ⟨s, w1, w2⟩ := Option.map_eq_some_iff.mp q'
      have hc := List.find?_some w1
      have b := a3 s (List.mem_of_find?_eq_some w1)
      (simp only [Bool.and_eq_true, beq_iff_eq] at hc)
      rw [hc.1, hc.2, w2] at b
      exact b
    · have q' : (es.find? fun e => e.x == x).map PRow.d = some d := q
      rw [he] at q'
      cases q'
      rw [hx] at a5
      exact ⟨a4, a5⟩
/-- every parameter by position -/
theorem bnd_pos {fd : FuncData} {ps : List Str} (h : ∀ us : List Value, us.length = ps.length → bindArgs fd ⟨us, []⟩ = pure (ps.zip us)) {n : Nat} {src : List Src} (hn : n = ps.length) (hs : src = (List.range n).map Src.pos) : Bnd K fd ps n [] src := by
  intro s us ws X hu hw
  refine ⟨us, ?_, ?_⟩
  · rw [show ([] : List Str).zip ws = [] from rfl]
    exact .of_eq (h us (by rw [hu, hn]))
  · subst hs
    subst hu
    have gen : ∀ (l : List Nat) (ds : List Value), l.length = ds.length → (∀ (j i : Nat), l[j]? = some i → us[i]? = ds[j]?) → SrcV K us ws (l.map Src.pos) ds := by
      intro l
      induction l with
      | nil =>
        intro ds hl _
        cases ds with
        | nil => exact .nil
        | cons _ _ => cases hl
      | cons i l ih =>
        intro ds hl hq
        cases ds with
        | nil => cases hl
        | cons d ds => exact .pos (hq 0 i rfl) (ih ds (by simpa using hl) fun j i q => hq (j + 1) i q)
    refine gen _ us (by simp) fun j i q => ?_
    obtain ⟨hj, rfl⟩ := List.getElem?_eq_some_iff.mp q
    simp
end
end PL
namespace PL
open L2 PySem PyProof.Rows PySem.Spec
theorem lies_mk {K : PySem.W.Frag} {mg : Str → Option Value} {T : Tab} {e : PRow} {st : Stmt} {N ps : List Str} {n : Nat} {fa : Addr} {od an : Option Addr} {sl : Array (Option Value)} {oc kV dc pm cd ct : Value}
    (a : mg e.x = some (.ref fa)) (l : K.lookup fa = some ⟨oc, od, .func (PySem.W.fnOf e.x e.x (defArgs st) (defBody st) (defScope st) .none kV dc pm an cd ct), sl⟩) (c : PySem.W.codeIn K cd e.x = true) (k : PySem.W.keepIn K (.ref fa) = true)
    (S : FnScope N ps (defScope st)) (hb : cSs (cS n (T.sc N (defScope st))) (defBody st) = some e.d.body) (hnp : e.d.np = ps.length) (hnn : e.d.nn = N.length)
    (bs : ∀ (kV dc pm : Value) (an : Option Addr) (cd ct : Value), ∀ s ∈ e.shapes, Bnd K (PySem.W.fnOf e.x e.x (defArgs st) (defBody st) (defScope st) .none kV dc pm an cd ct) ps s.1 s.2.1 s.2.2.2) : LiesE K mg T e :=
  ⟨fa, _, ps, a, k, bs kV dc pm an cd ct, hnp, _, _, _, [], [], N, n, ⟨⟨oc, od, .none, kV, dc, pm, an, cd, ct, sl, rfl, l, c, .inl ⟨rfl, rfl⟩, .inl rfl⟩, k⟩, S, hnn, hb⟩
end PL
namespace PL
open L2 PySem PyProof.Rows PySem.Spec
/-! ## runs by what is wanted of them -/
/-- it ends well, and so -/
def Y {α : Type} (r : Rz α) (P : α → Env → Prop) : Prop := match r with
  | .ok a e => P a e
  | _ => False
/-- a call ends well, and so -/
def ClR (r : FRes) (P : Bool → D → List D → Prop) : Prop := match r with
  | .ok n d outs => P n d outs
  | _ => False
structure Cl (Φ : Ora) (f : Str) (as : List Arg) (P : Bool → D → List D → Prop) : Prop where
  run : ClR (Φ.call f as) P
structure Zs where
  nx : Env → Prop
  rt : Bool → D → Env → Prop
  bk : Env → Prop
  ct : Env → Prop
def Xs (r : SR) (Z : Zs) : Prop := match r with
  | .nx e => Z.nx e
  | .rt n d e => Z.rt n d e
  | .bk e => Z.bk e
  | .ct e => Z.ct e
  | _ => False
section
variable {α β : Type} {Φ : Ora} {e : Env} {P : α → Env → Prop} {Q : β → Env → Prop} {Z : Zs}
theorem Y.mono {r : Rz α} {P' : α → Env → Prop} (h : Y r P') (i : ∀ a e, P' a e → P a e) : Y r P := by
  cases r with
  | ok a e => exact i a e h
  | er x e => exact h
  | bad => exact h
theorem Cl.mono {f : Str} {as : List Arg} {P P' : Bool → D → List D → Prop} (h : Cl Φ f as P') (i : ∀ n d o, P' n d o → P n d o) : Cl Φ f as P := by
  refine ⟨?_⟩
  have h := h.run
  unfold ClR at h ⊢
  cases q : Φ.call f as with
  | ok n d o => rw [q] at h; exact i n d o h
  | er x o => rw [q] at h; exact h
  | bad => rw [q] at h; exact h
theorem Xs.mono {r : SR} {Z' : Zs} (h : Xs r Z') (i1 : ∀ e, Z'.nx e → Z.nx e) (i2 : ∀ n d e, Z'.rt n d e → Z.rt n d e) (i3 : ∀ e, Z'.bk e → Z.bk e) (i4 : ∀ e, Z'.ct e → Z.ct e) : Xs r Z := by
  cases r with
  | nx e => exact i1 e h
  | rt n d e => exact i2 n d e h
  | bk e => exact i3 e h
  | ct e => exact i4 e h
  | er x e => exact h
  | bad => exact h
theorem Y_ok {a : α} : Y (.ok a e) P = P a e := rfl
theorem Y_bad : Y (.bad : Rz α) P = False := rfl
theorem Y_ret {a : α} : Y (M.ret a e) P = P a e := rfl
theorem Y_bind {m : M β} {f : β → M α} : Y (M.bind m f e) P = Y (m e) fun b e1 => Y (f b e1) P := by
  unfold M.bind
  cases m e <;> rfl
theorem Y_lift {o : Option α} : Y (M.lift o e) P = ∃ a, o = some a ∧ P a e := by
  cases o with
  | none => simp [M.lift, Y]
  | some a => simp [M.lift, Y]
theorem Y_rdv {d : D} {P : D → Env → Prop} : Y (rd (.v d) e) P = P d e := rfl
theorem Y_rdn {d : D} {P : D → Env → Prop} : Y (rd (.n d) e) P = P d e := rfl
theorem Y_rds {i : Nat} {P : D → Env → Prop} : Y (rd (.s i) e) P = ∃ d, (e[i]?).bind Slot.val = some d ∧ P d e := by
  unfold rd
  cases q : (e[i]?).bind Slot.val with
  | none => simp [Y, q]
  | some d => simp [Y, q]
theorem Y_cnv {d : D} {P : D → Env → Prop} : Y (cns (.v d) e) P = P d e := rfl
theorem Y_cnn {d : D} {P : D → Env → Prop} : Y (cns (.n d) e) P = P d e := rfl
/-- kept: a slot's value is frozen -/
def kp (i : Nat) (e : Env) : Option (D × Env) := match e[i]? with
  | some (.fz d) => some (d, e)
  | some (.ow d) => some (d, e.set i (.fz d))
  | _ => none
theorem Y_cns {i : Nat} {P : D → Env → Prop} : Y (cns (.s i) e) P = ∃ q, kp i e = some q ∧ P q.1 q.2 := by
  unfold cns kp
  cases q : e[i]? with
  | none => simp [Y, q]
  | some s => cases s <;> simp [Y, q]
/-- walked -/
def wk (i : Nat) (e : Env) : Option (D × Env) := match e[i]? with
  | some (.fz d) => some (d, e)
  | some (.bw d) => some (d, e)
  | some (.ow d) => some (d, e.set i (.fz d))
  | _ => none
theorem Y_wkv {d : D} {P : D → Env → Prop} : Y (wlk (.v d) e) P = P d e := rfl
theorem Y_wkn {d : D} {P : D → Env → Prop} : Y (wlk (.n d) e) P = P d e := rfl
theorem Y_wks {i : Nat} {P : D → Env → Prop} : Y (wlk (.s i) e) P = ∃ q, wk i e = some q ∧ P q.1 q.2 := by
  unfold wlk wk
  cases q : e[i]? with
  | none => simp [Y, q]
  | some s => cases s <;> simp [Y, q]
theorem Y_call {f : Str} {ms : List Bool} {os : List Opd} {P : Opd → Env → Prop} : Y (callF Φ f ms os e) P = (once (slotsO os) ms os = true ∧ ∃ as, argsO e ms os = some as ∧ Cl Φ f as fun n d outs => P (if n = true then .n d else .v d) (back ms os outs e)) := by
  have st : ∀ {as : List Arg} {P : Bool → D → List D → Prop}, Cl Φ f as P = ClR (Φ.call f as) P := propext ⟨fun h => h.run, fun h => ⟨h⟩⟩
  simp only [st]
  unfold callF ClR
  cases once (slotsO os) ms os with
  | false => simp [Y]
  | true =>
    simp only [if_true, true_and]
    cases q : argsO e ms os with
    | none => simp [Y]
    | some as =>
      simp only [Option.some.injEq, exists_eq_left']
      cases q : Φ.call f as with
      | ok n d o => cases n <;> rfl
      | er x o => rfl
      | bad => rfl
theorem Y_bl {o : Option Bool} {P : Opd → Env → Prop} : Y (bl o e) P = ∃ b, o = some b ∧ P (.v (.bl b)) e := by
  unfold bl
  rw [Y_bind, Y_lift]
  rfl
/-- a name is there -/
def has (i : Nat) (e : Env) : Bool := match e[i]? with
  | some .un => false
  | some _ => true
  | none => false
theorem Y_var {i : Nat} {P : Opd → Env → Prop} : Y (ev Φ (.var i) e) P = (has i e = true ∧ P (.s i) e) := by
  show Y (match e[i]? with | some .un => Rz.bad | none => .bad | some _ => .ok (Opd.s i) e) P = _
  unfold has
  cases q : e[i]? with
  | none => simp [Y]
  | some s => cases s <;> simp [Y]
theorem Y_tupe {ds : List D} {P : Opd → Env → Prop} : Y ((if ds.length ≤ sizeLine then Rz.ok (Opd.v (.tup ds)) e else .bad)) P = (ds.length ≤ sizeLine ∧ P (.v (.tup ds)) e) := by
  by_cases h : ds.length ≤ sizeLine
  · rw [if_pos h]; simp [Y, h]
  · rw [if_neg h]; simp [Y, h]
theorem Y_lste {ds : List D} {P : Opd → Env → Prop} : Y ((if ds.length ≤ sizeLine then Rz.ok (Opd.n (.lst ds)) e else .bad)) P = (ds.length ≤ sizeLine ∧ P (.n (.lst ds)) e) := by
  by_cases h : ds.length ≤ sizeLine
  · rw [if_pos h]; simp [Y, h]
  · rw [if_neg h]; simp [Y, h]
/-! ### statements -/
theorem Xs_of {r : Rz α} {f : α → Env → SR} : Xs (SR.of r f) Z = Y r fun a e => Xs (f a e) Z := by cases r <;> rfl
theorem Xs_opt {o : Option Env} : Xs (SR.opt o) Z = ∃ e, o = some e ∧ Z.nx e := by
  cases o with
  | none => simp [SR.opt, Xs]
  | some e => simp [SR.opt, Xs]
theorem Xs_nx : Xs (.nx e) Z = Z.nx e := rfl
theorem Xs_rt {n : Bool} {d : D} : Xs (.rt n d e) Z = Z.rt n d e := rfl
theorem Xs_bk : Xs (.bk e) Z = Z.bk e := rfl
theorem Xs_ct : Xs (.ct e) Z = Z.ct e := rfl
theorem Xs_skip : Xs (ex Φ .skip e) Z = Z.nx e := rfl
theorem Xs_seq {a b : PL.St} : Xs (ex Φ (.seq a b) e) Z = Xs (ex Φ a e) ⟨fun e1 => Xs (ex Φ b e1) Z, Z.rt, Z.bk, Z.ct⟩ := by
  show Xs (match ex Φ a e with | .nx e' => ex Φ b e' | r => r) Z = _
  cases ex Φ a e <;> rfl
theorem Xs_ifs {c : Ex} {a b : PL.St} : Xs (ex Φ (.ifs c a b) e) Z = Y (evT Φ c e) fun k e1 => (if k = true then Xs (ex Φ a e1) Z else Xs (ex Φ b e1) Z) := by
  show Xs (SR.of (evT Φ c e) fun k e1 => if k = true then ex Φ a e1 else ex Φ b e1) Z = _
  rw [Xs_of]
  congr
  funext k e1
  cases k <;> rfl
theorem Xs_set {i : Nat} {x : Ex} : Xs (ex Φ (.set i x) e) Z = Y (ev Φ x e) fun o e1 => Xs (stO i o e1) Z := Xs_of
theorem Xs_stv {i : Nat} {d : D} : Xs (stO i (.v d) e) Z = ∃ e', setS i (.fz d) e = some e' ∧ Z.nx e' := Xs_opt
theorem Xs_stn {i : Nat} {d : D} : Xs (stO i (.n d) e) Z = ∃ e', setS i (.ow d) e = some e' ∧ Z.nx e' := Xs_opt
theorem Xs_sts {i j : Nat} : Xs (stO i (.s j) e) Z = ∃ q, kp j e = some q ∧ ∃ e', setS i (.fz q.1) q.2 = some e' ∧ Z.nx e' := by
  show Xs (SR.of (cns (.s j) e) fun d e' => SR.opt (setS i (.fz d) e')) Z = _
  rw [Xs_of, Y_cns]
  simp only [Xs_opt]
theorem Xs_ret {x : Ex} : Xs (ex Φ (.ret x) e) Z = Y (ev Φ x e) fun o e1 => Xs (rtO o e1) Z := Xs_of
theorem Xs_rtv {d : D} : Xs (rtO (.v d) e) Z = Z.rt false d e := rfl
theorem Xs_rtn {d : D} : Xs (rtO (.n d) e) Z = Z.rt true d e := rfl
/-- a slot's value is returned -/
def rtS (i : Nat) (e : Env) : Option (Bool × D × Env) := match e[i]? with
  | some (.fz d) => some (false, d, e)
  | some (.ow d) => some (true, d, e.set i .un)
  | _ => none
theorem Xs_rts {i : Nat} : Xs (rtO (.s i) e) Z = ∃ q, rtS i e = some q ∧ Z.rt q.1 q.2.1 q.2.2 := by
  unfold rtS
  show Xs (match e[i]? with | some (.fz d) => .rt false d e | some (.ow d) => .rt true d (e.set i .un) | _ => .bad) Z = _
  cases q : e[i]? with
  | none => simp [Xs]
  | some s => cases s <;> simp [Xs]
theorem Xs_retN : Xs (ex Φ .retN e) Z = Z.rt false .non e := rfl
theorem Xs_exp {x : Ex} : Xs (ex Φ (.exp x) e) Z = Y (ev Φ x e) fun _ e1 => Z.nx e1 := Xs_of
theorem Xs_app {i : Nat} {x : Ex} : Xs (ex Φ (.app i x) e) Z = (held i e = true ∧ Y (ev Φ x e) fun o e1 => Y (cns o e1) fun d e2 => ∃ e3, chg i (fun xs => if xs.length < sizeLine then some (xs ++ [d]) else none) e2 = some e3 ∧ Z.nx e3) := by
  show Xs (if held i e = true then SR.of (M.bind (ev Φ x) cns e) (fun d e2 => SR.opt (chg i (fun xs => if xs.length < sizeLine then some (xs ++ [d]) else none) e2)) else .bad) Z = _
  by_cases h : held i e = true
  · rw [if_pos h, Xs_of, Y_bind]
    simp only [Xs_opt, h, true_and]
  · rw [if_neg h]
    simp [Xs, h]
theorem Xs_sset {i : Nat} {ix x : Ex} : Xs (ex Φ (.sset i ix x) e) Z = Y (ev Φ x e) fun o e0 => Y (cns o e0) fun d e1 => has i e1 = true ∧ Y (ev Φ ix e1) fun o e3 => Y (rd o e3) fun k e4 => ∃ j, k = .int j ∧ ∃ e5, chg i (fun xs => (ixN xs.length j).map fun j => xs.set j d) e4 = some e5 ∧ Z.nx e5 := by
  show Xs (SR.of (M.bind (ev Φ x) cns e) fun d e1 => SR.of (ev Φ (.var i) e1) fun _ e2 => SR.of (ev Φ ix e2) fun o e3 => SR.of (rd o e3) fun k e4 => match k with
    | .int k => SR.opt (chg i (fun xs => (ixN xs.length k).map fun j => xs.set j d) e4)
    | _ => .bad) Z = _
  rw [Xs_of, Y_bind]
  simp only [Xs_of, Y_var]
  congr
  funext o e0
  congr
  funext d e1
  congr
  funext o e3
  congr
  funext k e4
  cases k with
  | int n =>
    show Xs (SR.opt (chg i (fun xs => (ixN xs.length n).map fun j => xs.set j d) e4)) Z = _
    rw [Xs_opt]
    simp
  | _ => simp [Xs]
theorem Xs_fr {tg : List Nat} {it : Ex} {b : PL.St} : Xs (ex Φ (.fr tg it b) e) Z = Y (evI Φ it e) fun ds e1 => Xs (lpS tg (ex Φ b) ds e1) Z := Xs_of
/-- a loop by its invariant -/
theorem lp_ok {tg : List Nat} {b : Env → SR} {ds : List D} (I : Nat → Env → Prop) (h0 : I 0 e) (hs : ∀ i d e, ds[i]? = some d → I i e → ∃ e1, asgT tg d e = some e1 ∧ Xs (b e1) ⟨I (i + 1), Z.rt, Z.nx, I (i + 1)⟩) (hd : ∀ e, I ds.length e → Z.nx e) : Xs (lpS tg b ds e) Z := by
  induction ds generalizing e I with
  | nil => exact hd e h0
  | cons d ds ih =>
    obtain ⟨e1, h1, h2⟩ := hs 0 d e rfl h0
    have rest : ∀ e2, I 1 e2 → Xs (lpS tg b ds e2) Z := fun e2 k => ih (fun i => I (i + 1)) k (fun i d e q k => hs (i + 1) d e q k) hd
    show Xs (match asgT tg d e with
      | none => .bad
      | some e1 => match b e1 with
        | .nx e2 => lpS tg b ds e2
        | .ct e2 => lpS tg b ds e2
        | .bk e2 => .nx e2
        | r => r) Z
    rw [h1]
    show Xs (match b e1 with
        | .nx e2 => lpS tg b ds e2
        | .ct e2 => lpS tg b ds e2
        | .bk e2 => .nx e2
        | r => r) Z
    cases q : b e1 with
    | nx e2 => rw [q] at h2; exact rest e2 h2
    | ct e2 => rw [q] at h2; exact rest e2 h2
    | bk e2 => rw [q] at h2; exact h2
    | rt n d e2 => rw [q] at h2; exact h2
    | er x e2 => rw [q] at h2; exact h2
    | bad => rw [q] at h2; exact h2
section
variable {P : Opd → Env → Prop} {o : BOp} {p q : COp} {a b c : Ex}
theorem Y_int {i : Int} : Y (ev Φ (.int i) e) P = P (.v (.int i)) e := rfl
theorem Y_bool {i : Bool} : Y (ev Φ (.bl i) e) P = P (.v (.bl i)) e := rfl
theorem Y_non : Y (ev Φ .non e) P = P (.v .non) e := rfl
theorem Y_str {i : Str} : Y (ev Φ (.str i) e) P = P (.v (.str i)) e := rfl
theorem Y_gl {x : Str} : Y (ev Φ (.gl x) e) P = ∃ d, Φ.gv x = some d ∧ P (.v d) e := by simp only [ev, Y_bind, Y_lift, Y_ret]
theorem Y_bin : Y (ev Φ (.bin o a b) e) P = Y (ev Φ a e) fun x e1 => Y (ev Φ b e1) fun y e2 => Y (rd x e2) fun dx e3 => Y (rd y e3) fun dy e4 => ∃ c, binD o dx dy = some c ∧ P c e4 := by simp only [ev, Y_bind, Y_lift]
theorem Y_neg : Y (ev Φ (.neg a) e) P = Y (ev Φ a e) fun x e1 => Y (rd x e1) fun d e2 => ∃ i, d = .int i ∧ P (.v (.int (-i))) e2 := by
  simp only [ev, Y_bind]
  congr
  funext x e1
  congr
  funext d e2
  cases d <;> simp [Y, M.ret]
theorem Y_not : Y (ev Φ (.not a) e) P = Y (ev Φ a e) fun x e1 => Y (rd x e1) fun d e2 => ∃ k, truD d = some k ∧ P (.v (.bl (!k))) e2 := by simp only [ev, Y_bind, Y_lift, Y_ret]
theorem Y_and : Y (ev Φ (.and a b) e) P = Y (ev Φ a e) fun x e1 => Y (rd x e1) fun d e2 => ∃ k, truD d = some k ∧ if k = true then Y (ev Φ b e2) P else P x.fz e2 := by
  simp only [ev, Y_bind, Y_lift]
  congr
  funext x e1
  congr
  funext d e2
  congr
  funext k
  cases k <;> rfl
theorem Y_or : Y (ev Φ (.or a b) e) P = Y (ev Φ a e) fun x e1 => Y (rd x e1) fun d e2 => ∃ k, truD d = some k ∧ if k = true then P x.fz e2 else Y (ev Φ b e2) P := by
  simp only [ev, Y_bind, Y_lift]
  congr
  funext x e1
  congr
  funext d e2
  congr
  funext k
  cases k <;> rfl
theorem Y_ite : Y (ev Φ (.ite c a b) e) P = Y (evT Φ c e) fun k e1 => if k = true then Y (ev Φ a e1) P else Y (ev Φ b e1) P := by
  simp only [ev, Y_bind]
  congr
  funext k e1
  cases k <;> rfl
theorem Y_cmp : Y (ev Φ (.cmp p a b) e) P = Y (ev Φ a e) fun x e1 => Y (ev Φ b e1) fun y e2 => Y (rd x e2) fun dx e3 => Y (rd y e3) fun dy e4 => ∃ k, cmpD p dx dy = some k ∧ P (.v (.bl k)) e4 := by simp only [ev, Y_bind, Y_bl]
theorem Y_chain : Y (ev Φ (.chain p q a b c) e) P = Y (ev Φ a e) fun x e1 => Y (ev Φ b e1) fun y e2 => Y (rd x e2) fun dx e3 => Y (rd y e3) fun dy e4 => ∃ k, cmpD p dx dy = some k ∧ if k = true then Y (ev Φ c e4) fun z e5 => Y (rd y e5) fun dy e6 => Y (rd z e6) fun dz e7 => ∃ k, cmpD q dy dz = some k ∧ P (.v (.bl k)) e7 else P (.v (.bl false)) e4 := by
  simp only [ev, Y_bind, Y_lift]
  congr
  funext x e1
  congr
  funext y e2
  congr
  funext dx e3
  congr
  funext dy e4
  congr
  funext k
  cases k
  · rfl
  · simp only [if_true, Y_bind, Y_bl]
theorem Y_is {n : Bool} {k : Kon} : Y (ev Φ (.is n k a) e) P = Y (ev Φ a e) fun x e1 => Y (rd x e1) fun d e2 => ∃ b, (isD k d).map (fun b => if n = true then !b else b) = some b ∧ P (.v (.bl b)) e2 := by simp only [ev, Y_bind, Y_bl]
theorem Y_tup : Y (ev Φ (.tup a) e) P = Y (evc Φ a e) fun ds e1 => ds.length ≤ sizeLine ∧ P (.v (.tup ds)) e1 := by simp only [ev, Y_bind, Y_tupe]
theorem Y_lst : Y (ev Φ (.lst a) e) P = Y (evc Φ a e) fun ds e1 => ds.length ≤ sizeLine ∧ P (.n (.lst ds)) e1 := by simp only [ev, Y_bind, Y_lste]
theorem Y_sub : Y (ev Φ (.sub a b) e) P = Y (ev Φ a e) fun x e1 => Y (ev Φ b e1) fun y e2 => Y (rd x e2) fun dx e3 => Y (rd y e3) fun dy e4 => ∃ d, subD dx dy = some d ∧ P (.v d) e4 := by simp only [ev, Y_bind, Y_lift, Y_ret]
theorem Y_sli : Y (ev Φ (.sli a b c) e) P = Y (ev Φ a e) fun x e1 => Y (evP Φ b e1) fun l e2 => Y (evP Φ c e2) fun h e3 => Y (rd x e3) fun dx e4 => ∃ d, sliD dx l h = some d ∧ P d e4 := by simp only [ev, Y_bind, Y_lift]
theorem Y_rev : Y (ev Φ (.rev a) e) P = Y (ev Φ a e) fun x e1 => Y (rd x e1) fun dx e2 => ∃ d, revD dx = some d ∧ P d e2 := by simp only [ev, Y_bind, Y_lift]
theorem Y_blt {f : Blt} : Y (ev Φ (.blt f a) e) P = Y (evs Φ a e) fun os e1 => Y (rds os e1) fun ds e2 => ∃ d, bltD f ds = some d ∧ P d e2 := by simp only [ev, Y_bind, Y_lift]
theorem Y_mth {m : Mth} : Y (ev Φ (.mth m a b) e) P = Y (ev Φ a e) fun x e1 => Y (rd x e1) fun dx e2 => ∃ z, dx = .str z ∧ Y (evs Φ b e2) fun os e3 => Y (rds os e3) fun ds e4 => ∃ d, mthD m (.str z) ds = some d ∧ P d e4 := by
  simp only [ev, Y_bind]
  congr
  funext x e1
  congr
  funext dx e2
  cases dx with
  | str z => simp only [Y_bind, Y_lift, PL.D.str.injEq, exists_eq_left']
  | _ => simp [Y]
theorem Y_isi {t : Ty} : Y (ev Φ (.isi t a) e) P = Y (ev Φ a e) fun x e1 => Y (rd x e1) fun dx e2 => P (.v (.bl (isiD t dx))) e2 := by simp only [ev, Y_bind, Y_ret]
theorem Y_cal {f : Str} {ms : List Bool} {src : List Src} : Y (ev Φ (.call f ms src a b) e) P = Y (evs Φ a e) fun os e1 => Y (evs Φ b e1) fun ws e2 => ∃ xs, srcs os ws src = some xs ∧ once (slotsO xs) ms xs = true ∧ ∃ as, argsO e2 ms xs = some as ∧ Cl Φ f as fun n d outs => P (if n = true then .n d else .v d) (back ms xs outs e2) := by simp only [ev, Y_bind, Y_lift, Y_call]
end
theorem Y_nil {P : List Opd → Env → Prop} : Y (evs Φ .nil e) P = P [] e := rfl
theorem Y_cons {a b : Ex} {P : List Opd → Env → Prop} : Y (evs Φ (.cons a b) e) P = Y (ev Φ a e) fun x e1 => Y (evs Φ b e1) fun xs e2 => P (x.fz :: xs) e2 := by simp only [evs, Y_bind, Y_ret]
theorem Y_cnil {P : List D → Env → Prop} : Y (evc Φ .nil e) P = P [] e := rfl
theorem Y_ccons {a b : Ex} {P : List D → Env → Prop} : Y (evc Φ (.cons a b) e) P = Y (ev Φ a e) fun x e1 => Y (cns x e1) fun d e2 => Y (evc Φ b e2) fun ds e3 => P (d :: ds) e3 := by simp only [evc, Y_bind, Y_ret]
theorem Y_rnil {P : List D → Env → Prop} : Y (rds [] e) P = P [] e := rfl
theorem Y_rcons {o : Opd} {os : List Opd} {P : List D → Env → Prop} : Y (rds (o :: os) e) P = Y (rd o e) fun d e1 => Y (rds os e1) fun ds e2 => P (d :: ds) e2 := by simp only [rds, Y_bind, Y_ret]
section
variable {P : Bool → Env → Prop} {a b : Ex}
theorem T_not : Y (evT Φ (.not a) e) P = Y (evT Φ a e) fun k e1 => P (!k) e1 := by simp only [evT, Y_bind, Y_ret]
theorem T_and : Y (evT Φ (.and a b) e) P = Y (evT Φ a e) fun k e1 => if k = true then Y (evT Φ b e1) P else P false e1 := by
  simp only [evT, Y_bind]
  congr
  funext k e1
  cases k <;> rfl
theorem T_or : Y (evT Φ (.or a b) e) P = Y (evT Φ a e) fun k e1 => if k = true then P true e1 else Y (evT Φ b e1) P := by
  simp only [evT, Y_bind]
  congr
  funext k e1
  cases k <;> rfl
theorem T_so : Y (evT Φ (.so a) e) P = Y (ev Φ a e) fun x e1 => Y (rd x e1) fun d e2 => ∃ k, truD d = some k ∧ P k e2 := by simp only [evT, Y_bind, Y_lift]
theorem C_no : Y (evC Φ .no e) P = P true e := rfl
theorem C_so : Y (evC Φ (.so a) e) P = Y (evT Φ a e) P := by simp only [evC]
end
theorem P_no {P : Option Int → Env → Prop} : Y (evP Φ .no e) P = P none e := rfl
theorem P_so {a : Ex} {P : Option Int → Env → Prop} : Y (evP Φ (.so a) e) P = Y (ev Φ a e) fun x e1 => Y (rd x e1) fun d e2 => ∃ i, d = .int i ∧ P (some i) e2 := by
  simp only [evP, Y_bind]
  congr
  funext x e1
  congr
  funext d e2
  cases d <;> simp [partO, Y, M.ret]
theorem I_seq {a : Ex} {P : List D → Env → Prop} : Y (evI Φ (.seq a) e) P = Y (ev Φ a e) fun x e1 => Y (wlk x e1) fun d e2 => ∃ ds, itD d = some ds ∧ P ds e2 := by simp only [evI, Y_bind, Y_lift]
theorem I_rng {a b : Ex} {P : List D → Env → Prop} : Y (evI Φ (.rng a b) e) P = Y (ev Φ a e) fun x e1 => Y (ev Φ b e1) fun y e2 => Y (rd x e2) fun dx e3 => Y (rd y e3) fun dy e4 => ∃ ds, rngD dx dy = some ds ∧ P ds e4 := by simp only [evI, Y_bind, Y_lift]
/-! ### a def -/
theorem run_ok {d : Def} {as : List Arg} {P : Bool → D → List D → Prop} (h1 : as.length = d.np) (h2 : d.np ≤ d.nn)
    (h : Xs (ex Φ d.body (startE d.nn as)) ⟨fun e => kept as e = true ∧ P false .non (outsE d.np e), fun n x e => kept as e = true ∧ P n x (outsE d.np e), fun _ => False, fun _ => False⟩) : (match runD Φ d as with | .ok n x outs => P n x outs | _ => False) := by
  unfold runD
  rw [if_pos ⟨h1, h2⟩]
  cases q : ex Φ d.body (startE d.nn as) with
  | nx e => rw [q] at h; obtain ⟨k, p⟩ := h; simp only [if_pos k]; exact p
  | rt n x e => rw [q] at h; obtain ⟨k, p⟩ := h; simp only [if_pos k]; exact p
  | bk e => rw [q] at h; exact (show False from h).elim
  | ct e => rw [q] at h; exact (show False from h).elim
  | er x e => rw [q] at h; exact (show False from h).elim
  | bad => rw [q] at h; exact (show False from h).elim
theorem cl_ok {tab : Str → Option Def} {gv : Str → Option D} {fuel k : Nat} {f : Str} {d : Def} {as : List Arg} {P : Bool → D → List D → Prop} (hd : tab f = some d) (h1 : as.length = d.np) (h2 : d.np ≤ d.nn)
    (h : Xs (ex (orc tab gv fuel k) d.body (startE d.nn as)) ⟨fun e => kept as e = true ∧ P false .non (outsE d.np e), fun n x e => kept as e = true ∧ P n x (outsE d.np e), fun _ => False, fun _ => False⟩) : Cl (orc tab gv fuel (k + 1)) f as P := by
  refine ⟨?_⟩
  show (match (match tab f with | some d => runD (orc tab gv fuel k) d as | none => .bad) with | .ok n x outs => P n x outs | _ => False)
  rw [hd]
  exact run_ok h1 h2 h
end
end PL
namespace PL
open L2 PySem PyProof.Rows PySem.Spec
/-! ## operations, for runs -/
theorem ex_ite {α : Type} {p : Prop} [Decidable p] {r : α} {P : α → Prop} : (∃ c, (if p then some r else none) = some c ∧ P c) = (p ∧ P r) := by
  by_cases h : p
  · simp [h]
  · simp [h]
/-- a factor that the product may have -/
def Sm (i j : Int) : Prop := (-(2 ^ 64) < i ∧ i < 2 ^ 64) ∨ (-(2 ^ 64) < j ∧ j < 2 ^ 64)
instance {i j : Int} : Decidable (Sm i j) := inferInstanceAs (Decidable (_ ∨ _))
section
variable {i j : Int} {x y : Str} {xs ys : List D} {b c : Bool}
theorem b_addI : binD .add (.int i) (.int j) = some (.v (.int (i + j))) := rfl
theorem b_addS : binD .add (.str x) (.str y) = if x.length + y.length ≤ sizeLine then some (.v (.str (x ++ y))) else none := rfl
theorem b_addT : binD .add (.tup xs) (.tup ys) = if xs.length + ys.length ≤ sizeLine then some (.v (.tup (xs ++ ys))) else none := rfl
theorem b_addL : binD .add (.lst xs) (.lst ys) = if xs.length + ys.length ≤ sizeLine then some (.n (.lst (xs ++ ys))) else none := rfl
theorem b_subI : binD .sub (.int i) (.int j) = some (.v (.int (i - j))) := rfl
theorem b_mulI : binD .mul (.int i) (.int j) = if Sm i j then some (.v (.int (i * j))) else none := rfl
theorem b_mulS : binD .mul (.str x) (.int j) = if 0 ≤ j ∧ j ≤ 1000 ∧ x.length ≤ 1000 then some (.v (.str (Txt.mul x j))) else none := rfl
theorem b_mulL : binD .mul (.lst xs) (.int j) = if -(2 ^ 63) ≤ j ∧ j < 2 ^ 63 ∧ xs.length * j.toNat ≤ sizeLine then some (.n (.lst (List.replicate j.toNat xs).flatten)) else none := rfl
theorem b_mulT : binD .mul (.tup xs) (.int j) = if xs ≠ [] ∧ 2 ≤ j ∧ j ≤ 1000 ∧ xs.length ≤ 1000 then some (.v (.tup (List.replicate j.toNat xs).flatten)) else none := rfl
theorem b_fdv : binD .fdiv (.int i) (.int j) = if j ≠ 0 ∧ j.natAbs < 1073741824 then some (.v (.int (i.fdiv j))) else none := rfl
theorem b_mod : binD .mod (.int i) (.int j) = if j ≠ 0 then some (.v (.int (i.fmod j))) else none := rfl
theorem b_pow : binD .pow (.int i) (.int j) = if 0 ≤ j ∧ j ≤ 1000000 ∧ i.natAbs < 2 ^ 64 then some (.v (.int (i ^ j.toNat))) else none := rfl
theorem e_int : eqD (.int i) (.int j) = some (decide (i = j)) := by
  show (if scal (V.int i) (V.int j) = true then some (decide (V.int i = V.int j)) else none) = _
  rw [if_pos (by rfl)]
  simp
theorem e_str : eqD (.str x) (.str y) = some (decide (x = y)) := by
  show (if scal (V.str x) (V.str y) = true then some (decide (V.str x = V.str y)) else none) = _
  rw [if_pos (by rfl)]
  simp
theorem e_bl : eqD (.bl b) (.bl c) = some (decide (b = c)) := by
  show (if scal (V.bl b) (V.bl c) = true then some (decide (V.bl b = V.bl c)) else none) = _
  rw [if_pos (by rfl)]
  simp
theorem c_eq {d e : D} : cmpD .eq d e = eqD d e := rfl
theorem c_ne {d e : D} : cmpD .ne d e = (eqD d e).map (!·) := rfl
theorem c_in {d e : D} : cmpD .isin d e = inD d e := rfl
theorem c_notin {d e : D} : cmpD .notin d e = (inD d e).map (!·) := rfl
theorem c_lt : cmpD .lt (.int i) (.int j) = some (decide (i < j)) := rfl
theorem c_ltS : cmpD .lt (.str x) (.str y) = some (decide (x.cps.toList < y.cps.toList)) := rfl
theorem c_le : cmpD .le (.int i) (.int j) = some (decide (i ≤ j)) := rfl
theorem c_gt : cmpD .gt (.int i) (.int j) = some (decide (j < i)) := rfl
theorem c_ge : cmpD .ge (.int i) (.int j) = some (decide (j ≤ i)) := rfl
theorem t_bl : truD (.bl b) = some b := rfl
theorem t_non : truD .non = some false := rfl
theorem t_int : truD (.int i) = some (i != 0) := rfl
theorem t_tup : truD (.tup xs) = some (!xs.isEmpty) := rfl
theorem t_lst : truD (.lst xs) = some (!xs.isEmpty) := rfl
theorem t_str : truD (.str x) = if x.length ≤ sizeLine then some ((x.length : Int) != 0) else none := rfl
theorem s_lst : subD (.lst xs) (.int i) = atI xs i := rfl
theorem s_tup : subD (.tup xs) (.int i) = atI xs i := rfl
theorem s_str : subD (.str x) (.int i) = if x.length ≤ sizeLine then (atI x.cps.toList i).map (fun c => D.str ⟨#[c]⟩) else none := rfl
theorem l_lst : bltD .len [.lst xs] = some (.v (.int xs.length)) := rfl
theorem l_tup : bltD .len [.tup xs] = some (.v (.int xs.length)) := rfl
theorem l_str : bltD .len [.str x] = if x.length ≤ sizeLine then some (.v (.int x.length)) else none := rfl
theorem l_int : bltD .int [.int i] = some (.v (.int i)) := rfl
theorem l_listL : bltD .list [.lst xs] = some (.n (.lst xs)) := rfl
theorem l_listT : bltD .list [.tup xs] = some (.n (.lst xs)) := rfl
theorem l_tupL : bltD .tuple [.lst xs] = some (.v (.tup xs)) := rfl
theorem l_tupT : bltD .tuple [.tup xs] = some (.v (.tup xs)) := rfl
theorem m_strip : mthD .strip (.str x) [.str y] = if x.length ≤ sizeLine then some (.v (.str (Txt.stripChars x y))) else none := rfl
theorem m_upper : mthD .upper (.str x) [] = if x.length ≤ 5592405 then some (.v (.str (Txt.upper x))) else none := rfl
theorem m_count : mthD .count (.str x) [.str y] = some (.v (.int (Txt.count x y))) := rfl
theorem m_find : mthD .find (.str x) [.str y] = some (.v (.int (Txt.find x y))) := rfl
theorem z_lst {lo hi : Option Int} : sliD (.lst xs) lo hi = some (.n (.lst (cutD xs lo hi))) := rfl
theorem z_arg {lo hi : Option Int} : sliD (.arg xs) lo hi = some (.n (.lst (cutD xs lo hi))) := rfl
theorem z_tup {lo hi : Option Int} : sliD (.tup xs) lo hi = some (.v (.tup (cutD xs lo hi))) := rfl
theorem z_str {lo hi : Option Int} : sliD (.str x) lo hi = if x.length ≤ sizeLine then some (.v (.str (cutS x lo hi))) else none := rfl
theorem z_rev : revD (.lst xs) = some (.n (.lst xs.reverse)) := rfl
theorem i_lst : itD (.lst xs) = some xs := rfl
theorem i_tup : itD (.tup xs) = some xs := rfl
theorem i_str : itD (.str x) = some (x.cps.toList.map fun c => .str ⟨#[c]⟩) := rfl
theorem i_rng : rngD (.int i) (.int j) = if -(2 ^ 62) ≤ i ∧ i < 2 ^ 62 ∧ -(2 ^ 62) ≤ j ∧ j < 2 ^ 62 then some ((List.range (j - i).toNat).map fun (k : Nat) => .int (i + k)) else none := rfl
theorem n_non {d : D} : isD .non d = some (match d with | .non => true | _ => false) := by cases d <;> rfl
theorem n_tru {d : D} : isD .tru d = some (match d with | .bl b => b | _ => false) := by cases d <;> rfl
theorem n_fls {d : D} : isD .fls d = some (match d with | .bl b => !b | _ => false) := by cases d <;> rfl
end
end PL
namespace PL
open L2 PySem PyProof.Rows PySem.Spec
section
variable {α : Type} {a b c d e f : α} {l : List α}
theorem at0 : atI (a :: l) 0 = some a := atI_nat (j := 0) rfl
theorem at1 : atI (a :: b :: l) 1 = some b := atI_nat (j := 1) rfl
theorem at2 : atI (a :: b :: c :: l) 2 = some c := atI_nat (j := 2) rfl
theorem at3 : atI (a :: b :: c :: d :: l) 3 = some d := atI_nat (j := 3) rfl
theorem at4 : atI (a :: b :: c :: d :: e :: l) 4 = some e := atI_nat (j := 4) rfl
theorem at5 : atI (a :: b :: c :: d :: e :: f :: l) 5 = some f := atI_nat (j := 5) rfl
theorem at_nat {l : List α} {p : Int} (h : 0 ≤ p) (h2 : p < l.length) : ∃ (j : Nat) (x : α), p = j ∧ l[j]? = some x ∧ atI l p = some x := by
  obtain ⟨j, rfl⟩ := Int.eq_ofNat_of_zero_le h
  have hj : j < l.length := by
    have : (j : Int) < l.length := h2
    omega
  exact ⟨j, l[j], rfl, List.getElem?_eq_getElem hj, atI_nat (List.getElem?_eq_getElem hj)⟩
end
theorem ix60 : ixN 6 0 = some 0 := by decide
theorem ix61 : ixN 6 1 = some 1 := by decide
theorem ix62 : ixN 6 2 = some 2 := by decide
theorem ix63 : ixN 6 3 = some 3 := by decide
theorem ix64 : ixN 6 4 = some 4 := by decide
theorem ix65 : ixN 6 5 = some 5 := by decide
theorem sm_f {a m b : Int} (h : 0 < m) (h2 : m < 2 ^ 64) : Sm (a.fmod m) b := by
  have h3 := Int.fmod_nonneg_of_pos a h
  have h4 := Int.fmod_lt_of_pos a h
  exact .inl ⟨by omega, by omega⟩
theorem sm_r {a b : Int} (h : -(2 ^ 64) < b) (h2 : b < 2 ^ 64) : Sm a b := .inr ⟨h, h2⟩
theorem sm_l {a b : Int} (h : -(2 ^ 64) < a) (h2 : a < 2 ^ 64) : Sm a b := .inl ⟨h, h2⟩
theorem ite_i {p : Prop} [Decidable p] {A B : Prop} (h1 : p → A) (h2 : ¬ p → B) : if p then A else B := by
  by_cases h : p
  · rw [if_pos h]; exact h1 h
  · rw [if_neg h]; exact h2 h
theorem back_f {ms : List Bool} {os : List Opd} {o : Opd} {ds : List D} {e : Env} : back (false :: ms) (o :: os) ds e = back ms os ds.tail e := by
  have nil : ∀ {ms : List Bool} {os : List Opd} {e : Env}, back ms os [] e = e := fun {ms os e} => by
    cases ms with
    | nil => cases os <;> rfl
    | cons m ms => cases os with
      | nil => cases m <;> rfl
      | cons o os => cases m <;> cases o <;> rfl
  cases ds with
  | nil => rw [nil, List.tail_nil, nil]
  | cons d ds => cases o <;> rfl
theorem back_t {ms : List Bool} {os : List Opd} {i : Nat} {d : D} {ds : List D} {e : Env} : back (true :: ms) (.s i :: os) (d :: ds) e = back ms os ds (back1 i d e) := rfl
theorem back_0 {os : List Opd} {ds : List D} {e : Env} : back [] os ds e = e := by cases os <;> rfl
theorem ex_iteO {α : Type} {p : Prop} [Decidable p] {o : Option α} {P : α → Prop} : (∃ c, (if p then o else none) = some c ∧ P c) = (p ∧ ∃ c, o = some c ∧ P c) := by
  by_cases h : p
  · simp [h]
  · simp [h]
section
variable {Φ : Ora} {e : Env}
theorem Y_lc {tg : List Nat} {it c elt : Ex} {P : Opd → Env → Prop} : Y (ev Φ (.lc tg it c elt) e) P = Y (evI Φ it e) fun ds e1 => ds.length ≤ sizeLine ∧ Y (lcL tg (evC Φ c) (M.bind (ev Φ elt) cns) ds e1) fun xs e2 => P (.n (.lst xs)) (wipeS e2 tg) := by
  simp only [ev, Y_bind]
  congr
  funext ds e1
  by_cases h : ds.length ≤ sizeLine
  · rw [if_pos h]
    simp only [h, true_and]
    cases lcL tg (evC Φ c) (M.bind (ev Φ elt) cns) ds e1 <;> rfl
  · rw [if_neg h]
    simp [h, Y]
theorem lc_ok {tg : List Nat} {c : M Bool} {elt : M D} {P : List D → Env → Prop} : ∀ {ds : List D} {e : Env} {acc : List D} (I : Nat → List D → Env → Prop), I 0 acc e →
    (∀ i d e acc, ds[i]? = some d → I i acc e → ∃ e1, asgT tg d (wipeS e tg) = some e1 ∧ Y (c e1) fun k e2 => if k = true then Y (elt e2) fun x e3 => I (i + 1) (acc ++ [x]) e3 else I (i + 1) acc e2) →
    (∀ acc e, I ds.length acc e → P acc e) → Y (lcL tg c elt ds e) fun xs e' => P (acc ++ xs) e'
  | [], e, acc, I, h0, hs, hd => by
    show P (acc ++ []) e
    rw [List.append_nil]
    exact hd acc e h0
  | d :: ds, e, acc, I, h0, hs, hd => by
    obtain ⟨e1, h1, h2⟩ := hs 0 d e acc rfl h0
    show Y (match asgT tg d (wipeS e tg) with
      | none => .bad
      | some e1 => match c e1 with
        | .ok true e2 => match elt e2 with
          | .ok x e3 => match lcL tg c elt ds e3 with
            | .ok xs e4 => .ok (x :: xs) e4
            | r => .bad
          | _ => .bad
        | .ok false e2 => lcL tg c elt ds e2
        | _ => .bad) _
    rw [h1]
    show Y (match c e1 with
        | .ok true e2 => match elt e2 with
          | .ok x e3 => match lcL tg c elt ds e3 with
            | .ok xs e4 => .ok (x :: xs) e4
            | r => .bad
          | _ => .bad
        | .ok false e2 => lcL tg c elt ds e2
        | _ => .bad) _
    cases q : c e1 with
    | er _ _ => rw [q] at h2; exact (show False from h2).elim
    | bad => rw [q] at h2; exact (show False from h2).elim
    | ok k e2 =>
      rw [q] at h2
      have h2 : if k = true then Y (elt e2) fun x e3 => I (0 + 1) (acc ++ [x]) e3 else I (0 + 1) acc e2 := h2
      cases k with
      | false => exact lc_ok (fun i => I (i + 1)) h2 (fun i d e a q k => hs (i + 1) d e a q k) hd
      | true =>
        rw [if_pos rfl] at h2
        show Y (match elt e2 with
          | .ok x e3 => match lcL tg c elt ds e3 with
            | .ok xs e4 => .ok (x :: xs) e4
            | r => .bad
          | _ => .bad) _
        cases q2 : elt e2 with
        | er _ _ => rw [q2] at h2; exact (show False from h2).elim
        | bad => rw [q2] at h2; exact (show False from h2).elim
        | ok x e3 =>
          rw [q2] at h2
          have ih := lc_ok (tg := tg) (c := c) (elt := elt) (ds := ds) (e := e3) (acc := acc ++ [x]) (P := P) (fun i => I (i + 1)) h2 (fun i d e a q k => hs (i + 1) d e a q k) hd
          show Y (match lcL tg c elt ds e3 with
            | .ok xs e4 => .ok (x :: xs) e4
            | r => .bad) _
          cases q3 : lcL tg c elt ds e3 with
          | er _ _ => rw [q3] at ih; exact (show False from ih).elim
          | bad => rw [q3] at ih; exact (show False from ih).elim
          | ok xs e4 =>
            rw [q3] at ih
            have ih : P ((acc ++ [x]) ++ xs) e4 := ih
            rw [List.append_assoc] at ih
            exact ih
end
end PL
namespace K00
open PL L2 PySem PySem.Spec PyProof.Rows
def tS (i : Nat) : Stmt := PySem.Challenge.pw_keepsapart_k00_place_exactly.main.body.getD i (.Pass ⟨0, 0, 0, 0⟩)
def b_is_place : PL.St := (.seq (.ret (.and (.chain .le .le (.int (1)) (.blt .len (.cons (.var 0) .nil)) (.int (6))) (.cmp .eq (.mth .strip (.var 0) (.cons (.gl ("LETTERS" : Str)) .nil)) (.str ("" : Str))))) .skip)
def e_is_place : PRow := ⟨"is_place", [(1, [], [false], [.pos 0]), (0, ["text"], [false], [.kw 0])], ⟨1, 1, b_is_place⟩⟩
def b_law_mix : PL.St := (.seq (.set 2 (.bin .mod (.blt .int (.cons (.bin .add (.bin .add (.bin .mul (.var 0) (.int (48271))) (.bin .mul (.var 1) (.int (69621)))) (.int (11))) .nil)) (.int (2147483647)))) (.seq (.set 3 (.bin .mod (.blt .int (.cons (.bin .add (.bin .add (.bin .mul (.var 2) (.var 2)) (.bin .mul (.var 2) (.int (40692)))) (.var 1)) .nil)) (.int (2147483399)))) (.seq (.set 4 (.bin .mod (.blt .int (.cons (.bin .add (.bin .add (.bin .mul (.var 3) (.var 3)) (.bin .mul (.var 3) (.int (16807)))) (.var 2)) .nil)) (.int (2147483629)))) (.seq (.ret (.bin .add (.bin .mul (.var 4) (.int (2147483399))) (.var 3))) .skip))))
def e_law_mix : PRow := ⟨"_law_mix", [(2, [], [false, false], [.pos 0, .pos 1])], ⟨2, 5, b_law_mix⟩⟩
def b_law_store : PL.St := (.seq (.set 1 (.lst .nil)) (.seq (.set 2 (.int (5))) (.seq (.fr [3] (.seq (.sli (.var 0) .no (.so (.int (63))))) (.seq (.app 1 (.blt .int (.cons (.var 3) .nil))) (.seq (.set 2 (.bin .mod (.blt .int (.cons (.bin .add (.bin .add (.bin .mul (.var 2) (.int (65599))) (.bin .mod (.blt .int (.cons (.var 3) .nil)) (.int (2147483629)))) (.int (1))) .nil)) (.int (2147483647)))) .skip))) (.seq (.ret (.lst (.cons (.var 1) (.cons (.int (0)) (.cons (.int (0)) (.cons (.int (0)) (.cons (.int (0)) (.cons (.var 2) .nil)))))))) .skip))))
def e_law_store : PRow := ⟨"_law_store", [(1, [], [false], [.pos 0])], ⟨1, 4, b_law_store⟩⟩
def b_law_take : PL.St := (.seq (.ifs (.so (.cmp .le (.var 1) (.int (1)))) (.seq (.ret (.int (0))) .skip) .skip) (.seq (.sset 0 (.int (4)) (.bin .add (.sub (.var 0) (.int (4))) (.int (1)))) (.seq (.set 2 (.blt .int (.cons (.sub (.var 0) (.int (2))) .nil))) (.seq (.ifs (.so (.cmp .gt (.var 2) (.int (0)))) (.seq (.sset 0 (.int (2)) (.bin .fdiv (.var 2) (.var 1))) (.seq (.ret (.bin .mod (.var 2) (.var 1))) .skip)) .skip) (.seq (.ifs (.so (.cmp .ge (.sub (.var 0) (.int (1))) (.blt .len (.cons (.sub (.var 0) (.int (0))) .nil)))) (.seq (.ret (.bin .mod (.blt .int (.cons (.call ("_law_mix" : Str) [false, false] [.pos 0, .pos 1] (.cons (.sub (.var 0) (.int (5))) (.cons (.sub (.var 0) (.int (4))) .nil)) .nil) .nil)) (.var 1))) .skip) .skip) (.seq (.set 3 (.blt .int (.cons (.sub (.sub (.var 0) (.int (0))) (.sub (.var 0) (.int (1)))) .nil))) (.seq (.ifs (.so (.cmp .ge (.var 3) (.bin .pow (.int (10)) (.int (18))))) (.seq (.sset 0 (.int (1)) (.bin .add (.sub (.var 0) (.int (1))) (.int (1)))) (.seq (.sset 0 (.int (2)) (.bin .fdiv (.var 3) (.var 1))) (.seq (.ret (.bin .mod (.var 3) (.var 1))) .skip))) .skip) (.seq (.sset 0 (.int (3)) (.bin .add (.sub (.var 0) (.int (3))) (.int (1)))) (.seq (.ifs (.so (.cmp .ge (.sub (.var 0) (.int (3))) (.int (4)))) (.seq (.sset 0 (.int (1)) (.bin .add (.sub (.var 0) (.int (1))) (.int (1)))) (.seq (.sset 0 (.int (3)) (.int (0))) .skip)) .skip) (.seq (.ret (.bin .mod (.blt .int (.cons (.call ("_law_mix" : Str) [false, false] [.pos 0, .pos 1] (.cons (.var 3) (.cons (.sub (.var 0) (.int (4))) .nil)) .nil) .nil)) (.var 1))) .skip))))))))))
def e_law_take : PRow := ⟨"_law_take", [(2, [], [true, false], [.pos 0, .pos 1])], ⟨2, 4, b_law_take⟩⟩
def b_law_pick : PL.St := (.seq (.ret (.sub (.var 1) (.call ("_law_take" : Str) [true, false] [.pos 0, .pos 1] (.cons (.var 0) (.cons (.blt .len (.cons (.var 1) .nil)) .nil)) .nil))) .skip)
def e_law_pick : PRow := ⟨"_law_pick", [(2, [], [true, false], [.pos 0, .pos 1])], ⟨2, 2, b_law_pick⟩⟩
def b_law_many : PL.St := (.seq (.set 3 (.call ("_law_take" : Str) [true, false] [.pos 0, .pos 1] (.cons (.var 0) (.cons (.int (6)) .nil)) .nil)) (.seq (.ifs (.or (.so (.cmp .eq (.var 3) (.int (0)))) (.so (.cmp .le (.var 2) (.var 1)))) (.seq (.ret (.var 1)) .skip) .skip) (.seq (.ifs (.so (.cmp .eq (.var 3) (.int (1)))) (.seq (.ret (.var 2)) .skip) .skip) (.seq (.ifs (.so (.cmp .eq (.var 3) (.int (2)))) (.seq (.ret (.bin .add (.var 1) (.int (1)))) .skip) .skip) (.seq (.ret (.bin .add (.var 1) (.call ("_law_take" : Str) [true, false] [.pos 0, .pos 1] (.cons (.var 0) (.cons (.bin .add (.bin .sub (.var 2) (.var 1)) (.int (1))) .nil)) .nil))) .skip)))))
def e_law_many : PRow := ⟨"_law_many", [(3, [], [true, false, false], [.pos 0, .pos 1, .pos 2])], ⟨3, 4, b_law_many⟩⟩
def b_law_same : PL.St := (.seq (.ifs (.so (.is false .non (.var 1))) (.seq (.ret (.is false .non (.var 0))) .skip) .skip) (.seq (.ifs (.so (.is false .tru (.var 1))) (.seq (.ret (.is false .tru (.var 0))) .skip) .skip) (.seq (.ifs (.so (.is false .fls (.var 1))) (.seq (.ret (.is false .fls (.var 0))) .skip) .skip) (.seq (.ifs (.so (.isi .int (.var 1))) (.seq (.ret (.and (.isi .int (.var 0)) (.and (.not (.isi .bool (.var 0))) (.cmp .eq (.var 0) (.var 1))))) .skip) .skip) (.seq (.ifs (.so (.isi .str (.var 1))) (.seq (.ret (.and (.isi .str (.var 0)) (.cmp .eq (.var 0) (.var 1)))) .skip) .skip) (.seq (.ifs (.so (.isi .list (.var 1))) (.seq (.ifs (.not (.so (.isi .list (.var 0)))) (.seq (.ret (.bl false)) .skip) .skip) .skip) (.seq (.ifs (.not (.so (.isi .tuple (.var 0)))) (.seq (.ret (.bl false)) .skip) .skip) .skip)) (.seq (.ifs (.so (.cmp .ne (.blt .len (.cons (.var 0) .nil)) (.blt .len (.cons (.var 1) .nil)))) (.seq (.ret (.bl false)) .skip) .skip) (.seq (.fr [2] (.rng (.int (0)) (.blt .len (.cons (.var 1) .nil))) (.seq (.ifs (.not (.so (.call ("_law_same" : Str) [false, false] [.pos 0, .pos 1] (.cons (.sub (.var 0) (.var 2)) (.cons (.sub (.var 1) (.var 2)) .nil)) .nil))) (.seq (.ret (.bl false)) .skip) .skip) .skip)) (.seq (.ret (.bl true)) .skip)))))))))
def e_law_same : PRow := ⟨"_law_same", [(2, [], [false, false], [.pos 0, .pos 1])], ⟨2, 3, b_law_same⟩⟩
def b_law_letters : PL.St := (.seq (.ret (.str ("abcdefghijklmnopqrstuvwxyz" : Str))) .skip)
def e_law_letters : PRow := ⟨"_law_letters", [(0, [], [], [])], ⟨0, 0, b_law_letters⟩⟩
def b_law_signs : PL.St := (.seq (.set 0 (.str (" !\"#$&'()*+,-./0123456789:;<=>?@ABCDEFGHIJKLMNOPQRSTUVWXYZ[\\]^_`" : Str))) (.seq (.ret (.bin .add (.var 0) (.str ("{|}~" : Str)))) .skip))
def e_law_signs : PRow := ⟨"_law_signs", [(0, [], [], [])], ⟨0, 1, b_law_signs⟩⟩
def b_law_name : PL.St := (.seq (.set 1 (.str ("" : Str))) (.seq (.fr [2] (.rng (.int (0)) (.call ("_law_many" : Str) [true, false, false] [.pos 0, .pos 1, .pos 2] (.cons (.var 0) (.cons (.int (1)) (.cons (.int (6)) .nil))) .nil)) (.seq (.set 1 (.bin .add (.var 1) (.call ("_law_pick" : Str) [true, false] [.pos 0, .pos 1] (.cons (.var 0) (.cons (.call ("_law_letters" : Str) [] [] .nil .nil) .nil)) .nil))) .skip)) (.seq (.ret (.var 1)) .skip)))
def e_law_name : PRow := ⟨"_law_name", [(1, [], [true], [.pos 0])], ⟨1, 3, b_law_name⟩⟩
def b_law_bad_place : PL.St := (.seq (.set 1 (.call ("_law_name" : Str) [true] [.pos 0] (.cons (.var 0) .nil) .nil)) (.seq (.set 2 (.call ("_law_take" : Str) [true, false] [.pos 0, .pos 1] (.cons (.var 0) (.cons (.int (6)) .nil)) .nil)) (.seq (.set 3 (.call ("_law_take" : Str) [true, false] [.pos 0, .pos 1] (.cons (.var 0) (.cons (.blt .len (.cons (.var 1) .nil)) .nil)) .nil)) (.seq (.set 4 (.call ("_law_pick" : Str) [true, false] [.pos 0, .pos 1] (.cons (.var 0) (.cons (.call ("_law_signs" : Str) [] [] .nil .nil) .nil)) .nil)) (.seq (.ifs (.so (.cmp .eq (.var 2) (.int (0)))) (.seq (.ret (.str ("" : Str))) .skip) .skip) (.seq (.ifs (.so (.cmp .eq (.var 2) (.int (1)))) (.seq (.ret (.sli (.bin .mul (.var 1) (.int (12))) .no (.so (.bin .add (.int (7)) (.call ("_law_take" : Str) [true, false] [.pos 0, .pos 1] (.cons (.var 0) (.cons (.int (6)) .nil)) .nil))))) .skip) .skip) (.seq (.ifs (.so (.cmp .eq (.var 2) (.int (2)))) (.seq (.ret (.bin .add (.bin .add (.sli (.var 1) .no (.so (.var 3))) (.mth .upper (.sub (.var 1) (.var 3)) .nil)) (.sli (.var 1) (.so (.bin .add (.var 3) (.int (1)))) .no))) .skip) .skip) (.seq (.ifs (.so (.cmp .eq (.var 2) (.int (3)))) (.seq (.ret (.sub (.lst (.cons (.bin .add (.str (" " : Str)) (.var 1)) (.cons (.bin .add (.var 1) (.str (" " : Str))) .nil))) (.call ("_law_take" : Str) [true, false] [.pos 0, .pos 1] (.cons (.var 0) (.cons (.int (2)) .nil)) .nil))) .skip) .skip) (.seq (.ifs (.so (.cmp .eq (.var 2) (.int (4)))) (.seq (.ret (.bin .add (.bin .add (.sli (.var 1) .no (.so (.var 3))) (.var 4)) (.sli (.var 1) (.so (.bin .add (.var 3) (.int (1)))) .no))) .skip) .skip) (.seq (.ret (.bin .add (.bin .add (.sli (.var 1) .no (.so (.var 3))) (.var 4)) (.sli (.var 1) (.so (.var 3)) .no))) .skip))))))))))
def e_law_bad_place : PRow := ⟨"_law_bad_place", [(1, [], [true], [.pos 0])], ⟨1, 5, b_law_bad_place⟩⟩
def b_law_raw_place : PL.St := (.seq (.set 1 (.call ("_law_take" : Str) [true, false] [.pos 0, .pos 1] (.cons (.var 0) (.cons (.int (4)) .nil)) .nil)) (.seq (.ifs (.so (.cmp .lt (.var 1) (.int (2)))) (.seq (.ret (.call ("_law_name" : Str) [true] [.pos 0] (.cons (.var 0) .nil) .nil)) .skip) .skip) (.seq (.ifs (.so (.cmp .eq (.var 1) (.int (2)))) (.seq (.ret (.call ("_law_bad_place" : Str) [true] [.pos 0] (.cons (.var 0) .nil) .nil)) .skip) .skip) (.seq (.set 2 (.bin .add (.call ("_law_letters" : Str) [] [] .nil .nil) (.call ("_law_signs" : Str) [] [] .nil .nil))) (.seq (.set 3 (.str ("" : Str))) (.seq (.fr [4] (.rng (.int (0)) (.call ("_law_many" : Str) [true, false, false] [.pos 0, .pos 1, .pos 2] (.cons (.var 0) (.cons (.int (0)) (.cons (.int (12)) .nil))) .nil)) (.seq (.set 3 (.bin .add (.var 3) (.call ("_law_pick" : Str) [true, false] [.pos 0, .pos 1] (.cons (.var 0) (.cons (.var 2) .nil)) .nil))) .skip)) (.seq (.ret (.var 3)) .skip)))))))
def e_law_raw_place : PRow := ⟨"_law_raw_place", [(1, [], [true], [.pos 0])], ⟨1, 5, b_law_raw_place⟩⟩
def b_law_counted : PL.St := (.seq (.set 1 (.int (0))) (.seq (.fr [2] (.seq (.call ("_law_letters" : Str) [] [] .nil .nil)) (.seq (.set 1 (.bin .add (.var 1) (.mth .count (.var 0) (.cons (.var 2) .nil)))) .skip)) (.seq (.ret (.and (.chain .le .le (.int (1)) (.blt .len (.cons (.var 0) .nil)) (.int (6))) (.cmp .eq (.var 1) (.blt .len (.cons (.var 0) .nil))))) .skip)))
def e_law_counted : PRow := ⟨"_law_counted", [(1, [], [false], [.pos 0])], ⟨1, 3, b_law_counted⟩⟩
def b_law_words : PL.St := (.seq (.set 1 (.call ("_law_name" : Str) [true] [.pos 0] (.cons (.var 0) .nil) .nil)) (.seq (.set 2 (.call ("_law_name" : Str) [true] [.pos 0] (.cons (.var 0) .nil) .nil)) (.seq (.set 3 (.call ("_law_take" : Str) [true, false] [.pos 0, .pos 1] (.cons (.var 0) (.cons (.bin .add (.blt .len (.cons (.var 2) .nil)) (.int (1))) .nil)) .nil)) (.seq (.set 4 (.lc [7] (.rng (.int (0)) (.int (13))) .no (.sli (.bin .mul (.var 1) (.int (13))) .no (.so (.var 7))))) (.seq (.fr [5] (.seq (.bin .add (.call ("_law_letters" : Str) [] [] .nil .nil) (.call ("_law_signs" : Str) [] [] .nil .nil))) (.seq (.app 4 (.bin .add (.bin .add (.sli (.var 2) .no (.so (.var 3))) (.var 5)) (.sli (.var 2) (.so (.var 3)) .no))) (.seq (.app 4 (.bin .add (.bin .add (.sli (.var 2) .no (.so (.var 3))) (.var 5)) (.sli (.var 2) (.so (.bin .add (.var 3) (.int (1)))) .no))) .skip))) (.seq (.fr [6] (.rng (.int (0)) (.call ("_law_many" : Str) [true, false, false] [.pos 0, .pos 1, .pos 2] (.cons (.var 0) (.cons (.int (0)) (.cons (.int (12)) .nil))) .nil)) (.seq (.app 4 (.call ("_law_raw_place" : Str) [true] [.pos 0] (.cons (.var 0) .nil) .nil)) .skip)) (.seq (.ret (.var 4)) .skip)))))))
def e_law_words : PRow := ⟨"_law_words", [(1, [], [true], [.pos 0])], ⟨1, 8, b_law_words⟩⟩
def b_law : PL.St := (.seq (.set 1 (.call ("_law_store" : Str) [false] [.pos 0] (.cons (.var 0) .nil) .nil)) (.seq (.set 2 (.call ("_law_words" : Str) [true] [.pos 0] (.cons (.var 1) .nil) .nil)) (.seq (.fr [3] (.seq (.var 2)) (.seq (.ifs (.not (.so (.call ("_law_same" : Str) [false, false] [.pos 0, .pos 1] (.cons (.call ("is_place" : Str) [false] [.pos 0] (.cons (.var 3) .nil) .nil) (.cons (.call ("_law_counted" : Str) [false] [.pos 0] (.cons (.var 3) .nil) .nil) .nil)) .nil))) (.seq (.ret (.bl false)) .skip) .skip) .skip)) (.seq (.fr [3] (.seq (.rev (.var 2))) (.seq (.ifs (.not (.so (.call ("_law_same" : Str) [false, false] [.pos 0, .pos 1] (.cons (.call ("is_place" : Str) [false] [.kw 0] .nil (.cons (.var 3) .nil)) (.cons (.call ("_law_counted" : Str) [false] [.pos 0] (.cons (.var 3) .nil) .nil) .nil)) .nil))) (.seq (.ret (.bl false)) .skip) .skip) .skip)) (.seq (.ret (.bl true)) .skip)))))
def e_law : PRow := ⟨"law", [], ⟨1, 4, b_law⟩⟩
def es : List PRow := [e_is_place, e_law_mix, e_law_store, e_law_take, e_law_pick, e_law_many, e_law_same, e_law_letters, e_law_signs, e_law_name, e_law_bad_place, e_law_raw_place, e_law_counted, e_law_words, e_law]
def fs : List Str := ["bool", "int", "isinstance", "len", "list", "range", "str", "tuple"]
def cs : List (Str × D) := [("LETTERS", .str "abcdefghijklmnopqrstuvwxyz")]
abbrev tab : Tab := mkTab es fs cs
theorem c_is_place : cSs (cS 60 (tab.sc ["text"] (defScope (tS 2)))) (defBody (tS 2)) = some b_is_place := by rfl
theorem s_is_place : FnScope ["text"] ["text"] (defScope (tS 2)) := ⟨rfl, rfl, rfl, by decide +kernel, rfl, by decide +kernel, by decide +kernel⟩
theorem c_law_mix : cSs (cS 60 (tab.sc ["number", "turn", "one", "two", "three"] (defScope (tS 4)))) (defBody (tS 4)) = some b_law_mix := by rfl
theorem s_law_mix : FnScope ["number", "turn", "one", "two", "three"] ["number", "turn"] (defScope (tS 4)) := ⟨rfl, rfl, rfl, by decide +kernel, rfl, by decide +kernel, by decide +kernel⟩
theorem c_law_store : cSs (cS 60 (tab.sc ["script", "cells", "total", "cell"] (defScope (tS 5)))) (defBody (tS 5)) = some b_law_store := by rfl
theorem s_law_store : FnScope ["script", "cells", "total", "cell"] ["script"] (defScope (tS 5)) := ⟨rfl, rfl, rfl, by decide +kernel, rfl, by decide +kernel, by decide +kernel⟩
theorem c_law_take : cSs (cS 60 (tab.sc ["store", "many", "left", "cell"] (defScope (tS 6)))) (defBody (tS 6)) = some b_law_take := by rfl
theorem s_law_take : FnScope ["store", "many", "left", "cell"] ["store", "many"] (defScope (tS 6)) := ⟨rfl, rfl, rfl, by decide +kernel, rfl, by decide +kernel, by decide +kernel⟩
theorem c_law_pick : cSs (cS 60 (tab.sc ["store", "row"] (defScope (tS 7)))) (defBody (tS 7)) = some b_law_pick := by rfl
theorem s_law_pick : FnScope ["store", "row"] ["store", "row"] (defScope (tS 7)) := ⟨rfl, rfl, rfl, by decide +kernel, rfl, by decide +kernel, by decide +kernel⟩
theorem c_law_many : cSs (cS 60 (tab.sc ["store", "least", "bound", "kind"] (defScope (tS 8)))) (defBody (tS 8)) = some b_law_many := by rfl
theorem s_law_many : FnScope ["store", "least", "bound", "kind"] ["store", "least", "bound"] (defScope (tS 8)) := ⟨rfl, rfl, rfl, by decide +kernel, rfl, by decide +kernel, by decide +kernel⟩
theorem c_law_same : cSs (cS 60 (tab.sc ["actual", "due", "k"] (defScope (tS 9)))) (defBody (tS 9)) = some b_law_same := by rfl
theorem s_law_same : FnScope ["actual", "due", "k"] ["actual", "due"] (defScope (tS 9)) := ⟨rfl, rfl, rfl, by decide +kernel, rfl, by decide +kernel, by decide +kernel⟩
theorem c_law_letters : cSs (cS 60 (tab.sc [] (defScope (tS 10)))) (defBody (tS 10)) = some b_law_letters := by rfl
theorem s_law_letters : FnScope [] [] (defScope (tS 10)) := ⟨rfl, rfl, rfl, by decide +kernel, rfl, by decide +kernel, by decide +kernel⟩
theorem c_law_signs : cSs (cS 60 (tab.sc ["signs"] (defScope (tS 11)))) (defBody (tS 11)) = some b_law_signs := by rfl
theorem s_law_signs : FnScope ["signs"] [] (defScope (tS 11)) := ⟨rfl, rfl, rfl, by decide +kernel, rfl, by decide +kernel, by decide +kernel⟩
theorem c_law_name : cSs (cS 60 (tab.sc ["store", "name", "k"] (defScope (tS 12)))) (defBody (tS 12)) = some b_law_name := by rfl
theorem s_law_name : FnScope ["store", "name", "k"] ["store"] (defScope (tS 12)) := ⟨rfl, rfl, rfl, by decide +kernel, rfl, by decide +kernel, by decide +kernel⟩
theorem c_law_bad_place : cSs (cS 60 (tab.sc ["store", "name", "kind", "at", "sign"] (defScope (tS 13)))) (defBody (tS 13)) = some b_law_bad_place := by rfl
theorem s_law_bad_place : FnScope ["store", "name", "kind", "at", "sign"] ["store"] (defScope (tS 13)) := ⟨rfl, rfl, rfl, by decide +kernel, rfl, by decide +kernel, by decide +kernel⟩
theorem c_law_raw_place : cSs (cS 60 (tab.sc ["store", "kind", "signs", "text", "k"] (defScope (tS 14)))) (defBody (tS 14)) = some b_law_raw_place := by rfl
theorem s_law_raw_place : FnScope ["store", "kind", "signs", "text", "k"] ["store"] (defScope (tS 14)) := ⟨rfl, rfl, rfl, by decide +kernel, rfl, by decide +kernel, by decide +kernel⟩
theorem c_law_counted : cSs (cS 60 (tab.sc ["word", "many", "letter"] (defScope (tS 15)))) (defBody (tS 15)) = some b_law_counted := by rfl
theorem s_law_counted : FnScope ["word", "many", "letter"] ["word"] (defScope (tS 15)) := ⟨rfl, rfl, rfl, by decide +kernel, rfl, by decide +kernel, by decide +kernel⟩
theorem c_law_words : cSs (cS 60 (tab.sc ["store", "stem", "base", "at", "words", "sign", "k", "size"] (defScope (tS 16)))) (defBody (tS 16)) = some b_law_words := by rfl
theorem s_law_words : FnScope ["store", "stem", "base", "at", "words", "sign", "k", "size"] ["store"] (defScope (tS 16)) := ⟨rfl, rfl, rfl, by decide +kernel, rfl, by decide +kernel, by decide +kernel⟩
theorem c_law : cSs (cS 60 (tab.sc ["script", "store", "words", "word"] (defScope (tS 17)))) (defBody (tS 17)) = some b_law := by rfl
theorem s_law : FnScope ["script", "store", "words", "word"] ["script"] (defScope (tS 17)) := ⟨rfl, rfl, rfl, by decide +kernel, rfl, by decide +kernel, by decide +kernel⟩
section
variable {K : PySem.W.Frag} {mg : Str → Option Value}
theorem l_is_place {fa : Addr} {od an : Option Addr} {sl : Array (Option Value)} {oc kV dc pm cd ct : Value} (a : mg "is_place" = some (.ref fa)) (l : K.lookup fa = some ⟨oc, od, .func (PySem.W.fnOf "is_place" "is_place" (defArgs (tS 2)) (defBody (tS 2)) (defScope (tS 2)) .none kV dc pm an cd ct), sl⟩) (c : PySem.W.codeIn K cd "is_place" = true) (k : PySem.W.keepIn K (.ref fa) = true) : LiesE K mg tab e_is_place :=
  lies_mk (e := e_is_place) (st := tS 2) a l c k s_is_place c_is_place rfl rfl fun kV dc pm an cd ct => List.forall_mem_cons.mpr ⟨(fun s us ws X hu hw => match us, hu, ws, hw with | [u0], _, [], _ => ⟨[u0], .of_eq rfl, (.pos rfl .nil)⟩), List.forall_mem_cons.mpr ⟨(fun s us ws X hu hw => match us, hu, ws, hw with | [], _, [w0], _ => ⟨[w0], .of_eq rfl, (.kw rfl .nil)⟩), List.forall_mem_nil _⟩⟩
theorem l_law_mix {fa : Addr} {od an : Option Addr} {sl : Array (Option Value)} {oc kV dc pm cd ct : Value} (a : mg "_law_mix" = some (.ref fa)) (l : K.lookup fa = some ⟨oc, od, .func (PySem.W.fnOf "_law_mix" "_law_mix" (defArgs (tS 4)) (defBody (tS 4)) (defScope (tS 4)) .none kV dc pm an cd ct), sl⟩) (c : PySem.W.codeIn K cd "_law_mix" = true) (k : PySem.W.keepIn K (.ref fa) = true) : LiesE K mg tab e_law_mix :=
  lies_mk (e := e_law_mix) (st := tS 4) a l c k s_law_mix c_law_mix rfl rfl fun kV dc pm an cd ct => List.forall_mem_cons.mpr ⟨(fun s us ws X hu hw => match us, hu, ws, hw with | [u0, u1], _, [], _ => ⟨[u0, u1], .of_eq rfl, (.pos rfl (.pos rfl .nil))⟩), List.forall_mem_nil _⟩
theorem l_law_store {fa : Addr} {od an : Option Addr} {sl : Array (Option Value)} {oc kV dc pm cd ct : Value} (a : mg "_law_store" = some (.ref fa)) (l : K.lookup fa = some ⟨oc, od, .func (PySem.W.fnOf "_law_store" "_law_store" (defArgs (tS 5)) (defBody (tS 5)) (defScope (tS 5)) .none kV dc pm an cd ct), sl⟩) (c : PySem.W.codeIn K cd "_law_store" = true) (k : PySem.W.keepIn K (.ref fa) = true) : LiesE K mg tab e_law_store :=
  lies_mk (e := e_law_store) (st := tS 5) a l c k s_law_store c_law_store rfl rfl fun kV dc pm an cd ct => List.forall_mem_cons.mpr ⟨(fun s us ws X hu hw => match us, hu, ws, hw with | [u0], _, [], _ => ⟨[u0], .of_eq rfl, (.pos rfl .nil)⟩), List.forall_mem_nil _⟩
theorem l_law_take {fa : Addr} {od an : Option Addr} {sl : Array (Option Value)} {oc kV dc pm cd ct : Value} (a : mg "_law_take" = some (.ref fa)) (l : K.lookup fa = some ⟨oc, od, .func (PySem.W.fnOf "_law_take" "_law_take" (defArgs (tS 6)) (defBody (tS 6)) (defScope (tS 6)) .none kV dc pm an cd ct), sl⟩) (c : PySem.W.codeIn K cd "_law_take" = true) (k : PySem.W.keepIn K (.ref fa) = true) : LiesE K mg tab e_law_take :=
  lies_mk (e := e_law_take) (st := tS 6) a l c k s_law_take c_law_take rfl rfl fun kV dc pm an cd ct => List.forall_mem_cons.mpr ⟨(fun s us ws X hu hw => match us, hu, ws, hw with | [u0, u1], _, [], _ => ⟨[u0, u1], .of_eq rfl, (.pos rfl (.pos rfl .nil))⟩), List.forall_mem_nil _⟩
theorem l_law_pick {fa : Addr} {od an : Option Addr} {sl : Array (Option Value)} {oc kV dc pm cd ct : Value} (a : mg "_law_pick" = some (.ref fa)) (l : K.lookup fa = some ⟨oc, od, .func (PySem.W.fnOf "_law_pick" "_law_pick" (defArgs (tS 7)) (defBody (tS 7)) (defScope (tS 7)) .none kV dc pm an cd ct), sl⟩) (c : PySem.W.codeIn K cd "_law_pick" = true) (k : PySem.W.keepIn K (.ref fa) = true) : LiesE K mg tab e_law_pick :=
  lies_mk (e := e_law_pick) (st := tS 7) a l c k s_law_pick c_law_pick rfl rfl fun kV dc pm an cd ct => List.forall_mem_cons.mpr ⟨(fun s us ws X hu hw => match us, hu, ws, hw with | [u0, u1], _, [], _ => ⟨[u0, u1], .of_eq rfl, (.pos rfl (.pos rfl .nil))⟩), List.forall_mem_nil _⟩
theorem l_law_many {fa : Addr} {od an : Option Addr} {sl : Array (Option Value)} {oc kV dc pm cd ct : Value} (a : mg "_law_many" = some (.ref fa)) (l : K.lookup fa = some ⟨oc, od, .func (PySem.W.fnOf "_law_many" "_law_many" (defArgs (tS 8)) (defBody (tS 8)) (defScope (tS 8)) .none kV dc pm an cd ct), sl⟩) (c : PySem.W.codeIn K cd "_law_many" = true) (k : PySem.W.keepIn K (.ref fa) = true) : LiesE K mg tab e_law_many :=
  lies_mk (e := e_law_many) (st := tS 8) a l c k s_law_many c_law_many rfl rfl fun kV dc pm an cd ct => List.forall_mem_cons.mpr ⟨(fun s us ws X hu hw => match us, hu, ws, hw with | [u0, u1, u2], _, [], _ => ⟨[u0, u1, u2], .of_eq rfl, (.pos rfl (.pos rfl (.pos rfl .nil)))⟩), List.forall_mem_nil _⟩
theorem l_law_same {fa : Addr} {od an : Option Addr} {sl : Array (Option Value)} {oc kV dc pm cd ct : Value} (a : mg "_law_same" = some (.ref fa)) (l : K.lookup fa = some ⟨oc, od, .func (PySem.W.fnOf "_law_same" "_law_same" (defArgs (tS 9)) (defBody (tS 9)) (defScope (tS 9)) .none kV dc pm an cd ct), sl⟩) (c : PySem.W.codeIn K cd "_law_same" = true) (k : PySem.W.keepIn K (.ref fa) = true) : LiesE K mg tab e_law_same :=
  lies_mk (e := e_law_same) (st := tS 9) a l c k s_law_same c_law_same rfl rfl fun kV dc pm an cd ct => List.forall_mem_cons.mpr ⟨(fun s us ws X hu hw => match us, hu, ws, hw with | [u0, u1], _, [], _ => ⟨[u0, u1], .of_eq rfl, (.pos rfl (.pos rfl .nil))⟩), List.forall_mem_nil _⟩
theorem l_law_letters {fa : Addr} {od an : Option Addr} {sl : Array (Option Value)} {oc kV dc pm cd ct : Value} (a : mg "_law_letters" = some (.ref fa)) (l : K.lookup fa = some ⟨oc, od, .func (PySem.W.fnOf "_law_letters" "_law_letters" (defArgs (tS 10)) (defBody (tS 10)) (defScope (tS 10)) .none kV dc pm an cd ct), sl⟩) (c : PySem.W.codeIn K cd "_law_letters" = true) (k : PySem.W.keepIn K (.ref fa) = true) : LiesE K mg tab e_law_letters :=
  lies_mk (e := e_law_letters) (st := tS 10) a l c k s_law_letters c_law_letters rfl rfl fun kV dc pm an cd ct => List.forall_mem_cons.mpr ⟨(fun s us ws X hu hw => match us, hu, ws, hw with | [], _, [], _ => ⟨[], .of_eq rfl, .nil⟩), List.forall_mem_nil _⟩
theorem l_law_signs {fa : Addr} {od an : Option Addr} {sl : Array (Option Value)} {oc kV dc pm cd ct : Value} (a : mg "_law_signs" = some (.ref fa)) (l : K.lookup fa = some ⟨oc, od, .func (PySem.W.fnOf "_law_signs" "_law_signs" (defArgs (tS 11)) (defBody (tS 11)) (defScope (tS 11)) .none kV dc pm an cd ct), sl⟩) (c : PySem.W.codeIn K cd "_law_signs" = true) (k : PySem.W.keepIn K (.ref fa) = true) : LiesE K mg tab e_law_signs :=
  lies_mk (e := e_law_signs) (st := tS 11) a l c k s_law_signs c_law_signs rfl rfl fun kV dc pm an cd ct => List.forall_mem_cons.mpr ⟨(fun s us ws X hu hw => match us, hu, ws, hw with | [], _, [], _ => ⟨[], .of_eq rfl, .nil⟩), List.forall_mem_nil _⟩
theorem l_law_name {fa : Addr} {od an : Option Addr} {sl : Array (Option Value)} {oc kV dc pm cd ct : Value} (a : mg "_law_name" = some (.ref fa)) (l : K.lookup fa = some ⟨oc, od, .func (PySem.W.fnOf "_law_name" "_law_name" (defArgs (tS 12)) (defBody (tS 12)) (defScope (tS 12)) .none kV dc pm an cd ct), sl⟩) (c : PySem.W.codeIn K cd "_law_name" = true) (k : PySem.W.keepIn K (.ref fa) = true) : LiesE K mg tab e_law_name :=
  lies_mk (e := e_law_name) (st := tS 12) a l c k s_law_name c_law_name rfl rfl fun kV dc pm an cd ct => List.forall_mem_cons.mpr ⟨(fun s us ws X hu hw => match us, hu, ws, hw with | [u0], _, [], _ => ⟨[u0], .of_eq rfl, (.pos rfl .nil)⟩), List.forall_mem_nil _⟩
theorem l_law_bad_place {fa : Addr} {od an : Option Addr} {sl : Array (Option Value)} {oc kV dc pm cd ct : Value} (a : mg "_law_bad_place" = some (.ref fa)) (l : K.lookup fa = some ⟨oc, od, .func (PySem.W.fnOf "_law_bad_place" "_law_bad_place" (defArgs (tS 13)) (defBody (tS 13)) (defScope (tS 13)) .none kV dc pm an cd ct), sl⟩) (c : PySem.W.codeIn K cd "_law_bad_place" = true) (k : PySem.W.keepIn K (.ref fa) = true) : LiesE K mg tab e_law_bad_place :=
  lies_mk (e := e_law_bad_place) (st := tS 13) a l c k s_law_bad_place c_law_bad_place rfl rfl fun kV dc pm an cd ct => List.forall_mem_cons.mpr ⟨(fun s us ws X hu hw => match us, hu, ws, hw with | [u0], _, [], _ => ⟨[u0], .of_eq rfl, (.pos rfl .nil)⟩), List.forall_mem_nil _⟩
theorem l_law_raw_place {fa : Addr} {od an : Option Addr} {sl : Array (Option Value)} {oc kV dc pm cd ct : Value} (a : mg "_law_raw_place" = some (.ref fa)) (l : K.lookup fa = some ⟨oc, od, .func (PySem.W.fnOf "_law_raw_place" "_law_raw_place" (defArgs (tS 14)) (defBody (tS 14)) (defScope (tS 14)) .none kV dc pm an cd ct), sl⟩) (c : PySem.W.codeIn K cd "_law_raw_place" = true) (k : PySem.W.keepIn K (.ref fa) = true) : LiesE K mg tab e_law_raw_place :=
  lies_mk (e := e_law_raw_place) (st := tS 14) a l c k s_law_raw_place c_law_raw_place rfl rfl fun kV dc pm an cd ct => List.forall_mem_cons.mpr ⟨(fun s us ws X hu hw => match us, hu, ws, hw with | [u0], _, [], _ => ⟨[u0], .of_eq rfl, (.pos rfl .nil)⟩), List.forall_mem_nil _⟩
theorem l_law_counted {fa : Addr} {od an : Option Addr} {sl : Array (Option Value)} {oc kV dc pm cd ct : Value} (a : mg "_law_counted" = some (.ref fa)) (l : K.lookup fa = some ⟨oc, od, .func (PySem.W.fnOf "_law_counted" "_law_counted" (defArgs (tS 15)) (defBody (tS 15)) (defScope (tS 15)) .none kV dc pm an cd ct), sl⟩) (c : PySem.W.codeIn K cd "_law_counted" = true) (k : PySem.W.keepIn K (.ref fa) = true) : LiesE K mg tab e_law_counted :=
  lies_mk (e := e_law_counted) (st := tS 15) a l c k s_law_counted c_law_counted rfl rfl fun kV dc pm an cd ct => List.forall_mem_cons.mpr ⟨(fun s us ws X hu hw => match us, hu, ws, hw with | [u0], _, [], _ => ⟨[u0], .of_eq rfl, (.pos rfl .nil)⟩), List.forall_mem_nil _⟩
theorem l_law_words {fa : Addr} {od an : Option Addr} {sl : Array (Option Value)} {oc kV dc pm cd ct : Value} (a : mg "_law_words" = some (.ref fa)) (l : K.lookup fa = some ⟨oc, od, .func (PySem.W.fnOf "_law_words" "_law_words" (defArgs (tS 16)) (defBody (tS 16)) (defScope (tS 16)) .none kV dc pm an cd ct), sl⟩) (c : PySem.W.codeIn K cd "_law_words" = true) (k : PySem.W.keepIn K (.ref fa) = true) : LiesE K mg tab e_law_words :=
  lies_mk (e := e_law_words) (st := tS 16) a l c k s_law_words c_law_words rfl rfl fun kV dc pm an cd ct => List.forall_mem_cons.mpr ⟨(fun s us ws X hu hw => match us, hu, ws, hw with | [u0], _, [], _ => ⟨[u0], .of_eq rfl, (.pos rfl .nil)⟩), List.forall_mem_nil _⟩
theorem l_law {fa : Addr} {od an : Option Addr} {sl : Array (Option Value)} {oc kV dc pm cd ct : Value} (a : mg "law" = some (.ref fa)) (l : K.lookup fa = some ⟨oc, od, .func (PySem.W.fnOf "law" "law" (defArgs (tS 17)) (defBody (tS 17)) (defScope (tS 17)) .none kV dc pm an cd ct), sl⟩) (c : PySem.W.codeIn K cd "law" = true) (k : PySem.W.keepIn K (.ref fa) = true) : LiesE K mg tab e_law :=
  lies_mk (e := e_law) (st := tS 17) a l c k s_law c_law rfl rfl fun kV dc pm an cd ct => List.forall_mem_nil _
end
end K00
namespace K00
open PL L2 PySem PySem.Spec PyProof.Rows
def LL : Str := "abcdefghijklmnopqrstuvwxyz"
theorem getD_at (x : Str) (k : Nat) (h : k < x.cps.toList.length) : x.cps.getD k 0 = x.cps.toList[k] := by
  have h' : k < x.cps.size := by simpa using h
  unfold Array.getD
  rw [dif_pos h']
  simp
theorem strip_all (x y : Str) : (Txt.stripChars x y = ("" : Str)) ↔ ∀ c ∈ x.cps.toList, y.cps.contains c = true := by
  obtain ⟨a0, a1, a2⟩ := lo_facts y.cps.contains x
  obtain ⟨b0, b1, b2, b3⟩ := hi_facts y.cps.contains x (stripLo y.cps.contains true x) a0
  have es : Txt.stripChars x y = Builtin.Str.strSub x (stripLo y.cps.contains true x) (stripHi y.cps.contains true x (stripLo y.cps.contains true x)) := by
    unfold Txt.stripChars
    rw [stripBy_eq]
  have el : (("" : Str)).length = 0 := rfl
  constructor
  · intro h c hc
    rw [es] at h
    have hl := congrArg Str.length h
    rw [size_strSub _ _ _ b1, el] at hl
    obtain ⟨k, hk, rfl⟩ := List.getElem_of_mem hc
    have hk' : k < x.length := by simpa [Str.length] using hk
    suffices z : y.cps.contains (x.cps.getD k 0) = true by rwa [getD_at x k hk] at z
    rcases Nat.lt_or_ge k (stripLo y.cps.contains true x) with z | z
    · exact a1 k z
    · exact b2 k (by omega) hk'
  · intro h
    have hlo : stripLo y.cps.contains true x = x.length := by
      rcases a2 with z | z
      · exact z
      · rcases Nat.lt_or_ge (stripLo y.cps.contains true x) x.length with q | q
        · have hq : stripLo y.cps.contains true x < x.cps.toList.length := by simpa [Str.length] using q
          rw [getD_at x _ hq, h _ (List.getElem_mem _)] at z
          cases z
        · omega
    have hl : (Txt.stripChars x y).length = 0 := by
      rw [es, size_strSub _ _ _ b1]
      omega
    have : (Txt.stripChars x y).cps = #[] := Array.eq_empty_of_size_eq_zero hl
    show Txt.stripChars x y = ⟨#[]⟩
    cases q : Txt.stripChars x y with
    | mk c => rw [q] at this; exact congrArg Str.mk this
def tot (L w : List Nat) : Int := (L.map fun c => cnt c w).sum
theorem one_in : ∀ (L : List Nat) (n : Nat), L.Nodup → (L.map fun c => if n = c then (1 : Int) else 0).sum = if n ∈ L then 1 else 0
  | [], n, _ => rfl
  | c :: L, n, h => by
    have ih := one_in L n (List.nodup_cons.mp h).2
    have hc := (List.nodup_cons.mp h).1
    rw [List.map_cons, List.sum_cons, ih]
    by_cases e : n = c
    · subst e
      simp [hc]
    · simp [e]
theorem tot_nil (L : List Nat) : tot L [] = 0 := by
  unfold tot
  induction L with
  | nil => rfl
  | cons c L ih => rw [List.map_cons, List.sum_cons, ih, cnt_nil]; rfl
theorem sum_add : ∀ (L : List Nat) (f g : Nat → Int), (L.map fun c => f c + g c).sum = (L.map f).sum + (L.map g).sum
  | [], _, _ => rfl
  | c :: L, f, g => by
    rw [List.map_cons, List.map_cons, List.map_cons, List.sum_cons, List.sum_cons, List.sum_cons, sum_add L f g]
    omega
theorem tot_cons (L : List Nat) (h : L.Nodup) (n : Nat) (r : List Nat) : tot L (n :: r) = (if n ∈ L then 1 else 0) + tot L r := by
  unfold tot
  rw [← one_in L n h, ← sum_add]
  congr
  funext c
  exact cnt_cons c n r
theorem tot_len (L : List Nat) (h : L.Nodup) : ∀ w : List Nat, tot L w ≤ w.length ∧ (tot L w = w.length ↔ ∀ c ∈ w, c ∈ L)
  | [] => by rw [tot_nil]; simp
  | n :: r => by
    obtain ⟨h1, h2⟩ := tot_len L h r
    rw [tot_cons L h, List.length_cons]
    by_cases e : n ∈ L
    · rw [if_pos e]
      refine ⟨by omega, ?_⟩
      rw [List.forall_mem_cons]
      constructor
      · intro z
        exact ⟨e, h2.mp (by omega)⟩
      · intro z
        have := h2.mpr z.2
        omega
    · rw [if_neg e]
      refine ⟨by omega, ?_⟩
      rw [List.forall_mem_cons]
      constructor
      · intro z
        omega
      · intro z
        exact absurd z.1 e
theorem LL_nodup : LL.cps.toList.Nodup := by decide +kernel
/-- the two ways to say it -/
theorem same_words (w : Str) : (Txt.stripChars w LL = ("" : Str)) ↔ tot LL.cps.toList w.cps.toList = (w.length : Int) := by
  rw [strip_all]
  have := (tot_len LL.cps.toList LL_nodup w.cps.toList).2
  have hl : (w.cps.toList.length : Int) = w.length := by simp [Str.length]
  rw [hl] at this
  rw [this]
  constructor
  · intro h c hc
    simpa using h c hc
  · intro h c hc
    simpa using h c hc
end K00
namespace K00
open PL L2 PySem PySem.Spec PyProof.Rows
abbrev O (k : Nat) : Ora := orc tab.def_ tab.gv 0 k
theorem mix_ok {k : Nat} {a b : Int} : Cl (O (k + 1)) "_law_mix" [.fz (.int a), .fz (.int b)] fun n d outs => n = false ∧ ∃ j, d = .int j := by
  refine cl_ok (d := e_law_mix.d) rfl rfl (by decide) ?_
  show Xs (ex (O k) b_law_mix [.fz (.int a), .fz (.int b), .un, .un, .un]) _
  unfold b_law_mix
  simp (maxSteps := 4000000) only [Y_ok, Y_ret, Y_rdv, Y_rdn, Y_rds, Y_cnv, Y_cnn, Y_cns, Y_wkv, Y_wkn, Y_wks, Y_var, Xs_nx, Xs_rt, Xs_bk, Xs_ct, Xs_skip, Xs_seq, Xs_ifs, Xs_set, Xs_stv, Xs_stn, Xs_sts, Xs_ret, Xs_rtv, Xs_rtn, Xs_rts, Xs_retN, Xs_exp, Xs_app, Xs_sset, Xs_fr, Y_int, Y_bool, Y_non, Y_str, Y_gl, Y_bin, Y_neg, Y_not, Y_and, Y_or, Y_ite, Y_cmp, Y_chain, Y_is, Y_tup, Y_lst, Y_sub, Y_sli, Y_rev, Y_blt, Y_mth, Y_isi, Y_cal, Y_lc, Y_nil, Y_cons, Y_cnil, Y_ccons, Y_rnil, Y_rcons, T_not, T_and, T_or, T_so, C_no, C_so, P_no, P_so, I_seq, I_rng, has, held, kp, wk, rtS, setS, chg, Slot.val, Opd.fz, List.getElem?_cons_zero, List.getElem?_cons_succ, List.set_cons_zero, List.set_cons_succ, Option.bind_some, Option.map_some, Option.some.injEq, exists_eq_left', exists_eq_left, and_true, true_and, PL.D.int.injEq, PL.D.str.injEq, isiD, srcs, argsO, argO, argS, slotsO, once, back_f, back_t, back_0, List.tail_cons, List.tail_nil, back1, kept, outsE, List.take_succ_cons, List.take_zero, List.map_cons, List.map_nil, Option.getD_some, Bool.not_true, Bool.not_false, if_true, Bool.false_eq_true, if_false, reduceIte, List.length_cons, List.length_nil, ex_iteO, b_addI, b_addS, b_addT, b_addL, b_subI, b_mulI, b_mulS, b_mulL, b_mulT, b_fdv, b_mod, b_pow, e_int, e_str, e_bl, c_eq, c_ne, c_in, c_notin, c_lt, c_ltS, c_le, c_gt, c_ge, t_bl, t_non, t_int, t_tup, t_lst, t_str, s_lst, s_tup, s_str, l_lst, l_tup, l_str, l_int, l_listL, l_listT, l_tupL, l_tupT, m_strip, m_upper, m_count, m_find, z_lst, z_arg, z_tup, z_str, z_rev, i_lst, i_tup, i_str, i_rng, n_non, n_tru, n_fls, decide_eq_true_eq, Opd.v.injEq, at0, at1, at2, at3, at4, at5, ix60, ix61, ix62, ix63, ix64, ix65, Nat.reduceAdd, Nat.zero_add, List.count_cons, List.count_nil, Nat.reduceBEq, beq_self_eq_true, Bool.true_and, Bool.and_true, Bool.and_self, List.count_cons_self, wipeS]
  exact ⟨sm_r (by decide) (by decide), sm_r (by decide) (by decide), by decide, sm_f (by decide) (by decide), sm_r (by decide) (by decide), by decide, sm_f (by decide) (by decide), sm_r (by decide) (by decide), by decide, sm_r (by decide) (by decide), _, rfl⟩
abbrev Sto (cells : List Int) (p q r s t : Int) : D := .lst [.lst (cells.map .int), .int p, .int q, .int r, .int s, .int t]
theorem take_ok {k : Nat} {cells : List Int} {p q r s t many : Int} (hp : 0 ≤ p) (hm : many < 1073741824) : Cl (O (k + 2)) "_law_take" [.io (Sto cells p q r s t), .fz (.int many)] fun n d outs => n = false ∧ ∃ j, d = .int j ∧ 0 ≤ j ∧ (j < many ∨ (many ≤ 1 ∧ j = 0)) ∧ ∃ p q r s, 0 ≤ p ∧ outs = [Sto cells p q r s t, .int many] := by
  refine cl_ok (d := e_law_take.d) rfl rfl (by decide) ?_
  show Xs (ex (O (k + 1)) b_law_take [.io (Sto cells p q r s t), .fz (.int many), .un, .un]) _
  unfold b_law_take Sto e_law_take
  simp (maxSteps := 4000000) only [Y_ok, Y_ret, Y_rdv, Y_rdn, Y_rds, Y_cnv, Y_cnn, Y_cns, Y_wkv, Y_wkn, Y_wks, Y_var, Xs_nx, Xs_rt, Xs_bk, Xs_ct, Xs_skip, Xs_seq, Xs_ifs, Xs_set, Xs_stv, Xs_stn, Xs_sts, Xs_ret, Xs_rtv, Xs_rtn, Xs_rts, Xs_retN, Xs_exp, Xs_app, Xs_sset, Xs_fr, Y_int, Y_bool, Y_non, Y_str, Y_gl, Y_bin, Y_neg, Y_not, Y_and, Y_or, Y_ite, Y_cmp, Y_chain, Y_is, Y_tup, Y_lst, Y_sub, Y_sli, Y_rev, Y_blt, Y_mth, Y_isi, Y_cal, Y_lc, Y_nil, Y_cons, Y_cnil, Y_ccons, Y_rnil, Y_rcons, T_not, T_and, T_or, T_so, C_no, C_so, P_no, P_so, I_seq, I_rng, has, held, kp, wk, rtS, setS, chg, Slot.val, Opd.fz, List.getElem?_cons_zero, List.getElem?_cons_succ, List.set_cons_zero, List.set_cons_succ, Option.bind_some, Option.map_some, Option.some.injEq, exists_eq_left', exists_eq_left, and_true, true_and, PL.D.int.injEq, PL.D.str.injEq, isiD, srcs, argsO, argO, argS, slotsO, once, back_f, back_t, back_0, List.tail_cons, List.tail_nil, back1, kept, outsE, List.take_succ_cons, List.take_zero, List.map_cons, List.map_nil, Option.getD_some, Bool.not_true, Bool.not_false, if_true, Bool.false_eq_true, if_false, reduceIte, List.length_cons, List.length_nil, ex_iteO, b_addI, b_addS, b_addT, b_addL, b_subI, b_mulI, b_mulS, b_mulL, b_mulT, b_fdv, b_mod, b_pow, e_int, e_str, e_bl, c_eq, c_ne, c_in, c_notin, c_lt, c_ltS, c_le, c_gt, c_ge, t_bl, t_non, t_int, t_tup, t_lst, t_str, s_lst, s_tup, s_str, l_lst, l_tup, l_str, l_int, l_listL, l_listT, l_tupL, l_tupT, m_strip, m_upper, m_count, m_find, z_lst, z_arg, z_tup, z_str, z_rev, i_lst, i_tup, i_str, i_rng, n_non, n_tru, n_fls, decide_eq_true_eq, Opd.v.injEq, at0, at1, at2, at3, at4, at5, ix60, ix61, ix62, ix63, ix64, ix65, Nat.reduceAdd, Nat.zero_add, List.count_cons, List.count_nil, Nat.reduceBEq, beq_self_eq_true, Bool.true_and, Bool.and_true, Bool.and_self, List.count_cons_self, wipeS]
  have hc : ((cells.map D.int).length : Int) = cells.length := by rw [List.length_map]
  refine ite_i (fun h => ⟨Int.le_refl _, .inr h, p, q, r, s, hp, rfl⟩) (fun h => ?_)
  have m0 : many ≠ 0 := by omega
  have mp : 0 < many := by omega
  have ma : many.natAbs < 1073741824 := by omega
  have f0 : ∀ x : Int, 0 ≤ x.fmod many := fun x => Int.fmod_nonneg_of_pos x mp
  have f1 : ∀ x : Int, x.fmod many < many := fun x => Int.fmod_lt_of_pos x mp
  refine ite_i (fun _ => ⟨⟨m0, ma⟩, m0, f0 _, .inl (f1 _), _, _, _, _, hp, rfl⟩) (fun _ => ?_)
  refine ite_i (fun _ => ?_) (fun h3 => ?_)
  · refine Cl.mono mix_ok fun n d o hh => ?_
    obtain ⟨rfl, j, rfl⟩ := hh
    simp (maxSteps := 4000000) only [Y_ok, Y_ret, Y_rdv, Y_rdn, Y_rds, Y_cnv, Y_cnn, Y_cns, Y_wkv, Y_wkn, Y_wks, Y_var, Xs_nx, Xs_rt, Xs_bk, Xs_ct, Xs_skip, Xs_seq, Xs_ifs, Xs_set, Xs_stv, Xs_stn, Xs_sts, Xs_ret, Xs_rtv, Xs_rtn, Xs_rts, Xs_retN, Xs_exp, Xs_app, Xs_sset, Xs_fr, Y_int, Y_bool, Y_non, Y_str, Y_gl, Y_bin, Y_neg, Y_not, Y_and, Y_or, Y_ite, Y_cmp, Y_chain, Y_is, Y_tup, Y_lst, Y_sub, Y_sli, Y_rev, Y_blt, Y_mth, Y_isi, Y_cal, Y_lc, Y_nil, Y_cons, Y_cnil, Y_ccons, Y_rnil, Y_rcons, T_not, T_and, T_or, T_so, C_no, C_so, P_no, P_so, I_seq, I_rng, has, held, kp, wk, rtS, setS, chg, Slot.val, Opd.fz, List.getElem?_cons_zero, List.getElem?_cons_succ, List.set_cons_zero, List.set_cons_succ, Option.bind_some, Option.map_some, Option.some.injEq, exists_eq_left', exists_eq_left, and_true, true_and, PL.D.int.injEq, PL.D.str.injEq, isiD, srcs, argsO, argO, argS, slotsO, once, back_f, back_t, back_0, List.tail_cons, List.tail_nil, back1, kept, outsE, List.take_succ_cons, List.take_zero, List.map_cons, List.map_nil, Option.getD_some, Bool.not_true, Bool.not_false, if_true, Bool.false_eq_true, if_false, reduceIte, List.length_cons, List.length_nil, ex_iteO, b_addI, b_addS, b_addT, b_addL, b_subI, b_mulI, b_mulS, b_mulL, b_mulT, b_fdv, b_mod, b_pow, e_int, e_str, e_bl, c_eq, c_ne, c_in, c_notin, c_lt, c_ltS, c_le, c_gt, c_ge, t_bl, t_non, t_int, t_tup, t_lst, t_str, s_lst, s_tup, s_str, l_lst, l_tup, l_str, l_int, l_listL, l_listT, l_tupL, l_tupT, m_strip, m_upper, m_count, m_find, z_lst, z_arg, z_tup, z_str, z_rev, i_lst, i_tup, i_str, i_rng, n_non, n_tru, n_fls, decide_eq_true_eq, Opd.v.injEq, at0, at1, at2, at3, at4, at5, ix60, ix61, ix62, ix63, ix64, ix65, Nat.reduceAdd, Nat.zero_add, List.count_cons, List.count_nil, Nat.reduceBEq, beq_self_eq_true, Bool.true_and, Bool.and_true, Bool.and_self, List.count_cons_self, wipeS]
    exact ⟨m0, f0 _, .inl (f1 _), _, _, _, _, hp, rfl⟩
  · have h4 : p < (cells.map D.int).length := by omega
    obtain ⟨j, x, e1, e2, e3⟩ := at_nat hp h4
    rw [List.getElem?_map] at e2
    obtain ⟨c, _, rfl⟩ := Option.map_eq_some_iff.mp e2
    rw [e3]
    simp (maxSteps := 4000000) only [Y_ok, Y_ret, Y_rdv, Y_rdn, Y_rds, Y_cnv, Y_cnn, Y_cns, Y_wkv, Y_wkn, Y_wks, Y_var, Xs_nx, Xs_rt, Xs_bk, Xs_ct, Xs_skip, Xs_seq, Xs_ifs, Xs_set, Xs_stv, Xs_stn, Xs_sts, Xs_ret, Xs_rtv, Xs_rtn, Xs_rts, Xs_retN, Xs_exp, Xs_app, Xs_sset, Xs_fr, Y_int, Y_bool, Y_non, Y_str, Y_gl, Y_bin, Y_neg, Y_not, Y_and, Y_or, Y_ite, Y_cmp, Y_chain, Y_is, Y_tup, Y_lst, Y_sub, Y_sli, Y_rev, Y_blt, Y_mth, Y_isi, Y_cal, Y_lc, Y_nil, Y_cons, Y_cnil, Y_ccons, Y_rnil, Y_rcons, T_not, T_and, T_or, T_so, C_no, C_so, P_no, P_so, I_seq, I_rng, has, held, kp, wk, rtS, setS, chg, Slot.val, Opd.fz, List.getElem?_cons_zero, List.getElem?_cons_succ, List.set_cons_zero, List.set_cons_succ, Option.bind_some, Option.map_some, Option.some.injEq, exists_eq_left', exists_eq_left, and_true, true_and, PL.D.int.injEq, PL.D.str.injEq, isiD, srcs, argsO, argO, argS, slotsO, once, back_f, back_t, back_0, List.tail_cons, List.tail_nil, back1, kept, outsE, List.take_succ_cons, List.take_zero, List.map_cons, List.map_nil, Option.getD_some, Bool.not_true, Bool.not_false, if_true, Bool.false_eq_true, if_false, reduceIte, List.length_cons, List.length_nil, ex_iteO, b_addI, b_addS, b_addT, b_addL, b_subI, b_mulI, b_mulS, b_mulL, b_mulT, b_fdv, b_mod, b_pow, e_int, e_str, e_bl, c_eq, c_ne, c_in, c_notin, c_lt, c_ltS, c_le, c_gt, c_ge, t_bl, t_non, t_int, t_tup, t_lst, t_str, s_lst, s_tup, s_str, l_lst, l_tup, l_str, l_int, l_listL, l_listT, l_tupL, l_tupT, m_strip, m_upper, m_count, m_find, z_lst, z_arg, z_tup, z_str, z_rev, i_lst, i_tup, i_str, i_rng, n_non, n_tru, n_fls, decide_eq_true_eq, Opd.v.injEq, at0, at1, at2, at3, at4, at5, ix60, ix61, ix62, ix63, ix64, ix65, Nat.reduceAdd, Nat.zero_add, List.count_cons, List.count_nil, Nat.reduceBEq, beq_self_eq_true, Bool.true_and, Bool.and_true, Bool.and_self, List.count_cons_self, wipeS]
    refine ⟨⟨by decide, by decide, by decide⟩, ?_⟩
    have hp1 : 0 ≤ p + 1 := by omega
    refine ite_i (fun _ => ⟨⟨m0, ma⟩, m0, f0 _, .inl (f1 _), _, _, _, _, hp1, rfl⟩) (fun _ => ite_i (fun _ => ?_) (fun _ => ?_))
    · refine Cl.mono mix_ok fun n d o hh => ?_
      obtain ⟨rfl, j, rfl⟩ := hh
      simp (maxSteps := 4000000) only [Y_ok, Y_ret, Y_rdv, Y_rdn, Y_rds, Y_cnv, Y_cnn, Y_cns, Y_wkv, Y_wkn, Y_wks, Y_var, Xs_nx, Xs_rt, Xs_bk, Xs_ct, Xs_skip, Xs_seq, Xs_ifs, Xs_set, Xs_stv, Xs_stn, Xs_sts, Xs_ret, Xs_rtv, Xs_rtn, Xs_rts, Xs_retN, Xs_exp, Xs_app, Xs_sset, Xs_fr, Y_int, Y_bool, Y_non, Y_str, Y_gl, Y_bin, Y_neg, Y_not, Y_and, Y_or, Y_ite, Y_cmp, Y_chain, Y_is, Y_tup, Y_lst, Y_sub, Y_sli, Y_rev, Y_blt, Y_mth, Y_isi, Y_cal, Y_lc, Y_nil, Y_cons, Y_cnil, Y_ccons, Y_rnil, Y_rcons, T_not, T_and, T_or, T_so, C_no, C_so, P_no, P_so, I_seq, I_rng, has, held, kp, wk, rtS, setS, chg, Slot.val, Opd.fz, List.getElem?_cons_zero, List.getElem?_cons_succ, List.set_cons_zero, List.set_cons_succ, Option.bind_some, Option.map_some, Option.some.injEq, exists_eq_left', exists_eq_left, and_true, true_and, PL.D.int.injEq, PL.D.str.injEq, isiD, srcs, argsO, argO, argS, slotsO, once, back_f, back_t, back_0, List.tail_cons, List.tail_nil, back1, kept, outsE, List.take_succ_cons, List.take_zero, List.map_cons, List.map_nil, Option.getD_some, Bool.not_true, Bool.not_false, if_true, Bool.false_eq_true, if_false, reduceIte, List.length_cons, List.length_nil, ex_iteO, b_addI, b_addS, b_addT, b_addL, b_subI, b_mulI, b_mulS, b_mulL, b_mulT, b_fdv, b_mod, b_pow, e_int, e_str, e_bl, c_eq, c_ne, c_in, c_notin, c_lt, c_ltS, c_le, c_gt, c_ge, t_bl, t_non, t_int, t_tup, t_lst, t_str, s_lst, s_tup, s_str, l_lst, l_tup, l_str, l_int, l_listL, l_listT, l_tupL, l_tupT, m_strip, m_upper, m_count, m_find, z_lst, z_arg, z_tup, z_str, z_rev, i_lst, i_tup, i_str, i_rng, n_non, n_tru, n_fls, decide_eq_true_eq, Opd.v.injEq, at0, at1, at2, at3, at4, at5, ix60, ix61, ix62, ix63, ix64, ix65, Nat.reduceAdd, Nat.zero_add, List.count_cons, List.count_nil, Nat.reduceBEq, beq_self_eq_true, Bool.true_and, Bool.and_true, Bool.and_self, List.count_cons_self, wipeS]
      exact ⟨m0, f0 _, .inl (f1 _), _, _, _, _, hp1, rfl⟩
    · refine Cl.mono mix_ok fun n d o hh => ?_
      obtain ⟨rfl, j, rfl⟩ := hh
      simp (maxSteps := 4000000) only [Y_ok, Y_ret, Y_rdv, Y_rdn, Y_rds, Y_cnv, Y_cnn, Y_cns, Y_wkv, Y_wkn, Y_wks, Y_var, Xs_nx, Xs_rt, Xs_bk, Xs_ct, Xs_skip, Xs_seq, Xs_ifs, Xs_set, Xs_stv, Xs_stn, Xs_sts, Xs_ret, Xs_rtv, Xs_rtn, Xs_rts, Xs_retN, Xs_exp, Xs_app, Xs_sset, Xs_fr, Y_int, Y_bool, Y_non, Y_str, Y_gl, Y_bin, Y_neg, Y_not, Y_and, Y_or, Y_ite, Y_cmp, Y_chain, Y_is, Y_tup, Y_lst, Y_sub, Y_sli, Y_rev, Y_blt, Y_mth, Y_isi, Y_cal, Y_lc, Y_nil, Y_cons, Y_cnil, Y_ccons, Y_rnil, Y_rcons, T_not, T_and, T_or, T_so, C_no, C_so, P_no, P_so, I_seq, I_rng, has, held, kp, wk, rtS, setS, chg, Slot.val, Opd.fz, List.getElem?_cons_zero, List.getElem?_cons_succ, List.set_cons_zero, List.set_cons_succ, Option.bind_some, Option.map_some, Option.some.injEq, exists_eq_left', exists_eq_left, and_true, true_and, PL.D.int.injEq, PL.D.str.injEq, isiD, srcs, argsO, argO, argS, slotsO, once, back_f, back_t, back_0, List.tail_cons, List.tail_nil, back1, kept, outsE, List.take_succ_cons, List.take_zero, List.map_cons, List.map_nil, Option.getD_some, Bool.not_true, Bool.not_false, if_true, Bool.false_eq_true, if_false, reduceIte, List.length_cons, List.length_nil, ex_iteO, b_addI, b_addS, b_addT, b_addL, b_subI, b_mulI, b_mulS, b_mulL, b_mulT, b_fdv, b_mod, b_pow, e_int, e_str, e_bl, c_eq, c_ne, c_in, c_notin, c_lt, c_ltS, c_le, c_gt, c_ge, t_bl, t_non, t_int, t_tup, t_lst, t_str, s_lst, s_tup, s_str, l_lst, l_tup, l_str, l_int, l_listL, l_listT, l_tupL, l_tupT, m_strip, m_upper, m_count, m_find, z_lst, z_arg, z_tup, z_str, z_rev, i_lst, i_tup, i_str, i_rng, n_non, n_tru, n_fls, decide_eq_true_eq, Opd.v.injEq, at0, at1, at2, at3, at4, at5, ix60, ix61, ix62, ix63, ix64, ix65, Nat.reduceAdd, Nat.zero_add, List.count_cons, List.count_nil, Nat.reduceBEq, beq_self_eq_true, Bool.true_and, Bool.and_true, Bool.and_self, List.count_cons_self, wipeS]
      exact ⟨m0, f0 _, .inl (f1 _), _, _, _, _, hp, rfl⟩
/-- what a store is -/
def Sv (d : D) : Prop := ∃ cells p q r s t, 0 ≤ p ∧ d = Sto cells p q r s t
abbrev PK := Bool → D → List D → Prop
theorem take' {k : Nat} {d : D} {many : Int} {P : PK} (h : Sv d) (hm : many < 1073741824) (hP : ∀ j d', 0 ≤ j → (j < many ∨ (many ≤ 1 ∧ j = 0)) → Sv d' → P false (.int j) [d', .int many]) : Cl (O (k + 2)) "_law_take" [.io d, .fz (.int many)] P := by
  obtain ⟨cells, p, q, r, s, t, hp, rfl⟩ := h
  refine Cl.mono (take_ok hp hm) fun n x o ⟨h1, j, h2, h3, h4, p', q', r', s', h5, h6⟩ => ?_
  subst h1; subst h2; subst h6
  exact hP j _ h3 h4 ⟨_, _, _, _, _, _, h5, rfl⟩
theorem letters_ok {k : Nat} {P : PK} (hP : P false (.str LL) []) : Cl (O (k + 1)) "_law_letters" [] P := by
  refine cl_ok (d := e_law_letters.d) rfl rfl (by decide) ?_
  show Xs (ex (O k) b_law_letters []) _
  unfold b_law_letters
  simp (maxSteps := 4000000) only [Y_ok, Y_ret, Y_rdv, Y_rdn, Y_rds, Y_cnv, Y_cnn, Y_cns, Y_wkv, Y_wkn, Y_wks, Y_var, Xs_nx, Xs_rt, Xs_bk, Xs_ct, Xs_skip, Xs_seq, Xs_ifs, Xs_set, Xs_stv, Xs_stn, Xs_sts, Xs_ret, Xs_rtv, Xs_rtn, Xs_rts, Xs_retN, Xs_exp, Xs_app, Xs_sset, Xs_fr, Y_int, Y_bool, Y_non, Y_str, Y_gl, Y_bin, Y_neg, Y_not, Y_and, Y_or, Y_ite, Y_cmp, Y_chain, Y_is, Y_tup, Y_lst, Y_sub, Y_sli, Y_rev, Y_blt, Y_mth, Y_isi, Y_cal, Y_lc, Y_nil, Y_cons, Y_cnil, Y_ccons, Y_rnil, Y_rcons, T_not, T_and, T_or, T_so, C_no, C_so, P_no, P_so, I_seq, I_rng, has, held, kp, wk, rtS, setS, chg, Slot.val, Opd.fz, List.getElem?_cons_zero, List.getElem?_cons_succ, List.set_cons_zero, List.set_cons_succ, Option.bind_some, Option.map_some, Option.some.injEq, exists_eq_left', exists_eq_left, and_true, true_and, PL.D.int.injEq, PL.D.str.injEq, isiD, srcs, argsO, argO, argS, slotsO, once, back_f, back_t, back_0, List.tail_cons, List.tail_nil, back1, kept, outsE, List.take_succ_cons, List.take_zero, List.map_cons, List.map_nil, Option.getD_some, Bool.not_true, Bool.not_false, if_true, Bool.false_eq_true, if_false, reduceIte, List.length_cons, List.length_nil, ex_iteO, b_addI, b_addS, b_addT, b_addL, b_subI, b_mulI, b_mulS, b_mulL, b_mulT, b_fdv, b_mod, b_pow, e_int, e_str, e_bl, c_eq, c_ne, c_in, c_notin, c_lt, c_ltS, c_le, c_gt, c_ge, t_bl, t_non, t_int, t_tup, t_lst, t_str, s_lst, s_tup, s_str, l_lst, l_tup, l_str, l_int, l_listL, l_listT, l_tupL, l_tupT, m_strip, m_upper, m_count, m_find, z_lst, z_arg, z_tup, z_str, z_rev, i_lst, i_tup, i_str, i_rng, n_non, n_tru, n_fls, decide_eq_true_eq, Opd.v.injEq, at0, at1, at2, at3, at4, at5, ix60, ix61, ix62, ix63, ix64, ix65, Nat.reduceAdd, Nat.zero_add, List.count_cons, List.count_nil, Nat.reduceBEq, beq_self_eq_true, Bool.true_and, Bool.and_true, Bool.and_self, List.count_cons_self, wipeS]
  exact hP
def SG : Str := (" !\"#$&'()*+,-./0123456789:;<=>?@ABCDEFGHIJKLMNOPQRSTUVWXYZ[\\]^_`" : Str) ++ ("{|}~" : Str)
theorem signs_ok {k : Nat} {P : PK} (hP : P false (.str SG) []) : Cl (O (k + 1)) "_law_signs" [] P := by
  refine cl_ok (d := e_law_signs.d) rfl rfl (by decide) ?_
  show Xs (ex (O k) b_law_signs [.un]) _
  unfold b_law_signs
  simp (maxSteps := 4000000) only [Y_ok, Y_ret, Y_rdv, Y_rdn, Y_rds, Y_cnv, Y_cnn, Y_cns, Y_wkv, Y_wkn, Y_wks, Y_var, Xs_nx, Xs_rt, Xs_bk, Xs_ct, Xs_skip, Xs_seq, Xs_ifs, Xs_set, Xs_stv, Xs_stn, Xs_sts, Xs_ret, Xs_rtv, Xs_rtn, Xs_rts, Xs_retN, Xs_exp, Xs_app, Xs_sset, Xs_fr, Y_int, Y_bool, Y_non, Y_str, Y_gl, Y_bin, Y_neg, Y_not, Y_and, Y_or, Y_ite, Y_cmp, Y_chain, Y_is, Y_tup, Y_lst, Y_sub, Y_sli, Y_rev, Y_blt, Y_mth, Y_isi, Y_cal, Y_lc, Y_nil, Y_cons, Y_cnil, Y_ccons, Y_rnil, Y_rcons, T_not, T_and, T_or, T_so, C_no, C_so, P_no, P_so, I_seq, I_rng, has, held, kp, wk, rtS, setS, chg, Slot.val, Opd.fz, List.getElem?_cons_zero, List.getElem?_cons_succ, List.set_cons_zero, List.set_cons_succ, Option.bind_some, Option.map_some, Option.some.injEq, exists_eq_left', exists_eq_left, and_true, true_and, PL.D.int.injEq, PL.D.str.injEq, isiD, srcs, argsO, argO, argS, slotsO, once, back_f, back_t, back_0, List.tail_cons, List.tail_nil, back1, kept, outsE, List.take_succ_cons, List.take_zero, List.map_cons, List.map_nil, Option.getD_some, Bool.not_true, Bool.not_false, if_true, Bool.false_eq_true, if_false, reduceIte, List.length_cons, List.length_nil, ex_iteO, b_addI, b_addS, b_addT, b_addL, b_subI, b_mulI, b_mulS, b_mulL, b_mulT, b_fdv, b_mod, b_pow, e_int, e_str, e_bl, c_eq, c_ne, c_in, c_notin, c_lt, c_ltS, c_le, c_gt, c_ge, t_bl, t_non, t_int, t_tup, t_lst, t_str, s_lst, s_tup, s_str, l_lst, l_tup, l_str, l_int, l_listL, l_listT, l_tupL, l_tupT, m_strip, m_upper, m_count, m_find, z_lst, z_arg, z_tup, z_str, z_rev, i_lst, i_tup, i_str, i_rng, n_non, n_tru, n_fls, decide_eq_true_eq, Opd.v.injEq, at0, at1, at2, at3, at4, at5, ix60, ix61, ix62, ix63, ix64, ix65, Nat.reduceAdd, Nat.zero_add, List.count_cons, List.count_nil, Nat.reduceBEq, beq_self_eq_true, Bool.true_and, Bool.and_true, Bool.and_self, List.count_cons_self, wipeS]
  exact ⟨by decide +kernel, hP⟩
theorem char_at {z : Str} {j : Int} (h0 : 0 ≤ j) (h1 : j < z.length) : ∃ c, atI z.cps.toList j = some c := by
  obtain ⟨_, c, _, _, e⟩ := at_nat (l := z.cps.toList) h0 (by simpa [Str.length] using h1)
  exact ⟨c, e⟩
theorem pick_ok {k : Nat} {d : D} {z : Str} {P : PK} (h : Sv d) (h1 : 1 ≤ z.length) (h2 : z.length ≤ 1000) (hP : ∀ c d', Sv d' → P false (.str ⟨#[c]⟩) [d', .str z]) : Cl (O (k + 3)) "_law_pick" [.io d, .fz (.str z)] P := by
  have hs := sizeLine_eq
  refine cl_ok (d := e_law_pick.d) rfl rfl (by decide) ?_
  show Xs (ex (O (k + 2)) b_law_pick [.io d, .fz (.str z)]) _
  unfold b_law_pick e_law_pick
  simp (maxSteps := 4000000) only [Y_ok, Y_ret, Y_rdv, Y_rdn, Y_rds, Y_cnv, Y_cnn, Y_cns, Y_wkv, Y_wkn, Y_wks, Y_var, Xs_nx, Xs_rt, Xs_bk, Xs_ct, Xs_skip, Xs_seq, Xs_ifs, Xs_set, Xs_stv, Xs_stn, Xs_sts, Xs_ret, Xs_rtv, Xs_rtn, Xs_rts, Xs_retN, Xs_exp, Xs_app, Xs_sset, Xs_fr, Y_int, Y_bool, Y_non, Y_str, Y_gl, Y_bin, Y_neg, Y_not, Y_and, Y_or, Y_ite, Y_cmp, Y_chain, Y_is, Y_tup, Y_lst, Y_sub, Y_sli, Y_rev, Y_blt, Y_mth, Y_isi, Y_cal, Y_lc, Y_nil, Y_cons, Y_cnil, Y_ccons, Y_rnil, Y_rcons, T_not, T_and, T_or, T_so, C_no, C_so, P_no, P_so, I_seq, I_rng, has, held, kp, wk, rtS, setS, chg, Slot.val, Opd.fz, List.getElem?_cons_zero, List.getElem?_cons_succ, List.set_cons_zero, List.set_cons_succ, Option.bind_some, Option.map_some, Option.some.injEq, exists_eq_left', exists_eq_left, and_true, true_and, PL.D.int.injEq, PL.D.str.injEq, isiD, srcs, argsO, argO, argS, slotsO, once, back_f, back_t, back_0, List.tail_cons, List.tail_nil, back1, kept, outsE, List.take_succ_cons, List.take_zero, List.map_cons, List.map_nil, Option.getD_some, Bool.not_true, Bool.not_false, if_true, Bool.false_eq_true, if_false, reduceIte, List.length_cons, List.length_nil, ex_iteO, b_addI, b_addS, b_addT, b_addL, b_subI, b_mulI, b_mulS, b_mulL, b_mulT, b_fdv, b_mod, b_pow, e_int, e_str, e_bl, c_eq, c_ne, c_in, c_notin, c_lt, c_ltS, c_le, c_gt, c_ge, t_bl, t_non, t_int, t_tup, t_lst, t_str, s_lst, s_tup, s_str, l_lst, l_tup, l_str, l_int, l_listL, l_listT, l_tupL, l_tupT, m_strip, m_upper, m_count, m_find, z_lst, z_arg, z_tup, z_str, z_rev, i_lst, i_tup, i_str, i_rng, n_non, n_tru, n_fls, decide_eq_true_eq, Opd.v.injEq, at0, at1, at2, at3, at4, at5, ix60, ix61, ix62, ix63, ix64, ix65, Nat.reduceAdd, Nat.zero_add, List.count_cons, List.count_nil, Nat.reduceBEq, beq_self_eq_true, Bool.true_and, Bool.and_true, Bool.and_self, List.count_cons_self, wipeS]
  refine ⟨by omega, take' h (by omega) fun j d' j0 j1 s' => ?_⟩
  simp (maxSteps := 4000000) only [Y_ok, Y_ret, Y_rdv, Y_rdn, Y_rds, Y_cnv, Y_cnn, Y_cns, Y_wkv, Y_wkn, Y_wks, Y_var, Xs_nx, Xs_rt, Xs_bk, Xs_ct, Xs_skip, Xs_seq, Xs_ifs, Xs_set, Xs_stv, Xs_stn, Xs_sts, Xs_ret, Xs_rtv, Xs_rtn, Xs_rts, Xs_retN, Xs_exp, Xs_app, Xs_sset, Xs_fr, Y_int, Y_bool, Y_non, Y_str, Y_gl, Y_bin, Y_neg, Y_not, Y_and, Y_or, Y_ite, Y_cmp, Y_chain, Y_is, Y_tup, Y_lst, Y_sub, Y_sli, Y_rev, Y_blt, Y_mth, Y_isi, Y_cal, Y_lc, Y_nil, Y_cons, Y_cnil, Y_ccons, Y_rnil, Y_rcons, T_not, T_and, T_or, T_so, C_no, C_so, P_no, P_so, I_seq, I_rng, has, held, kp, wk, rtS, setS, chg, Slot.val, Opd.fz, List.getElem?_cons_zero, List.getElem?_cons_succ, List.set_cons_zero, List.set_cons_succ, Option.bind_some, Option.map_some, Option.some.injEq, exists_eq_left', exists_eq_left, and_true, true_and, PL.D.int.injEq, PL.D.str.injEq, isiD, srcs, argsO, argO, argS, slotsO, once, back_f, back_t, back_0, List.tail_cons, List.tail_nil, back1, kept, outsE, List.take_succ_cons, List.take_zero, List.map_cons, List.map_nil, Option.getD_some, Bool.not_true, Bool.not_false, if_true, Bool.false_eq_true, if_false, reduceIte, List.length_cons, List.length_nil, ex_iteO, b_addI, b_addS, b_addT, b_addL, b_subI, b_mulI, b_mulS, b_mulL, b_mulT, b_fdv, b_mod, b_pow, e_int, e_str, e_bl, c_eq, c_ne, c_in, c_notin, c_lt, c_ltS, c_le, c_gt, c_ge, t_bl, t_non, t_int, t_tup, t_lst, t_str, s_lst, s_tup, s_str, l_lst, l_tup, l_str, l_int, l_listL, l_listT, l_tupL, l_tupT, m_strip, m_upper, m_count, m_find, z_lst, z_arg, z_tup, z_str, z_rev, i_lst, i_tup, i_str, i_rng, n_non, n_tru, n_fls, decide_eq_true_eq, Opd.v.injEq, at0, at1, at2, at3, at4, at5, ix60, ix61, ix62, ix63, ix64, ix65, Nat.reduceAdd, Nat.zero_add, List.count_cons, List.count_nil, Nat.reduceBEq, beq_self_eq_true, Bool.true_and, Bool.and_true, Bool.and_self, List.count_cons_self, wipeS]
  refine ⟨by omega, ?_⟩
  obtain ⟨c, e⟩ := char_at (z := z) j0 (by omega)
  rw [e]
  simp (maxSteps := 4000000) only [Y_ok, Y_ret, Y_rdv, Y_rdn, Y_rds, Y_cnv, Y_cnn, Y_cns, Y_wkv, Y_wkn, Y_wks, Y_var, Xs_nx, Xs_rt, Xs_bk, Xs_ct, Xs_skip, Xs_seq, Xs_ifs, Xs_set, Xs_stv, Xs_stn, Xs_sts, Xs_ret, Xs_rtv, Xs_rtn, Xs_rts, Xs_retN, Xs_exp, Xs_app, Xs_sset, Xs_fr, Y_int, Y_bool, Y_non, Y_str, Y_gl, Y_bin, Y_neg, Y_not, Y_and, Y_or, Y_ite, Y_cmp, Y_chain, Y_is, Y_tup, Y_lst, Y_sub, Y_sli, Y_rev, Y_blt, Y_mth, Y_isi, Y_cal, Y_lc, Y_nil, Y_cons, Y_cnil, Y_ccons, Y_rnil, Y_rcons, T_not, T_and, T_or, T_so, C_no, C_so, P_no, P_so, I_seq, I_rng, has, held, kp, wk, rtS, setS, chg, Slot.val, Opd.fz, List.getElem?_cons_zero, List.getElem?_cons_succ, List.set_cons_zero, List.set_cons_succ, Option.bind_some, Option.map_some, Option.some.injEq, exists_eq_left', exists_eq_left, and_true, true_and, PL.D.int.injEq, PL.D.str.injEq, isiD, srcs, argsO, argO, argS, slotsO, once, back_f, back_t, back_0, List.tail_cons, List.tail_nil, back1, kept, outsE, List.take_succ_cons, List.take_zero, List.map_cons, List.map_nil, Option.getD_some, Bool.not_true, Bool.not_false, if_true, Bool.false_eq_true, if_false, reduceIte, List.length_cons, List.length_nil, ex_iteO, b_addI, b_addS, b_addT, b_addL, b_subI, b_mulI, b_mulS, b_mulL, b_mulT, b_fdv, b_mod, b_pow, e_int, e_str, e_bl, c_eq, c_ne, c_in, c_notin, c_lt, c_ltS, c_le, c_gt, c_ge, t_bl, t_non, t_int, t_tup, t_lst, t_str, s_lst, s_tup, s_str, l_lst, l_tup, l_str, l_int, l_listL, l_listT, l_tupL, l_tupT, m_strip, m_upper, m_count, m_find, z_lst, z_arg, z_tup, z_str, z_rev, i_lst, i_tup, i_str, i_rng, n_non, n_tru, n_fls, decide_eq_true_eq, Opd.v.injEq, at0, at1, at2, at3, at4, at5, ix60, ix61, ix62, ix63, ix64, ix65, Nat.reduceAdd, Nat.zero_add, List.count_cons, List.count_nil, Nat.reduceBEq, beq_self_eq_true, Bool.true_and, Bool.and_true, Bool.and_self, List.count_cons_self, wipeS]
  exact hP c d' s'
theorem many_ok {k : Nat} {d : D} {a b : Int} {P : PK} (h : Sv d) (h1 : b - a < 1000000) (hP : ∀ v d', a ≤ v → (v ≤ b ∨ v = a) → Sv d' → P false (.int v) [d', .int a, .int b]) : Cl (O (k + 3)) "_law_many" [.io d, .fz (.int a), .fz (.int b)] P := by
  refine cl_ok (d := e_law_many.d) rfl rfl (by decide) ?_
  show Xs (ex (O (k + 2)) b_law_many [.io d, .fz (.int a), .fz (.int b), .un]) _
  unfold b_law_many e_law_many
  simp (maxSteps := 4000000) only [Y_ok, Y_ret, Y_rdv, Y_rdn, Y_rds, Y_cnv, Y_cnn, Y_cns, Y_wkv, Y_wkn, Y_wks, Y_var, Xs_nx, Xs_rt, Xs_bk, Xs_ct, Xs_skip, Xs_seq, Xs_ifs, Xs_set, Xs_stv, Xs_stn, Xs_sts, Xs_ret, Xs_rtv, Xs_rtn, Xs_rts, Xs_retN, Xs_exp, Xs_app, Xs_sset, Xs_fr, Y_int, Y_bool, Y_non, Y_str, Y_gl, Y_bin, Y_neg, Y_not, Y_and, Y_or, Y_ite, Y_cmp, Y_chain, Y_is, Y_tup, Y_lst, Y_sub, Y_sli, Y_rev, Y_blt, Y_mth, Y_isi, Y_cal, Y_lc, Y_nil, Y_cons, Y_cnil, Y_ccons, Y_rnil, Y_rcons, T_not, T_and, T_or, T_so, C_no, C_so, P_no, P_so, I_seq, I_rng, has, held, kp, wk, rtS, setS, chg, Slot.val, Opd.fz, List.getElem?_cons_zero, List.getElem?_cons_succ, List.set_cons_zero, List.set_cons_succ, Option.bind_some, Option.map_some, Option.some.injEq, exists_eq_left', exists_eq_left, and_true, true_and, PL.D.int.injEq, PL.D.str.injEq, isiD, srcs, argsO, argO, argS, slotsO, once, back_f, back_t, back_0, List.tail_cons, List.tail_nil, back1, kept, outsE, List.take_succ_cons, List.take_zero, List.map_cons, List.map_nil, Option.getD_some, Bool.not_true, Bool.not_false, if_true, Bool.false_eq_true, if_false, reduceIte, List.length_cons, List.length_nil, ex_iteO, b_addI, b_addS, b_addT, b_addL, b_subI, b_mulI, b_mulS, b_mulL, b_mulT, b_fdv, b_mod, b_pow, e_int, e_str, e_bl, c_eq, c_ne, c_in, c_notin, c_lt, c_ltS, c_le, c_gt, c_ge, t_bl, t_non, t_int, t_tup, t_lst, t_str, s_lst, s_tup, s_str, l_lst, l_tup, l_str, l_int, l_listL, l_listT, l_tupL, l_tupT, m_strip, m_upper, m_count, m_find, z_lst, z_arg, z_tup, z_str, z_rev, i_lst, i_tup, i_str, i_rng, n_non, n_tru, n_fls, decide_eq_true_eq, Opd.v.injEq, at0, at1, at2, at3, at4, at5, ix60, ix61, ix62, ix63, ix64, ix65, Nat.reduceAdd, Nat.zero_add, List.count_cons, List.count_nil, Nat.reduceBEq, beq_self_eq_true, Bool.true_and, Bool.and_true, Bool.and_self, List.count_cons_self, wipeS]
  refine take' h (by decide) fun j d' j0 j1 s' => ?_
  simp (maxSteps := 4000000) only [Y_ok, Y_ret, Y_rdv, Y_rdn, Y_rds, Y_cnv, Y_cnn, Y_cns, Y_wkv, Y_wkn, Y_wks, Y_var, Xs_nx, Xs_rt, Xs_bk, Xs_ct, Xs_skip, Xs_seq, Xs_ifs, Xs_set, Xs_stv, Xs_stn, Xs_sts, Xs_ret, Xs_rtv, Xs_rtn, Xs_rts, Xs_retN, Xs_exp, Xs_app, Xs_sset, Xs_fr, Y_int, Y_bool, Y_non, Y_str, Y_gl, Y_bin, Y_neg, Y_not, Y_and, Y_or, Y_ite, Y_cmp, Y_chain, Y_is, Y_tup, Y_lst, Y_sub, Y_sli, Y_rev, Y_blt, Y_mth, Y_isi, Y_cal, Y_lc, Y_nil, Y_cons, Y_cnil, Y_ccons, Y_rnil, Y_rcons, T_not, T_and, T_or, T_so, C_no, C_so, P_no, P_so, I_seq, I_rng, has, held, kp, wk, rtS, setS, chg, Slot.val, Opd.fz, List.getElem?_cons_zero, List.getElem?_cons_succ, List.set_cons_zero, List.set_cons_succ, Option.bind_some, Option.map_some, Option.some.injEq, exists_eq_left', exists_eq_left, and_true, true_and, PL.D.int.injEq, PL.D.str.injEq, isiD, srcs, argsO, argO, argS, slotsO, once, back_f, back_t, back_0, List.tail_cons, List.tail_nil, back1, kept, outsE, List.take_succ_cons, List.take_zero, List.map_cons, List.map_nil, Option.getD_some, Bool.not_true, Bool.not_false, if_true, Bool.false_eq_true, if_false, reduceIte, List.length_cons, List.length_nil, ex_iteO, b_addI, b_addS, b_addT, b_addL, b_subI, b_mulI, b_mulS, b_mulL, b_mulT, b_fdv, b_mod, b_pow, e_int, e_str, e_bl, c_eq, c_ne, c_in, c_notin, c_lt, c_ltS, c_le, c_gt, c_ge, t_bl, t_non, t_int, t_tup, t_lst, t_str, s_lst, s_tup, s_str, l_lst, l_tup, l_str, l_int, l_listL, l_listT, l_tupL, l_tupT, m_strip, m_upper, m_count, m_find, z_lst, z_arg, z_tup, z_str, z_rev, i_lst, i_tup, i_str, i_rng, n_non, n_tru, n_fls, decide_eq_true_eq, Opd.v.injEq, at0, at1, at2, at3, at4, at5, ix60, ix61, ix62, ix63, ix64, ix65, Nat.reduceAdd, Nat.zero_add, List.count_cons, List.count_nil, Nat.reduceBEq, beq_self_eq_true, Bool.true_and, Bool.and_true, Bool.and_self, List.count_cons_self, wipeS]
  refine ite_i (fun _ => hP _ _ (Int.le_refl _) (.inr rfl) s') fun c0 => ite_i (fun _ => hP _ _ (Int.le_refl _) (.inr rfl) s') fun c1 => ite_i (fun _ => hP _ _ (by omega) (.inl (Int.le_refl _)) s') fun c2 => ite_i (fun _ => hP _ _ (by omega) (.inl (by omega)) s') fun c3 => ?_
  refine take' s' (by omega) fun j' d2 k0 k1 s2 => ?_
  simp (maxSteps := 4000000) only [Y_ok, Y_ret, Y_rdv, Y_rdn, Y_rds, Y_cnv, Y_cnn, Y_cns, Y_wkv, Y_wkn, Y_wks, Y_var, Xs_nx, Xs_rt, Xs_bk, Xs_ct, Xs_skip, Xs_seq, Xs_ifs, Xs_set, Xs_stv, Xs_stn, Xs_sts, Xs_ret, Xs_rtv, Xs_rtn, Xs_rts, Xs_retN, Xs_exp, Xs_app, Xs_sset, Xs_fr, Y_int, Y_bool, Y_non, Y_str, Y_gl, Y_bin, Y_neg, Y_not, Y_and, Y_or, Y_ite, Y_cmp, Y_chain, Y_is, Y_tup, Y_lst, Y_sub, Y_sli, Y_rev, Y_blt, Y_mth, Y_isi, Y_cal, Y_lc, Y_nil, Y_cons, Y_cnil, Y_ccons, Y_rnil, Y_rcons, T_not, T_and, T_or, T_so, C_no, C_so, P_no, P_so, I_seq, I_rng, has, held, kp, wk, rtS, setS, chg, Slot.val, Opd.fz, List.getElem?_cons_zero, List.getElem?_cons_succ, List.set_cons_zero, List.set_cons_succ, Option.bind_some, Option.map_some, Option.some.injEq, exists_eq_left', exists_eq_left, and_true, true_and, PL.D.int.injEq, PL.D.str.injEq, isiD, srcs, argsO, argO, argS, slotsO, once, back_f, back_t, back_0, List.tail_cons, List.tail_nil, back1, kept, outsE, List.take_succ_cons, List.take_zero, List.map_cons, List.map_nil, Option.getD_some, Bool.not_true, Bool.not_false, if_true, Bool.false_eq_true, if_false, reduceIte, List.length_cons, List.length_nil, ex_iteO, b_addI, b_addS, b_addT, b_addL, b_subI, b_mulI, b_mulS, b_mulL, b_mulT, b_fdv, b_mod, b_pow, e_int, e_str, e_bl, c_eq, c_ne, c_in, c_notin, c_lt, c_ltS, c_le, c_gt, c_ge, t_bl, t_non, t_int, t_tup, t_lst, t_str, s_lst, s_tup, s_str, l_lst, l_tup, l_str, l_int, l_listL, l_listT, l_tupL, l_tupT, m_strip, m_upper, m_count, m_find, z_lst, z_arg, z_tup, z_str, z_rev, i_lst, i_tup, i_str, i_rng, n_non, n_tru, n_fls, decide_eq_true_eq, Opd.v.injEq, at0, at1, at2, at3, at4, at5, ix60, ix61, ix62, ix63, ix64, ix65, Nat.reduceAdd, Nat.zero_add, List.count_cons, List.count_nil, Nat.reduceBEq, beq_self_eq_true, Bool.true_and, Bool.and_true, Bool.and_self, List.count_cons_self, wipeS]
  exact hP _ _ (by omega) (.inl (by omega)) s2
theorem sg_len : SG.length = 68 := by decide +kernel
theorem ll_len : LL.length = 26 := by decide +kernel
theorem len_one (c : Nat) : (⟨#[c]⟩ : Str).length = 1 := rfl
theorem name_ok {k : Nat} {d : D} {P : PK} (h : Sv d) (hP : ∀ z d', 1 ≤ z.length → z.length ≤ 6 → Sv d' → P false (.str z) [d']) : Cl (O (k + 4)) "_law_name" [.io d] P := by
  have hs := sizeLine_eq
  refine cl_ok (d := e_law_name.d) rfl rfl (by decide) ?_
  show Xs (ex (O (k + 3)) b_law_name [.io d, .un, .un]) _
  unfold b_law_name e_law_name
  simp (maxSteps := 4000000) only [Y_ok, Y_ret, Y_rdv, Y_rdn, Y_rds, Y_cnv, Y_cnn, Y_cns, Y_wkv, Y_wkn, Y_wks, Y_var, Xs_nx, Xs_rt, Xs_bk, Xs_ct, Xs_skip, Xs_seq, Xs_ifs, Xs_set, Xs_stv, Xs_stn, Xs_sts, Xs_ret, Xs_rtv, Xs_rtn, Xs_rts, Xs_retN, Xs_exp, Xs_app, Xs_sset, Xs_fr, Y_int, Y_bool, Y_non, Y_str, Y_gl, Y_bin, Y_neg, Y_not, Y_and, Y_or, Y_ite, Y_cmp, Y_chain, Y_is, Y_tup, Y_lst, Y_sub, Y_sli, Y_rev, Y_blt, Y_mth, Y_isi, Y_cal, Y_lc, Y_nil, Y_cons, Y_cnil, Y_ccons, Y_rnil, Y_rcons, T_not, T_and, T_or, T_so, C_no, C_so, P_no, P_so, I_seq, I_rng, has, held, kp, wk, rtS, setS, chg, Slot.val, Opd.fz, List.getElem?_cons_zero, List.getElem?_cons_succ, List.set_cons_zero, List.set_cons_succ, Option.bind_some, Option.map_some, Option.some.injEq, exists_eq_left', exists_eq_left, and_true, true_and, PL.D.int.injEq, PL.D.str.injEq, isiD, srcs, argsO, argO, argS, slotsO, once, back_f, back_t, back_0, List.tail_cons, List.tail_nil, back1, kept, outsE, List.take_succ_cons, List.take_zero, List.map_cons, List.map_nil, Option.getD_some, Bool.not_true, Bool.not_false, if_true, Bool.false_eq_true, if_false, reduceIte, List.length_cons, List.length_nil, ex_iteO, b_addI, b_addS, b_addT, b_addL, b_subI, b_mulI, b_mulS, b_mulL, b_mulT, b_fdv, b_mod, b_pow, e_int, e_str, e_bl, c_eq, c_ne, c_in, c_notin, c_lt, c_ltS, c_le, c_gt, c_ge, t_bl, t_non, t_int, t_tup, t_lst, t_str, s_lst, s_tup, s_str, l_lst, l_tup, l_str, l_int, l_listL, l_listT, l_tupL, l_tupT, m_strip, m_upper, m_count, m_find, z_lst, z_arg, z_tup, z_str, z_rev, i_lst, i_tup, i_str, i_rng, n_non, n_tru, n_fls, decide_eq_true_eq, Opd.v.injEq, at0, at1, at2, at3, at4, at5, ix60, ix61, ix62, ix63, ix64, ix65, Nat.reduceAdd, Nat.zero_add, List.count_cons, List.count_nil, Nat.reduceBEq, beq_self_eq_true, Bool.true_and, Bool.and_true, Bool.and_self, List.count_cons_self, wipeS]
  refine many_ok h (by decide) fun v d' v0 v1 s' => ?_
  simp (maxSteps := 4000000) only [Y_ok, Y_ret, Y_rdv, Y_rdn, Y_rds, Y_cnv, Y_cnn, Y_cns, Y_wkv, Y_wkn, Y_wks, Y_var, Xs_nx, Xs_rt, Xs_bk, Xs_ct, Xs_skip, Xs_seq, Xs_ifs, Xs_set, Xs_stv, Xs_stn, Xs_sts, Xs_ret, Xs_rtv, Xs_rtn, Xs_rts, Xs_retN, Xs_exp, Xs_app, Xs_sset, Xs_fr, Y_int, Y_bool, Y_non, Y_str, Y_gl, Y_bin, Y_neg, Y_not, Y_and, Y_or, Y_ite, Y_cmp, Y_chain, Y_is, Y_tup, Y_lst, Y_sub, Y_sli, Y_rev, Y_blt, Y_mth, Y_isi, Y_cal, Y_lc, Y_nil, Y_cons, Y_cnil, Y_ccons, Y_rnil, Y_rcons, T_not, T_and, T_or, T_so, C_no, C_so, P_no, P_so, I_seq, I_rng, has, held, kp, wk, rtS, setS, chg, Slot.val, Opd.fz, List.getElem?_cons_zero, List.getElem?_cons_succ, List.set_cons_zero, List.set_cons_succ, Option.bind_some, Option.map_some, Option.some.injEq, exists_eq_left', exists_eq_left, and_true, true_and, PL.D.int.injEq, PL.D.str.injEq, isiD, srcs, argsO, argO, argS, slotsO, once, back_f, back_t, back_0, List.tail_cons, List.tail_nil, back1, kept, outsE, List.take_succ_cons, List.take_zero, List.map_cons, List.map_nil, Option.getD_some, Bool.not_true, Bool.not_false, if_true, Bool.false_eq_true, if_false, reduceIte, List.length_cons, List.length_nil, ex_iteO, b_addI, b_addS, b_addT, b_addL, b_subI, b_mulI, b_mulS, b_mulL, b_mulT, b_fdv, b_mod, b_pow, e_int, e_str, e_bl, c_eq, c_ne, c_in, c_notin, c_lt, c_ltS, c_le, c_gt, c_ge, t_bl, t_non, t_int, t_tup, t_lst, t_str, s_lst, s_tup, s_str, l_lst, l_tup, l_str, l_int, l_listL, l_listT, l_tupL, l_tupT, m_strip, m_upper, m_count, m_find, z_lst, z_arg, z_tup, z_str, z_rev, i_lst, i_tup, i_str, i_rng, n_non, n_tru, n_fls, decide_eq_true_eq, Opd.v.injEq, at0, at1, at2, at3, at4, at5, ix60, ix61, ix62, ix63, ix64, ix65, Nat.reduceAdd, Nat.zero_add, List.count_cons, List.count_nil, Nat.reduceBEq, beq_self_eq_true, Bool.true_and, Bool.and_true, Bool.and_self, List.count_cons_self, wipeS]
  refine ⟨⟨by decide, by decide, by omega, by omega⟩, ?_⟩
  refine lp_ok (fun i e => ∃ z d' u, z.length = i ∧ Sv d' ∧ e = [.io d', .fz (.str z), u] ∧ (u = .un ∨ ∃ w, u = .fz w)) ⟨"", d', .un, rfl, s', rfl, .inl rfl⟩ (fun i x e hx hi => ?_) (fun e hi => ?_)
  · obtain ⟨z, d', u, hz, s', rfl, hu⟩ := hi
    have hi6 : i < 6 := by
      have := (List.getElem?_eq_some_iff.mp hx).1
      rw [List.length_map, List.length_range] at this
      omega
    refine ⟨[.io d', .fz (.str z), .fz x], by rcases hu with rfl | ⟨w, rfl⟩ <;> rfl, ?_⟩
    simp (maxSteps := 4000000) only [Y_ok, Y_ret, Y_rdv, Y_rdn, Y_rds, Y_cnv, Y_cnn, Y_cns, Y_wkv, Y_wkn, Y_wks, Y_var, Xs_nx, Xs_rt, Xs_bk, Xs_ct, Xs_skip, Xs_seq, Xs_ifs, Xs_set, Xs_stv, Xs_stn, Xs_sts, Xs_ret, Xs_rtv, Xs_rtn, Xs_rts, Xs_retN, Xs_exp, Xs_app, Xs_sset, Xs_fr, Y_int, Y_bool, Y_non, Y_str, Y_gl, Y_bin, Y_neg, Y_not, Y_and, Y_or, Y_ite, Y_cmp, Y_chain, Y_is, Y_tup, Y_lst, Y_sub, Y_sli, Y_rev, Y_blt, Y_mth, Y_isi, Y_cal, Y_lc, Y_nil, Y_cons, Y_cnil, Y_ccons, Y_rnil, Y_rcons, T_not, T_and, T_or, T_so, C_no, C_so, P_no, P_so, I_seq, I_rng, has, held, kp, wk, rtS, setS, chg, Slot.val, Opd.fz, List.getElem?_cons_zero, List.getElem?_cons_succ, List.set_cons_zero, List.set_cons_succ, Option.bind_some, Option.map_some, Option.some.injEq, exists_eq_left', exists_eq_left, and_true, true_and, PL.D.int.injEq, PL.D.str.injEq, isiD, srcs, argsO, argO, argS, slotsO, once, back_f, back_t, back_0, List.tail_cons, List.tail_nil, back1, kept, outsE, List.take_succ_cons, List.take_zero, List.map_cons, List.map_nil, Option.getD_some, Bool.not_true, Bool.not_false, if_true, Bool.false_eq_true, if_false, reduceIte, List.length_cons, List.length_nil, ex_iteO, b_addI, b_addS, b_addT, b_addL, b_subI, b_mulI, b_mulS, b_mulL, b_mulT, b_fdv, b_mod, b_pow, e_int, e_str, e_bl, c_eq, c_ne, c_in, c_notin, c_lt, c_ltS, c_le, c_gt, c_ge, t_bl, t_non, t_int, t_tup, t_lst, t_str, s_lst, s_tup, s_str, l_lst, l_tup, l_str, l_int, l_listL, l_listT, l_tupL, l_tupT, m_strip, m_upper, m_count, m_find, z_lst, z_arg, z_tup, z_str, z_rev, i_lst, i_tup, i_str, i_rng, n_non, n_tru, n_fls, decide_eq_true_eq, Opd.v.injEq, at0, at1, at2, at3, at4, at5, ix60, ix61, ix62, ix63, ix64, ix65, Nat.reduceAdd, Nat.zero_add, List.count_cons, List.count_nil, Nat.reduceBEq, beq_self_eq_true, Bool.true_and, Bool.and_true, Bool.and_self, List.count_cons_self, wipeS]
    refine letters_ok ?_
    simp (maxSteps := 4000000) only [Y_ok, Y_ret, Y_rdv, Y_rdn, Y_rds, Y_cnv, Y_cnn, Y_cns, Y_wkv, Y_wkn, Y_wks, Y_var, Xs_nx, Xs_rt, Xs_bk, Xs_ct, Xs_skip, Xs_seq, Xs_ifs, Xs_set, Xs_stv, Xs_stn, Xs_sts, Xs_ret, Xs_rtv, Xs_rtn, Xs_rts, Xs_retN, Xs_exp, Xs_app, Xs_sset, Xs_fr, Y_int, Y_bool, Y_non, Y_str, Y_gl, Y_bin, Y_neg, Y_not, Y_and, Y_or, Y_ite, Y_cmp, Y_chain, Y_is, Y_tup, Y_lst, Y_sub, Y_sli, Y_rev, Y_blt, Y_mth, Y_isi, Y_cal, Y_lc, Y_nil, Y_cons, Y_cnil, Y_ccons, Y_rnil, Y_rcons, T_not, T_and, T_or, T_so, C_no, C_so, P_no, P_so, I_seq, I_rng, has, held, kp, wk, rtS, setS, chg, Slot.val, Opd.fz, List.getElem?_cons_zero, List.getElem?_cons_succ, List.set_cons_zero, List.set_cons_succ, Option.bind_some, Option.map_some, Option.some.injEq, exists_eq_left', exists_eq_left, and_true, true_and, PL.D.int.injEq, PL.D.str.injEq, isiD, srcs, argsO, argO, argS, slotsO, once, back_f, back_t, back_0, List.tail_cons, List.tail_nil, back1, kept, outsE, List.take_succ_cons, List.take_zero, List.map_cons, List.map_nil, Option.getD_some, Bool.not_true, Bool.not_false, if_true, Bool.false_eq_true, if_false, reduceIte, List.length_cons, List.length_nil, ex_iteO, b_addI, b_addS, b_addT, b_addL, b_subI, b_mulI, b_mulS, b_mulL, b_mulT, b_fdv, b_mod, b_pow, e_int, e_str, e_bl, c_eq, c_ne, c_in, c_notin, c_lt, c_ltS, c_le, c_gt, c_ge, t_bl, t_non, t_int, t_tup, t_lst, t_str, s_lst, s_tup, s_str, l_lst, l_tup, l_str, l_int, l_listL, l_listT, l_tupL, l_tupT, m_strip, m_upper, m_count, m_find, z_lst, z_arg, z_tup, z_str, z_rev, i_lst, i_tup, i_str, i_rng, n_non, n_tru, n_fls, decide_eq_true_eq, Opd.v.injEq, at0, at1, at2, at3, at4, at5, ix60, ix61, ix62, ix63, ix64, ix65, Nat.reduceAdd, Nat.zero_add, List.count_cons, List.count_nil, Nat.reduceBEq, beq_self_eq_true, Bool.true_and, Bool.and_true, Bool.and_self, List.count_cons_self, wipeS]
    refine pick_ok s' (by rw [ll_len]; decide) (by rw [ll_len]; decide) fun c d2 s2 => ?_
    simp (maxSteps := 4000000) only [Y_ok, Y_ret, Y_rdv, Y_rdn, Y_rds, Y_cnv, Y_cnn, Y_cns, Y_wkv, Y_wkn, Y_wks, Y_var, Xs_nx, Xs_rt, Xs_bk, Xs_ct, Xs_skip, Xs_seq, Xs_ifs, Xs_set, Xs_stv, Xs_stn, Xs_sts, Xs_ret, Xs_rtv, Xs_rtn, Xs_rts, Xs_retN, Xs_exp, Xs_app, Xs_sset, Xs_fr, Y_int, Y_bool, Y_non, Y_str, Y_gl, Y_bin, Y_neg, Y_not, Y_and, Y_or, Y_ite, Y_cmp, Y_chain, Y_is, Y_tup, Y_lst, Y_sub, Y_sli, Y_rev, Y_blt, Y_mth, Y_isi, Y_cal, Y_lc, Y_nil, Y_cons, Y_cnil, Y_ccons, Y_rnil, Y_rcons, T_not, T_and, T_or, T_so, C_no, C_so, P_no, P_so, I_seq, I_rng, has, held, kp, wk, rtS, setS, chg, Slot.val, Opd.fz, List.getElem?_cons_zero, List.getElem?_cons_succ, List.set_cons_zero, List.set_cons_succ, Option.bind_some, Option.map_some, Option.some.injEq, exists_eq_left', exists_eq_left, and_true, true_and, PL.D.int.injEq, PL.D.str.injEq, isiD, srcs, argsO, argO, argS, slotsO, once, back_f, back_t, back_0, List.tail_cons, List.tail_nil, back1, kept, outsE, List.take_succ_cons, List.take_zero, List.map_cons, List.map_nil, Option.getD_some, Bool.not_true, Bool.not_false, if_true, Bool.false_eq_true, if_false, reduceIte, List.length_cons, List.length_nil, ex_iteO, b_addI, b_addS, b_addT, b_addL, b_subI, b_mulI, b_mulS, b_mulL, b_mulT, b_fdv, b_mod, b_pow, e_int, e_str, e_bl, c_eq, c_ne, c_in, c_notin, c_lt, c_ltS, c_le, c_gt, c_ge, t_bl, t_non, t_int, t_tup, t_lst, t_str, s_lst, s_tup, s_str, l_lst, l_tup, l_str, l_int, l_listL, l_listT, l_tupL, l_tupT, m_strip, m_upper, m_count, m_find, z_lst, z_arg, z_tup, z_str, z_rev, i_lst, i_tup, i_str, i_rng, n_non, n_tru, n_fls, decide_eq_true_eq, Opd.v.injEq, at0, at1, at2, at3, at4, at5, ix60, ix61, ix62, ix63, ix64, ix65, Nat.reduceAdd, Nat.zero_add, List.count_cons, List.count_nil, Nat.reduceBEq, beq_self_eq_true, Bool.true_and, Bool.and_true, Bool.and_self, List.count_cons_self, wipeS]
    refine ⟨by rw [len_one]; omega, ?_⟩
    exact ⟨_, d2, _, by rw [PySem.Str.length_append, len_one, hz], s2, rfl, .inr ⟨_, rfl⟩⟩
  · obtain ⟨z, d', u, hz, s', rfl, hu⟩ := hi
    rw [List.length_map, List.length_range] at hz
    simp (maxSteps := 4000000) only [Y_ok, Y_ret, Y_rdv, Y_rdn, Y_rds, Y_cnv, Y_cnn, Y_cns, Y_wkv, Y_wkn, Y_wks, Y_var, Xs_nx, Xs_rt, Xs_bk, Xs_ct, Xs_skip, Xs_seq, Xs_ifs, Xs_set, Xs_stv, Xs_stn, Xs_sts, Xs_ret, Xs_rtv, Xs_rtn, Xs_rts, Xs_retN, Xs_exp, Xs_app, Xs_sset, Xs_fr, Y_int, Y_bool, Y_non, Y_str, Y_gl, Y_bin, Y_neg, Y_not, Y_and, Y_or, Y_ite, Y_cmp, Y_chain, Y_is, Y_tup, Y_lst, Y_sub, Y_sli, Y_rev, Y_blt, Y_mth, Y_isi, Y_cal, Y_lc, Y_nil, Y_cons, Y_cnil, Y_ccons, Y_rnil, Y_rcons, T_not, T_and, T_or, T_so, C_no, C_so, P_no, P_so, I_seq, I_rng, has, held, kp, wk, rtS, setS, chg, Slot.val, Opd.fz, List.getElem?_cons_zero, List.getElem?_cons_succ, List.set_cons_zero, List.set_cons_succ, Option.bind_some, Option.map_some, Option.some.injEq, exists_eq_left', exists_eq_left, and_true, true_and, PL.D.int.injEq, PL.D.str.injEq, isiD, srcs, argsO, argO, argS, slotsO, once, back_f, back_t, back_0, List.tail_cons, List.tail_nil, back1, kept, outsE, List.take_succ_cons, List.take_zero, List.map_cons, List.map_nil, Option.getD_some, Bool.not_true, Bool.not_false, if_true, Bool.false_eq_true, if_false, reduceIte, List.length_cons, List.length_nil, ex_iteO, b_addI, b_addS, b_addT, b_addL, b_subI, b_mulI, b_mulS, b_mulL, b_mulT, b_fdv, b_mod, b_pow, e_int, e_str, e_bl, c_eq, c_ne, c_in, c_notin, c_lt, c_ltS, c_le, c_gt, c_ge, t_bl, t_non, t_int, t_tup, t_lst, t_str, s_lst, s_tup, s_str, l_lst, l_tup, l_str, l_int, l_listL, l_listT, l_tupL, l_tupT, m_strip, m_upper, m_count, m_find, z_lst, z_arg, z_tup, z_str, z_rev, i_lst, i_tup, i_str, i_rng, n_non, n_tru, n_fls, decide_eq_true_eq, Opd.v.injEq, at0, at1, at2, at3, at4, at5, ix60, ix61, ix62, ix63, ix64, ix65, Nat.reduceAdd, Nat.zero_add, List.count_cons, List.count_nil, Nat.reduceBEq, beq_self_eq_true, Bool.true_and, Bool.and_true, Bool.and_self, List.count_cons_self, wipeS]
    exact hP z d' (by omega) (by omega) s'
end K00
namespace K00
open PL L2 PySem PySem.Spec PyProof.Rows
theorem mul_len (x : Str) {n : Int} (h : 0 ≤ n) : ((Txt.mul x n).length : Int) = x.length * n := by
  rw [len_mul, if_neg (by simpa using h)]
theorem bad_ok {k : Nat} {d : D} {P : PK} (h : Sv d) (hP : ∀ z d', z.length ≤ 1000 → Sv d' → P false (.str z) [d']) : Cl (O (k + 5)) "_law_bad_place" [.io d] P := by
  have hs := sizeLine_eq
  refine cl_ok (d := e_law_bad_place.d) rfl rfl (by decide) ?_
  show Xs (ex (O (k + 4)) b_law_bad_place [.io d, .un, .un, .un, .un]) _
  unfold b_law_bad_place e_law_bad_place
  simp (maxSteps := 4000000) only [Y_ok, Y_ret, Y_rdv, Y_rdn, Y_rds, Y_cnv, Y_cnn, Y_cns, Y_wkv, Y_wkn, Y_wks, Y_var, Xs_nx, Xs_rt, Xs_bk, Xs_ct, Xs_skip, Xs_seq, Xs_ifs, Xs_set, Xs_stv, Xs_stn, Xs_sts, Xs_ret, Xs_rtv, Xs_rtn, Xs_rts, Xs_retN, Xs_exp, Xs_app, Xs_sset, Xs_fr, Y_int, Y_bool, Y_non, Y_str, Y_gl, Y_bin, Y_neg, Y_not, Y_and, Y_or, Y_ite, Y_cmp, Y_chain, Y_is, Y_tup, Y_lst, Y_sub, Y_sli, Y_rev, Y_blt, Y_mth, Y_isi, Y_cal, Y_lc, Y_nil, Y_cons, Y_cnil, Y_ccons, Y_rnil, Y_rcons, T_not, T_and, T_or, T_so, C_no, C_so, P_no, P_so, I_seq, I_rng, has, held, kp, wk, rtS, setS, chg, Slot.val, Opd.fz, List.getElem?_cons_zero, List.getElem?_cons_succ, List.set_cons_zero, List.set_cons_succ, Option.bind_some, Option.map_some, Option.some.injEq, exists_eq_left', exists_eq_left, and_true, true_and, PL.D.int.injEq, PL.D.str.injEq, isiD, srcs, argsO, argO, argS, slotsO, once, back_f, back_t, back_0, List.tail_cons, List.tail_nil, back1, kept, outsE, List.take_succ_cons, List.take_zero, List.map_cons, List.map_nil, Option.getD_some, Bool.not_true, Bool.not_false, if_true, Bool.false_eq_true, if_false, reduceIte, List.length_cons, List.length_nil, ex_iteO, b_addI, b_addS, b_addT, b_addL, b_subI, b_mulI, b_mulS, b_mulL, b_mulT, b_fdv, b_mod, b_pow, e_int, e_str, e_bl, c_eq, c_ne, c_in, c_notin, c_lt, c_ltS, c_le, c_gt, c_ge, t_bl, t_non, t_int, t_tup, t_lst, t_str, s_lst, s_tup, s_str, l_lst, l_tup, l_str, l_int, l_listL, l_listT, l_tupL, l_tupT, m_strip, m_upper, m_count, m_find, z_lst, z_arg, z_tup, z_str, z_rev, i_lst, i_tup, i_str, i_rng, n_non, n_tru, n_fls, decide_eq_true_eq, Opd.v.injEq, at0, at1, at2, at3, at4, at5, ix60, ix61, ix62, ix63, ix64, ix65, Nat.reduceAdd, Nat.zero_add, List.count_cons, List.count_nil, Nat.reduceBEq, beq_self_eq_true, Bool.true_and, Bool.and_true, Bool.and_self, List.count_cons_self, wipeS]
  refine name_ok h fun z d h1 h2 h => ?_
  simp (maxSteps := 4000000) only [Y_ok, Y_ret, Y_rdv, Y_rdn, Y_rds, Y_cnv, Y_cnn, Y_cns, Y_wkv, Y_wkn, Y_wks, Y_var, Xs_nx, Xs_rt, Xs_bk, Xs_ct, Xs_skip, Xs_seq, Xs_ifs, Xs_set, Xs_stv, Xs_stn, Xs_sts, Xs_ret, Xs_rtv, Xs_rtn, Xs_rts, Xs_retN, Xs_exp, Xs_app, Xs_sset, Xs_fr, Y_int, Y_bool, Y_non, Y_str, Y_gl, Y_bin, Y_neg, Y_not, Y_and, Y_or, Y_ite, Y_cmp, Y_chain, Y_is, Y_tup, Y_lst, Y_sub, Y_sli, Y_rev, Y_blt, Y_mth, Y_isi, Y_cal, Y_lc, Y_nil, Y_cons, Y_cnil, Y_ccons, Y_rnil, Y_rcons, T_not, T_and, T_or, T_so, C_no, C_so, P_no, P_so, I_seq, I_rng, has, held, kp, wk, rtS, setS, chg, Slot.val, Opd.fz, List.getElem?_cons_zero, List.getElem?_cons_succ, List.set_cons_zero, List.set_cons_succ, Option.bind_some, Option.map_some, Option.some.injEq, exists_eq_left', exists_eq_left, and_true, true_and, PL.D.int.injEq, PL.D.str.injEq, isiD, srcs, argsO, argO, argS, slotsO, once, back_f, back_t, back_0, List.tail_cons, List.tail_nil, back1, kept, outsE, List.take_succ_cons, List.take_zero, List.map_cons, List.map_nil, Option.getD_some, Bool.not_true, Bool.not_false, if_true, Bool.false_eq_true, if_false, reduceIte, List.length_cons, List.length_nil, ex_iteO, b_addI, b_addS, b_addT, b_addL, b_subI, b_mulI, b_mulS, b_mulL, b_mulT, b_fdv, b_mod, b_pow, e_int, e_str, e_bl, c_eq, c_ne, c_in, c_notin, c_lt, c_ltS, c_le, c_gt, c_ge, t_bl, t_non, t_int, t_tup, t_lst, t_str, s_lst, s_tup, s_str, l_lst, l_tup, l_str, l_int, l_listL, l_listT, l_tupL, l_tupT, m_strip, m_upper, m_count, m_find, z_lst, z_arg, z_tup, z_str, z_rev, i_lst, i_tup, i_str, i_rng, n_non, n_tru, n_fls, decide_eq_true_eq, Opd.v.injEq, at0, at1, at2, at3, at4, at5, ix60, ix61, ix62, ix63, ix64, ix65, Nat.reduceAdd, Nat.zero_add, List.count_cons, List.count_nil, Nat.reduceBEq, beq_self_eq_true, Bool.true_and, Bool.and_true, Bool.and_self, List.count_cons_self, wipeS]
  refine take' h (by decide) fun kind d _ _ h => ?_
  simp (maxSteps := 4000000) only [Y_ok, Y_ret, Y_rdv, Y_rdn, Y_rds, Y_cnv, Y_cnn, Y_cns, Y_wkv, Y_wkn, Y_wks, Y_var, Xs_nx, Xs_rt, Xs_bk, Xs_ct, Xs_skip, Xs_seq, Xs_ifs, Xs_set, Xs_stv, Xs_stn, Xs_sts, Xs_ret, Xs_rtv, Xs_rtn, Xs_rts, Xs_retN, Xs_exp, Xs_app, Xs_sset, Xs_fr, Y_int, Y_bool, Y_non, Y_str, Y_gl, Y_bin, Y_neg, Y_not, Y_and, Y_or, Y_ite, Y_cmp, Y_chain, Y_is, Y_tup, Y_lst, Y_sub, Y_sli, Y_rev, Y_blt, Y_mth, Y_isi, Y_cal, Y_lc, Y_nil, Y_cons, Y_cnil, Y_ccons, Y_rnil, Y_rcons, T_not, T_and, T_or, T_so, C_no, C_so, P_no, P_so, I_seq, I_rng, has, held, kp, wk, rtS, setS, chg, Slot.val, Opd.fz, List.getElem?_cons_zero, List.getElem?_cons_succ, List.set_cons_zero, List.set_cons_succ, Option.bind_some, Option.map_some, Option.some.injEq, exists_eq_left', exists_eq_left, and_true, true_and, PL.D.int.injEq, PL.D.str.injEq, isiD, srcs, argsO, argO, argS, slotsO, once, back_f, back_t, back_0, List.tail_cons, List.tail_nil, back1, kept, outsE, List.take_succ_cons, List.take_zero, List.map_cons, List.map_nil, Option.getD_some, Bool.not_true, Bool.not_false, if_true, Bool.false_eq_true, if_false, reduceIte, List.length_cons, List.length_nil, ex_iteO, b_addI, b_addS, b_addT, b_addL, b_subI, b_mulI, b_mulS, b_mulL, b_mulT, b_fdv, b_mod, b_pow, e_int, e_str, e_bl, c_eq, c_ne, c_in, c_notin, c_lt, c_ltS, c_le, c_gt, c_ge, t_bl, t_non, t_int, t_tup, t_lst, t_str, s_lst, s_tup, s_str, l_lst, l_tup, l_str, l_int, l_listL, l_listT, l_tupL, l_tupT, m_strip, m_upper, m_count, m_find, z_lst, z_arg, z_tup, z_str, z_rev, i_lst, i_tup, i_str, i_rng, n_non, n_tru, n_fls, decide_eq_true_eq, Opd.v.injEq, at0, at1, at2, at3, at4, at5, ix60, ix61, ix62, ix63, ix64, ix65, Nat.reduceAdd, Nat.zero_add, List.count_cons, List.count_nil, Nat.reduceBEq, beq_self_eq_true, Bool.true_and, Bool.and_true, Bool.and_self, List.count_cons_self, wipeS]
  refine ⟨by omega, take' h (by omega) fun at_ d a0 a1 h => ?_⟩
  simp (maxSteps := 4000000) only [Y_ok, Y_ret, Y_rdv, Y_rdn, Y_rds, Y_cnv, Y_cnn, Y_cns, Y_wkv, Y_wkn, Y_wks, Y_var, Xs_nx, Xs_rt, Xs_bk, Xs_ct, Xs_skip, Xs_seq, Xs_ifs, Xs_set, Xs_stv, Xs_stn, Xs_sts, Xs_ret, Xs_rtv, Xs_rtn, Xs_rts, Xs_retN, Xs_exp, Xs_app, Xs_sset, Xs_fr, Y_int, Y_bool, Y_non, Y_str, Y_gl, Y_bin, Y_neg, Y_not, Y_and, Y_or, Y_ite, Y_cmp, Y_chain, Y_is, Y_tup, Y_lst, Y_sub, Y_sli, Y_rev, Y_blt, Y_mth, Y_isi, Y_cal, Y_lc, Y_nil, Y_cons, Y_cnil, Y_ccons, Y_rnil, Y_rcons, T_not, T_and, T_or, T_so, C_no, C_so, P_no, P_so, I_seq, I_rng, has, held, kp, wk, rtS, setS, chg, Slot.val, Opd.fz, List.getElem?_cons_zero, List.getElem?_cons_succ, List.set_cons_zero, List.set_cons_succ, Option.bind_some, Option.map_some, Option.some.injEq, exists_eq_left', exists_eq_left, and_true, true_and, PL.D.int.injEq, PL.D.str.injEq, isiD, srcs, argsO, argO, argS, slotsO, once, back_f, back_t, back_0, List.tail_cons, List.tail_nil, back1, kept, outsE, List.take_succ_cons, List.take_zero, List.map_cons, List.map_nil, Option.getD_some, Bool.not_true, Bool.not_false, if_true, Bool.false_eq_true, if_false, reduceIte, List.length_cons, List.length_nil, ex_iteO, b_addI, b_addS, b_addT, b_addL, b_subI, b_mulI, b_mulS, b_mulL, b_mulT, b_fdv, b_mod, b_pow, e_int, e_str, e_bl, c_eq, c_ne, c_in, c_notin, c_lt, c_ltS, c_le, c_gt, c_ge, t_bl, t_non, t_int, t_tup, t_lst, t_str, s_lst, s_tup, s_str, l_lst, l_tup, l_str, l_int, l_listL, l_listT, l_tupL, l_tupT, m_strip, m_upper, m_count, m_find, z_lst, z_arg, z_tup, z_str, z_rev, i_lst, i_tup, i_str, i_rng, n_non, n_tru, n_fls, decide_eq_true_eq, Opd.v.injEq, at0, at1, at2, at3, at4, at5, ix60, ix61, ix62, ix63, ix64, ix65, Nat.reduceAdd, Nat.zero_add, List.count_cons, List.count_nil, Nat.reduceBEq, beq_self_eq_true, Bool.true_and, Bool.and_true, Bool.and_self, List.count_cons_self, wipeS]
  refine signs_ok ?_
  simp (maxSteps := 4000000) only [Y_ok, Y_ret, Y_rdv, Y_rdn, Y_rds, Y_cnv, Y_cnn, Y_cns, Y_wkv, Y_wkn, Y_wks, Y_var, Xs_nx, Xs_rt, Xs_bk, Xs_ct, Xs_skip, Xs_seq, Xs_ifs, Xs_set, Xs_stv, Xs_stn, Xs_sts, Xs_ret, Xs_rtv, Xs_rtn, Xs_rts, Xs_retN, Xs_exp, Xs_app, Xs_sset, Xs_fr, Y_int, Y_bool, Y_non, Y_str, Y_gl, Y_bin, Y_neg, Y_not, Y_and, Y_or, Y_ite, Y_cmp, Y_chain, Y_is, Y_tup, Y_lst, Y_sub, Y_sli, Y_rev, Y_blt, Y_mth, Y_isi, Y_cal, Y_lc, Y_nil, Y_cons, Y_cnil, Y_ccons, Y_rnil, Y_rcons, T_not, T_and, T_or, T_so, C_no, C_so, P_no, P_so, I_seq, I_rng, has, held, kp, wk, rtS, setS, chg, Slot.val, Opd.fz, List.getElem?_cons_zero, List.getElem?_cons_succ, List.set_cons_zero, List.set_cons_succ, Option.bind_some, Option.map_some, Option.some.injEq, exists_eq_left', exists_eq_left, and_true, true_and, PL.D.int.injEq, PL.D.str.injEq, isiD, srcs, argsO, argO, argS, slotsO, once, back_f, back_t, back_0, List.tail_cons, List.tail_nil, back1, kept, outsE, List.take_succ_cons, List.take_zero, List.map_cons, List.map_nil, Option.getD_some, Bool.not_true, Bool.not_false, if_true, Bool.false_eq_true, if_false, reduceIte, List.length_cons, List.length_nil, ex_iteO, b_addI, b_addS, b_addT, b_addL, b_subI, b_mulI, b_mulS, b_mulL, b_mulT, b_fdv, b_mod, b_pow, e_int, e_str, e_bl, c_eq, c_ne, c_in, c_notin, c_lt, c_ltS, c_le, c_gt, c_ge, t_bl, t_non, t_int, t_tup, t_lst, t_str, s_lst, s_tup, s_str, l_lst, l_tup, l_str, l_int, l_listL, l_listT, l_tupL, l_tupT, m_strip, m_upper, m_count, m_find, z_lst, z_arg, z_tup, z_str, z_rev, i_lst, i_tup, i_str, i_rng, n_non, n_tru, n_fls, decide_eq_true_eq, Opd.v.injEq, at0, at1, at2, at3, at4, at5, ix60, ix61, ix62, ix63, ix64, ix65, Nat.reduceAdd, Nat.zero_add, List.count_cons, List.count_nil, Nat.reduceBEq, beq_self_eq_true, Bool.true_and, Bool.and_true, Bool.and_self, List.count_cons_self, wipeS]
  refine pick_ok h (by rw [sg_len]; decide) (by rw [sg_len]; decide) fun sign d h => ?_
  simp (maxSteps := 4000000) only [Y_ok, Y_ret, Y_rdv, Y_rdn, Y_rds, Y_cnv, Y_cnn, Y_cns, Y_wkv, Y_wkn, Y_wks, Y_var, Xs_nx, Xs_rt, Xs_bk, Xs_ct, Xs_skip, Xs_seq, Xs_ifs, Xs_set, Xs_stv, Xs_stn, Xs_sts, Xs_ret, Xs_rtv, Xs_rtn, Xs_rts, Xs_retN, Xs_exp, Xs_app, Xs_sset, Xs_fr, Y_int, Y_bool, Y_non, Y_str, Y_gl, Y_bin, Y_neg, Y_not, Y_and, Y_or, Y_ite, Y_cmp, Y_chain, Y_is, Y_tup, Y_lst, Y_sub, Y_sli, Y_rev, Y_blt, Y_mth, Y_isi, Y_cal, Y_lc, Y_nil, Y_cons, Y_cnil, Y_ccons, Y_rnil, Y_rcons, T_not, T_and, T_or, T_so, C_no, C_so, P_no, P_so, I_seq, I_rng, has, held, kp, wk, rtS, setS, chg, Slot.val, Opd.fz, List.getElem?_cons_zero, List.getElem?_cons_succ, List.set_cons_zero, List.set_cons_succ, Option.bind_some, Option.map_some, Option.some.injEq, exists_eq_left', exists_eq_left, and_true, true_and, PL.D.int.injEq, PL.D.str.injEq, isiD, srcs, argsO, argO, argS, slotsO, once, back_f, back_t, back_0, List.tail_cons, List.tail_nil, back1, kept, outsE, List.take_succ_cons, List.take_zero, List.map_cons, List.map_nil, Option.getD_some, Bool.not_true, Bool.not_false, if_true, Bool.false_eq_true, if_false, reduceIte, List.length_cons, List.length_nil, ex_iteO, b_addI, b_addS, b_addT, b_addL, b_subI, b_mulI, b_mulS, b_mulL, b_mulT, b_fdv, b_mod, b_pow, e_int, e_str, e_bl, c_eq, c_ne, c_in, c_notin, c_lt, c_ltS, c_le, c_gt, c_ge, t_bl, t_non, t_int, t_tup, t_lst, t_str, s_lst, s_tup, s_str, l_lst, l_tup, l_str, l_int, l_listL, l_listT, l_tupL, l_tupT, m_strip, m_upper, m_count, m_find, z_lst, z_arg, z_tup, z_str, z_rev, i_lst, i_tup, i_str, i_rng, n_non, n_tru, n_fls, decide_eq_true_eq, Opd.v.injEq, at0, at1, at2, at3, at4, at5, ix60, ix61, ix62, ix63, ix64, ix65, Nat.reduceAdd, Nat.zero_add, List.count_cons, List.count_nil, Nat.reduceBEq, beq_self_eq_true, Bool.true_and, Bool.and_true, Bool.and_self, List.count_cons_self, wipeS]
  have l1 := len_one sign
  have ha : at_ < z.length := by omega
  have c1 : ∀ lo hi, (cutS z lo hi).length ≤ z.length := fun lo hi => cutS_length z lo hi
  have c2 := c1 none (some at_)
  have c3 := c1 (some at_) none
  have c4 := c1 (some (at_ + 1)) none
  have lsp : ((" " : Str)).length = 1 := by decide +kernel
  refine ite_i (fun _ => hP _ _ (by decide +kernel) h) fun _ => ite_i (fun _ => ?_) fun _ => ite_i (fun _ => ?_) fun _ => ite_i (fun _ => ?_) fun _ => ite_i (fun _ => ?_) fun _ => ?_
  · refine ⟨⟨by decide, by decide, by omega⟩, ?_⟩
    refine take' h (by decide) fun j d _ _ h => ?_
    simp (maxSteps := 4000000) only [Y_ok, Y_ret, Y_rdv, Y_rdn, Y_rds, Y_cnv, Y_cnn, Y_cns, Y_wkv, Y_wkn, Y_wks, Y_var, Xs_nx, Xs_rt, Xs_bk, Xs_ct, Xs_skip, Xs_seq, Xs_ifs, Xs_set, Xs_stv, Xs_stn, Xs_sts, Xs_ret, Xs_rtv, Xs_rtn, Xs_rts, Xs_retN, Xs_exp, Xs_app, Xs_sset, Xs_fr, Y_int, Y_bool, Y_non, Y_str, Y_gl, Y_bin, Y_neg, Y_not, Y_and, Y_or, Y_ite, Y_cmp, Y_chain, Y_is, Y_tup, Y_lst, Y_sub, Y_sli, Y_rev, Y_blt, Y_mth, Y_isi, Y_cal, Y_lc, Y_nil, Y_cons, Y_cnil, Y_ccons, Y_rnil, Y_rcons, T_not, T_and, T_or, T_so, C_no, C_so, P_no, P_so, I_seq, I_rng, has, held, kp, wk, rtS, setS, chg, Slot.val, Opd.fz, List.getElem?_cons_zero, List.getElem?_cons_succ, List.set_cons_zero, List.set_cons_succ, Option.bind_some, Option.map_some, Option.some.injEq, exists_eq_left', exists_eq_left, and_true, true_and, PL.D.int.injEq, PL.D.str.injEq, isiD, srcs, argsO, argO, argS, slotsO, once, back_f, back_t, back_0, List.tail_cons, List.tail_nil, back1, kept, outsE, List.take_succ_cons, List.take_zero, List.map_cons, List.map_nil, Option.getD_some, Bool.not_true, Bool.not_false, if_true, Bool.false_eq_true, if_false, reduceIte, List.length_cons, List.length_nil, ex_iteO, b_addI, b_addS, b_addT, b_addL, b_subI, b_mulI, b_mulS, b_mulL, b_mulT, b_fdv, b_mod, b_pow, e_int, e_str, e_bl, c_eq, c_ne, c_in, c_notin, c_lt, c_ltS, c_le, c_gt, c_ge, t_bl, t_non, t_int, t_tup, t_lst, t_str, s_lst, s_tup, s_str, l_lst, l_tup, l_str, l_int, l_listL, l_listT, l_tupL, l_tupT, m_strip, m_upper, m_count, m_find, z_lst, z_arg, z_tup, z_str, z_rev, i_lst, i_tup, i_str, i_rng, n_non, n_tru, n_fls, decide_eq_true_eq, Opd.v.injEq, at0, at1, at2, at3, at4, at5, ix60, ix61, ix62, ix63, ix64, ix65, Nat.reduceAdd, Nat.zero_add, List.count_cons, List.count_nil, Nat.reduceBEq, beq_self_eq_true, Bool.true_and, Bool.and_true, Bool.and_self, List.count_cons_self, wipeS]
    have m1 := mul_len z (n := 12) (by decide)
    refine ⟨by omega, hP _ _ ?_ h⟩
    have := cutS_length (Txt.mul z 12) none (some (7 + j))
    omega
  · obtain ⟨c, e⟩ := char_at (z := z) a0 ha
    rw [e]
    have l2 := len_one c
    have u1 := len_upper ⟨#[c]⟩
    simp (maxSteps := 4000000) only [Y_ok, Y_ret, Y_rdv, Y_rdn, Y_rds, Y_cnv, Y_cnn, Y_cns, Y_wkv, Y_wkn, Y_wks, Y_var, Xs_nx, Xs_rt, Xs_bk, Xs_ct, Xs_skip, Xs_seq, Xs_ifs, Xs_set, Xs_stv, Xs_stn, Xs_sts, Xs_ret, Xs_rtv, Xs_rtn, Xs_rts, Xs_retN, Xs_exp, Xs_app, Xs_sset, Xs_fr, Y_int, Y_bool, Y_non, Y_str, Y_gl, Y_bin, Y_neg, Y_not, Y_and, Y_or, Y_ite, Y_cmp, Y_chain, Y_is, Y_tup, Y_lst, Y_sub, Y_sli, Y_rev, Y_blt, Y_mth, Y_isi, Y_cal, Y_lc, Y_nil, Y_cons, Y_cnil, Y_ccons, Y_rnil, Y_rcons, T_not, T_and, T_or, T_so, C_no, C_so, P_no, P_so, I_seq, I_rng, has, held, kp, wk, rtS, setS, chg, Slot.val, Opd.fz, List.getElem?_cons_zero, List.getElem?_cons_succ, List.set_cons_zero, List.set_cons_succ, Option.bind_some, Option.map_some, Option.some.injEq, exists_eq_left', exists_eq_left, and_true, true_and, PL.D.int.injEq, PL.D.str.injEq, isiD, srcs, argsO, argO, argS, slotsO, once, back_f, back_t, back_0, List.tail_cons, List.tail_nil, back1, kept, outsE, List.take_succ_cons, List.take_zero, List.map_cons, List.map_nil, Option.getD_some, Bool.not_true, Bool.not_false, if_true, Bool.false_eq_true, if_false, reduceIte, List.length_cons, List.length_nil, ex_iteO, b_addI, b_addS, b_addT, b_addL, b_subI, b_mulI, b_mulS, b_mulL, b_mulT, b_fdv, b_mod, b_pow, e_int, e_str, e_bl, c_eq, c_ne, c_in, c_notin, c_lt, c_ltS, c_le, c_gt, c_ge, t_bl, t_non, t_int, t_tup, t_lst, t_str, s_lst, s_tup, s_str, l_lst, l_tup, l_str, l_int, l_listL, l_listT, l_tupL, l_tupT, m_strip, m_upper, m_count, m_find, z_lst, z_arg, z_tup, z_str, z_rev, i_lst, i_tup, i_str, i_rng, n_non, n_tru, n_fls, decide_eq_true_eq, Opd.v.injEq, at0, at1, at2, at3, at4, at5, ix60, ix61, ix62, ix63, ix64, ix65, Nat.reduceAdd, Nat.zero_add, List.count_cons, List.count_nil, Nat.reduceBEq, beq_self_eq_true, Bool.true_and, Bool.and_true, Bool.and_self, List.count_cons_self, wipeS]
    refine ⟨by omega, by omega, by omega, by omega, by omega, ?_, hP _ _ ?_ h⟩
    · rw [PySem.Str.length_append]; omega
    · rw [PySem.Str.length_append, PySem.Str.length_append]; omega
  · refine ⟨by omega, by omega, by decide, ?_⟩
    refine take' h (by decide) fun j d j0 j1 h => ?_
    simp (maxSteps := 4000000) only [Y_ok, Y_ret, Y_rdv, Y_rdn, Y_rds, Y_cnv, Y_cnn, Y_cns, Y_wkv, Y_wkn, Y_wks, Y_var, Xs_nx, Xs_rt, Xs_bk, Xs_ct, Xs_skip, Xs_seq, Xs_ifs, Xs_set, Xs_stv, Xs_stn, Xs_sts, Xs_ret, Xs_rtv, Xs_rtn, Xs_rts, Xs_retN, Xs_exp, Xs_app, Xs_sset, Xs_fr, Y_int, Y_bool, Y_non, Y_str, Y_gl, Y_bin, Y_neg, Y_not, Y_and, Y_or, Y_ite, Y_cmp, Y_chain, Y_is, Y_tup, Y_lst, Y_sub, Y_sli, Y_rev, Y_blt, Y_mth, Y_isi, Y_cal, Y_lc, Y_nil, Y_cons, Y_cnil, Y_ccons, Y_rnil, Y_rcons, T_not, T_and, T_or, T_so, C_no, C_so, P_no, P_so, I_seq, I_rng, has, held, kp, wk, rtS, setS, chg, Slot.val, Opd.fz, List.getElem?_cons_zero, List.getElem?_cons_succ, List.set_cons_zero, List.set_cons_succ, Option.bind_some, Option.map_some, Option.some.injEq, exists_eq_left', exists_eq_left, and_true, true_and, PL.D.int.injEq, PL.D.str.injEq, isiD, srcs, argsO, argO, argS, slotsO, once, back_f, back_t, back_0, List.tail_cons, List.tail_nil, back1, kept, outsE, List.take_succ_cons, List.take_zero, List.map_cons, List.map_nil, Option.getD_some, Bool.not_true, Bool.not_false, if_true, Bool.false_eq_true, if_false, reduceIte, List.length_cons, List.length_nil, ex_iteO, b_addI, b_addS, b_addT, b_addL, b_subI, b_mulI, b_mulS, b_mulL, b_mulT, b_fdv, b_mod, b_pow, e_int, e_str, e_bl, c_eq, c_ne, c_in, c_notin, c_lt, c_ltS, c_le, c_gt, c_ge, t_bl, t_non, t_int, t_tup, t_lst, t_str, s_lst, s_tup, s_str, l_lst, l_tup, l_str, l_int, l_listL, l_listT, l_tupL, l_tupT, m_strip, m_upper, m_count, m_find, z_lst, z_arg, z_tup, z_str, z_rev, i_lst, i_tup, i_str, i_rng, n_non, n_tru, n_fls, decide_eq_true_eq, Opd.v.injEq, at0, at1, at2, at3, at4, at5, ix60, ix61, ix62, ix63, ix64, ix65, Nat.reduceAdd, Nat.zero_add, List.count_cons, List.count_nil, Nat.reduceBEq, beq_self_eq_true, Bool.true_and, Bool.and_true, Bool.and_self, List.count_cons_self, wipeS]
    have hj : j = 0 ∨ j = 1 := by omega
    rcases hj with rfl | rfl
    · simp (maxSteps := 4000000) only [Y_ok, Y_ret, Y_rdv, Y_rdn, Y_rds, Y_cnv, Y_cnn, Y_cns, Y_wkv, Y_wkn, Y_wks, Y_var, Xs_nx, Xs_rt, Xs_bk, Xs_ct, Xs_skip, Xs_seq, Xs_ifs, Xs_set, Xs_stv, Xs_stn, Xs_sts, Xs_ret, Xs_rtv, Xs_rtn, Xs_rts, Xs_retN, Xs_exp, Xs_app, Xs_sset, Xs_fr, Y_int, Y_bool, Y_non, Y_str, Y_gl, Y_bin, Y_neg, Y_not, Y_and, Y_or, Y_ite, Y_cmp, Y_chain, Y_is, Y_tup, Y_lst, Y_sub, Y_sli, Y_rev, Y_blt, Y_mth, Y_isi, Y_cal, Y_lc, Y_nil, Y_cons, Y_cnil, Y_ccons, Y_rnil, Y_rcons, T_not, T_and, T_or, T_so, C_no, C_so, P_no, P_so, I_seq, I_rng, has, held, kp, wk, rtS, setS, chg, Slot.val, Opd.fz, List.getElem?_cons_zero, List.getElem?_cons_succ, List.set_cons_zero, List.set_cons_succ, Option.bind_some, Option.map_some, Option.some.injEq, exists_eq_left', exists_eq_left, and_true, true_and, PL.D.int.injEq, PL.D.str.injEq, isiD, srcs, argsO, argO, argS, slotsO, once, back_f, back_t, back_0, List.tail_cons, List.tail_nil, back1, kept, outsE, List.take_succ_cons, List.take_zero, List.map_cons, List.map_nil, Option.getD_some, Bool.not_true, Bool.not_false, if_true, Bool.false_eq_true, if_false, reduceIte, List.length_cons, List.length_nil, ex_iteO, b_addI, b_addS, b_addT, b_addL, b_subI, b_mulI, b_mulS, b_mulL, b_mulT, b_fdv, b_mod, b_pow, e_int, e_str, e_bl, c_eq, c_ne, c_in, c_notin, c_lt, c_ltS, c_le, c_gt, c_ge, t_bl, t_non, t_int, t_tup, t_lst, t_str, s_lst, s_tup, s_str, l_lst, l_tup, l_str, l_int, l_listL, l_listT, l_tupL, l_tupT, m_strip, m_upper, m_count, m_find, z_lst, z_arg, z_tup, z_str, z_rev, i_lst, i_tup, i_str, i_rng, n_non, n_tru, n_fls, decide_eq_true_eq, Opd.v.injEq, at0, at1, at2, at3, at4, at5, ix60, ix61, ix62, ix63, ix64, ix65, Nat.reduceAdd, Nat.zero_add, List.count_cons, List.count_nil, Nat.reduceBEq, beq_self_eq_true, Bool.true_and, Bool.and_true, Bool.and_self, List.count_cons_self, wipeS]
      exact hP _ _ (by rw [PySem.Str.length_append]; omega) h
    · simp (maxSteps := 4000000) only [Y_ok, Y_ret, Y_rdv, Y_rdn, Y_rds, Y_cnv, Y_cnn, Y_cns, Y_wkv, Y_wkn, Y_wks, Y_var, Xs_nx, Xs_rt, Xs_bk, Xs_ct, Xs_skip, Xs_seq, Xs_ifs, Xs_set, Xs_stv, Xs_stn, Xs_sts, Xs_ret, Xs_rtv, Xs_rtn, Xs_rts, Xs_retN, Xs_exp, Xs_app, Xs_sset, Xs_fr, Y_int, Y_bool, Y_non, Y_str, Y_gl, Y_bin, Y_neg, Y_not, Y_and, Y_or, Y_ite, Y_cmp, Y_chain, Y_is, Y_tup, Y_lst, Y_sub, Y_sli, Y_rev, Y_blt, Y_mth, Y_isi, Y_cal, Y_lc, Y_nil, Y_cons, Y_cnil, Y_ccons, Y_rnil, Y_rcons, T_not, T_and, T_or, T_so, C_no, C_so, P_no, P_so, I_seq, I_rng, has, held, kp, wk, rtS, setS, chg, Slot.val, Opd.fz, List.getElem?_cons_zero, List.getElem?_cons_succ, List.set_cons_zero, List.set_cons_succ, Option.bind_some, Option.map_some, Option.some.injEq, exists_eq_left', exists_eq_left, and_true, true_and, PL.D.int.injEq, PL.D.str.injEq, isiD, srcs, argsO, argO, argS, slotsO, once, back_f, back_t, back_0, List.tail_cons, List.tail_nil, back1, kept, outsE, List.take_succ_cons, List.take_zero, List.map_cons, List.map_nil, Option.getD_some, Bool.not_true, Bool.not_false, if_true, Bool.false_eq_true, if_false, reduceIte, List.length_cons, List.length_nil, ex_iteO, b_addI, b_addS, b_addT, b_addL, b_subI, b_mulI, b_mulS, b_mulL, b_mulT, b_fdv, b_mod, b_pow, e_int, e_str, e_bl, c_eq, c_ne, c_in, c_notin, c_lt, c_ltS, c_le, c_gt, c_ge, t_bl, t_non, t_int, t_tup, t_lst, t_str, s_lst, s_tup, s_str, l_lst, l_tup, l_str, l_int, l_listL, l_listT, l_tupL, l_tupT, m_strip, m_upper, m_count, m_find, z_lst, z_arg, z_tup, z_str, z_rev, i_lst, i_tup, i_str, i_rng, n_non, n_tru, n_fls, decide_eq_true_eq, Opd.v.injEq, at0, at1, at2, at3, at4, at5, ix60, ix61, ix62, ix63, ix64, ix65, Nat.reduceAdd, Nat.zero_add, List.count_cons, List.count_nil, Nat.reduceBEq, beq_self_eq_true, Bool.true_and, Bool.and_true, Bool.and_self, List.count_cons_self, wipeS]
      exact hP _ _ (by rw [PySem.Str.length_append]; omega) h
  · refine ⟨by omega, by omega, by omega, ?_, hP _ _ ?_ h⟩
    · rw [PySem.Str.length_append]; omega
    · rw [PySem.Str.length_append, PySem.Str.length_append]; omega
  · refine ⟨by omega, by omega, by omega, ?_, hP _ _ ?_ h⟩
    · rw [PySem.Str.length_append]; omega
    · rw [PySem.Str.length_append, PySem.Str.length_append]; omega
theorem raw_ok {k : Nat} {d : D} {P : PK} (h : Sv d) (hP : ∀ z d', z.length ≤ 1000 → Sv d' → P false (.str z) [d']) : Cl (O (k + 6)) "_law_raw_place" [.io d] P := by
  have hs := sizeLine_eq
  have l1 := ll_len
  have l2 := sg_len
  refine cl_ok (d := e_law_raw_place.d) rfl rfl (by decide) ?_
  show Xs (ex (O (k + 5)) b_law_raw_place [.io d, .un, .un, .un, .un]) _
  unfold b_law_raw_place e_law_raw_place
  simp (maxSteps := 4000000) only [Y_ok, Y_ret, Y_rdv, Y_rdn, Y_rds, Y_cnv, Y_cnn, Y_cns, Y_wkv, Y_wkn, Y_wks, Y_var, Xs_nx, Xs_rt, Xs_bk, Xs_ct, Xs_skip, Xs_seq, Xs_ifs, Xs_set, Xs_stv, Xs_stn, Xs_sts, Xs_ret, Xs_rtv, Xs_rtn, Xs_rts, Xs_retN, Xs_exp, Xs_app, Xs_sset, Xs_fr, Y_int, Y_bool, Y_non, Y_str, Y_gl, Y_bin, Y_neg, Y_not, Y_and, Y_or, Y_ite, Y_cmp, Y_chain, Y_is, Y_tup, Y_lst, Y_sub, Y_sli, Y_rev, Y_blt, Y_mth, Y_isi, Y_cal, Y_lc, Y_nil, Y_cons, Y_cnil, Y_ccons, Y_rnil, Y_rcons, T_not, T_and, T_or, T_so, C_no, C_so, P_no, P_so, I_seq, I_rng, has, held, kp, wk, rtS, setS, chg, Slot.val, Opd.fz, List.getElem?_cons_zero, List.getElem?_cons_succ, List.set_cons_zero, List.set_cons_succ, Option.bind_some, Option.map_some, Option.some.injEq, exists_eq_left', exists_eq_left, and_true, true_and, PL.D.int.injEq, PL.D.str.injEq, isiD, srcs, argsO, argO, argS, slotsO, once, back_f, back_t, back_0, List.tail_cons, List.tail_nil, back1, kept, outsE, List.take_succ_cons, List.take_zero, List.map_cons, List.map_nil, Option.getD_some, Bool.not_true, Bool.not_false, if_true, Bool.false_eq_true, if_false, reduceIte, List.length_cons, List.length_nil, ex_iteO, b_addI, b_addS, b_addT, b_addL, b_subI, b_mulI, b_mulS, b_mulL, b_mulT, b_fdv, b_mod, b_pow, e_int, e_str, e_bl, c_eq, c_ne, c_in, c_notin, c_lt, c_ltS, c_le, c_gt, c_ge, t_bl, t_non, t_int, t_tup, t_lst, t_str, s_lst, s_tup, s_str, l_lst, l_tup, l_str, l_int, l_listL, l_listT, l_tupL, l_tupT, m_strip, m_upper, m_count, m_find, z_lst, z_arg, z_tup, z_str, z_rev, i_lst, i_tup, i_str, i_rng, n_non, n_tru, n_fls, decide_eq_true_eq, Opd.v.injEq, at0, at1, at2, at3, at4, at5, ix60, ix61, ix62, ix63, ix64, ix65, Nat.reduceAdd, Nat.zero_add, List.count_cons, List.count_nil, Nat.reduceBEq, beq_self_eq_true, Bool.true_and, Bool.and_true, Bool.and_self, List.count_cons_self, wipeS]
  refine take' h (by decide) fun kind d _ _ h => ?_
  simp (maxSteps := 4000000) only [Y_ok, Y_ret, Y_rdv, Y_rdn, Y_rds, Y_cnv, Y_cnn, Y_cns, Y_wkv, Y_wkn, Y_wks, Y_var, Xs_nx, Xs_rt, Xs_bk, Xs_ct, Xs_skip, Xs_seq, Xs_ifs, Xs_set, Xs_stv, Xs_stn, Xs_sts, Xs_ret, Xs_rtv, Xs_rtn, Xs_rts, Xs_retN, Xs_exp, Xs_app, Xs_sset, Xs_fr, Y_int, Y_bool, Y_non, Y_str, Y_gl, Y_bin, Y_neg, Y_not, Y_and, Y_or, Y_ite, Y_cmp, Y_chain, Y_is, Y_tup, Y_lst, Y_sub, Y_sli, Y_rev, Y_blt, Y_mth, Y_isi, Y_cal, Y_lc, Y_nil, Y_cons, Y_cnil, Y_ccons, Y_rnil, Y_rcons, T_not, T_and, T_or, T_so, C_no, C_so, P_no, P_so, I_seq, I_rng, has, held, kp, wk, rtS, setS, chg, Slot.val, Opd.fz, List.getElem?_cons_zero, List.getElem?_cons_succ, List.set_cons_zero, List.set_cons_succ, Option.bind_some, Option.map_some, Option.some.injEq, exists_eq_left', exists_eq_left, and_true, true_and, PL.D.int.injEq, PL.D.str.injEq, isiD, srcs, argsO, argO, argS, slotsO, once, back_f, back_t, back_0, List.tail_cons, List.tail_nil, back1, kept, outsE, List.take_succ_cons, List.take_zero, List.map_cons, List.map_nil, Option.getD_some, Bool.not_true, Bool.not_false, if_true, Bool.false_eq_true, if_false, reduceIte, List.length_cons, List.length_nil, ex_iteO, b_addI, b_addS, b_addT, b_addL, b_subI, b_mulI, b_mulS, b_mulL, b_mulT, b_fdv, b_mod, b_pow, e_int, e_str, e_bl, c_eq, c_ne, c_in, c_notin, c_lt, c_ltS, c_le, c_gt, c_ge, t_bl, t_non, t_int, t_tup, t_lst, t_str, s_lst, s_tup, s_str, l_lst, l_tup, l_str, l_int, l_listL, l_listT, l_tupL, l_tupT, m_strip, m_upper, m_count, m_find, z_lst, z_arg, z_tup, z_str, z_rev, i_lst, i_tup, i_str, i_rng, n_non, n_tru, n_fls, decide_eq_true_eq, Opd.v.injEq, at0, at1, at2, at3, at4, at5, ix60, ix61, ix62, ix63, ix64, ix65, Nat.reduceAdd, Nat.zero_add, List.count_cons, List.count_nil, Nat.reduceBEq, beq_self_eq_true, Bool.true_and, Bool.and_true, Bool.and_self, List.count_cons_self, wipeS]
  refine ite_i (fun _ => ?_) fun _ => ite_i (fun _ => ?_) fun _ => ?_
  · refine name_ok h fun z d h1 h2 h => ?_
    simp (maxSteps := 4000000) only [Y_ok, Y_ret, Y_rdv, Y_rdn, Y_rds, Y_cnv, Y_cnn, Y_cns, Y_wkv, Y_wkn, Y_wks, Y_var, Xs_nx, Xs_rt, Xs_bk, Xs_ct, Xs_skip, Xs_seq, Xs_ifs, Xs_set, Xs_stv, Xs_stn, Xs_sts, Xs_ret, Xs_rtv, Xs_rtn, Xs_rts, Xs_retN, Xs_exp, Xs_app, Xs_sset, Xs_fr, Y_int, Y_bool, Y_non, Y_str, Y_gl, Y_bin, Y_neg, Y_not, Y_and, Y_or, Y_ite, Y_cmp, Y_chain, Y_is, Y_tup, Y_lst, Y_sub, Y_sli, Y_rev, Y_blt, Y_mth, Y_isi, Y_cal, Y_lc, Y_nil, Y_cons, Y_cnil, Y_ccons, Y_rnil, Y_rcons, T_not, T_and, T_or, T_so, C_no, C_so, P_no, P_so, I_seq, I_rng, has, held, kp, wk, rtS, setS, chg, Slot.val, Opd.fz, List.getElem?_cons_zero, List.getElem?_cons_succ, List.set_cons_zero, List.set_cons_succ, Option.bind_some, Option.map_some, Option.some.injEq, exists_eq_left', exists_eq_left, and_true, true_and, PL.D.int.injEq, PL.D.str.injEq, isiD, srcs, argsO, argO, argS, slotsO, once, back_f, back_t, back_0, List.tail_cons, List.tail_nil, back1, kept, outsE, List.take_succ_cons, List.take_zero, List.map_cons, List.map_nil, Option.getD_some, Bool.not_true, Bool.not_false, if_true, Bool.false_eq_true, if_false, reduceIte, List.length_cons, List.length_nil, ex_iteO, b_addI, b_addS, b_addT, b_addL, b_subI, b_mulI, b_mulS, b_mulL, b_mulT, b_fdv, b_mod, b_pow, e_int, e_str, e_bl, c_eq, c_ne, c_in, c_notin, c_lt, c_ltS, c_le, c_gt, c_ge, t_bl, t_non, t_int, t_tup, t_lst, t_str, s_lst, s_tup, s_str, l_lst, l_tup, l_str, l_int, l_listL, l_listT, l_tupL, l_tupT, m_strip, m_upper, m_count, m_find, z_lst, z_arg, z_tup, z_str, z_rev, i_lst, i_tup, i_str, i_rng, n_non, n_tru, n_fls, decide_eq_true_eq, Opd.v.injEq, at0, at1, at2, at3, at4, at5, ix60, ix61, ix62, ix63, ix64, ix65, Nat.reduceAdd, Nat.zero_add, List.count_cons, List.count_nil, Nat.reduceBEq, beq_self_eq_true, Bool.true_and, Bool.and_true, Bool.and_self, List.count_cons_self, wipeS]
    exact hP _ _ (by omega) h
  · refine bad_ok h fun z d h1 h => ?_
    simp (maxSteps := 4000000) only [Y_ok, Y_ret, Y_rdv, Y_rdn, Y_rds, Y_cnv, Y_cnn, Y_cns, Y_wkv, Y_wkn, Y_wks, Y_var, Xs_nx, Xs_rt, Xs_bk, Xs_ct, Xs_skip, Xs_seq, Xs_ifs, Xs_set, Xs_stv, Xs_stn, Xs_sts, Xs_ret, Xs_rtv, Xs_rtn, Xs_rts, Xs_retN, Xs_exp, Xs_app, Xs_sset, Xs_fr, Y_int, Y_bool, Y_non, Y_str, Y_gl, Y_bin, Y_neg, Y_not, Y_and, Y_or, Y_ite, Y_cmp, Y_chain, Y_is, Y_tup, Y_lst, Y_sub, Y_sli, Y_rev, Y_blt, Y_mth, Y_isi, Y_cal, Y_lc, Y_nil, Y_cons, Y_cnil, Y_ccons, Y_rnil, Y_rcons, T_not, T_and, T_or, T_so, C_no, C_so, P_no, P_so, I_seq, I_rng, has, held, kp, wk, rtS, setS, chg, Slot.val, Opd.fz, List.getElem?_cons_zero, List.getElem?_cons_succ, List.set_cons_zero, List.set_cons_succ, Option.bind_some, Option.map_some, Option.some.injEq, exists_eq_left', exists_eq_left, and_true, true_and, PL.D.int.injEq, PL.D.str.injEq, isiD, srcs, argsO, argO, argS, slotsO, once, back_f, back_t, back_0, List.tail_cons, List.tail_nil, back1, kept, outsE, List.take_succ_cons, List.take_zero, List.map_cons, List.map_nil, Option.getD_some, Bool.not_true, Bool.not_false, if_true, Bool.false_eq_true, if_false, reduceIte, List.length_cons, List.length_nil, ex_iteO, b_addI, b_addS, b_addT, b_addL, b_subI, b_mulI, b_mulS, b_mulL, b_mulT, b_fdv, b_mod, b_pow, e_int, e_str, e_bl, c_eq, c_ne, c_in, c_notin, c_lt, c_ltS, c_le, c_gt, c_ge, t_bl, t_non, t_int, t_tup, t_lst, t_str, s_lst, s_tup, s_str, l_lst, l_tup, l_str, l_int, l_listL, l_listT, l_tupL, l_tupT, m_strip, m_upper, m_count, m_find, z_lst, z_arg, z_tup, z_str, z_rev, i_lst, i_tup, i_str, i_rng, n_non, n_tru, n_fls, decide_eq_true_eq, Opd.v.injEq, at0, at1, at2, at3, at4, at5, ix60, ix61, ix62, ix63, ix64, ix65, Nat.reduceAdd, Nat.zero_add, List.count_cons, List.count_nil, Nat.reduceBEq, beq_self_eq_true, Bool.true_and, Bool.and_true, Bool.and_self, List.count_cons_self, wipeS]
    exact hP _ _ h1 h
  · refine letters_ok ?_
    simp (maxSteps := 4000000) only [Y_ok, Y_ret, Y_rdv, Y_rdn, Y_rds, Y_cnv, Y_cnn, Y_cns, Y_wkv, Y_wkn, Y_wks, Y_var, Xs_nx, Xs_rt, Xs_bk, Xs_ct, Xs_skip, Xs_seq, Xs_ifs, Xs_set, Xs_stv, Xs_stn, Xs_sts, Xs_ret, Xs_rtv, Xs_rtn, Xs_rts, Xs_retN, Xs_exp, Xs_app, Xs_sset, Xs_fr, Y_int, Y_bool, Y_non, Y_str, Y_gl, Y_bin, Y_neg, Y_not, Y_and, Y_or, Y_ite, Y_cmp, Y_chain, Y_is, Y_tup, Y_lst, Y_sub, Y_sli, Y_rev, Y_blt, Y_mth, Y_isi, Y_cal, Y_lc, Y_nil, Y_cons, Y_cnil, Y_ccons, Y_rnil, Y_rcons, T_not, T_and, T_or, T_so, C_no, C_so, P_no, P_so, I_seq, I_rng, has, held, kp, wk, rtS, setS, chg, Slot.val, Opd.fz, List.getElem?_cons_zero, List.getElem?_cons_succ, List.set_cons_zero, List.set_cons_succ, Option.bind_some, Option.map_some, Option.some.injEq, exists_eq_left', exists_eq_left, and_true, true_and, PL.D.int.injEq, PL.D.str.injEq, isiD, srcs, argsO, argO, argS, slotsO, once, back_f, back_t, back_0, List.tail_cons, List.tail_nil, back1, kept, outsE, List.take_succ_cons, List.take_zero, List.map_cons, List.map_nil, Option.getD_some, Bool.not_true, Bool.not_false, if_true, Bool.false_eq_true, if_false, reduceIte, List.length_cons, List.length_nil, ex_iteO, b_addI, b_addS, b_addT, b_addL, b_subI, b_mulI, b_mulS, b_mulL, b_mulT, b_fdv, b_mod, b_pow, e_int, e_str, e_bl, c_eq, c_ne, c_in, c_notin, c_lt, c_ltS, c_le, c_gt, c_ge, t_bl, t_non, t_int, t_tup, t_lst, t_str, s_lst, s_tup, s_str, l_lst, l_tup, l_str, l_int, l_listL, l_listT, l_tupL, l_tupT, m_strip, m_upper, m_count, m_find, z_lst, z_arg, z_tup, z_str, z_rev, i_lst, i_tup, i_str, i_rng, n_non, n_tru, n_fls, decide_eq_true_eq, Opd.v.injEq, at0, at1, at2, at3, at4, at5, ix60, ix61, ix62, ix63, ix64, ix65, Nat.reduceAdd, Nat.zero_add, List.count_cons, List.count_nil, Nat.reduceBEq, beq_self_eq_true, Bool.true_and, Bool.and_true, Bool.and_self, List.count_cons_self, wipeS]
    refine signs_ok ?_
    simp (maxSteps := 4000000) only [Y_ok, Y_ret, Y_rdv, Y_rdn, Y_rds, Y_cnv, Y_cnn, Y_cns, Y_wkv, Y_wkn, Y_wks, Y_var, Xs_nx, Xs_rt, Xs_bk, Xs_ct, Xs_skip, Xs_seq, Xs_ifs, Xs_set, Xs_stv, Xs_stn, Xs_sts, Xs_ret, Xs_rtv, Xs_rtn, Xs_rts, Xs_retN, Xs_exp, Xs_app, Xs_sset, Xs_fr, Y_int, Y_bool, Y_non, Y_str, Y_gl, Y_bin, Y_neg, Y_not, Y_and, Y_or, Y_ite, Y_cmp, Y_chain, Y_is, Y_tup, Y_lst, Y_sub, Y_sli, Y_rev, Y_blt, Y_mth, Y_isi, Y_cal, Y_lc, Y_nil, Y_cons, Y_cnil, Y_ccons, Y_rnil, Y_rcons, T_not, T_and, T_or, T_so, C_no, C_so, P_no, P_so, I_seq, I_rng, has, held, kp, wk, rtS, setS, chg, Slot.val, Opd.fz, List.getElem?_cons_zero, List.getElem?_cons_succ, List.set_cons_zero, List.set_cons_succ, Option.bind_some, Option.map_some, Option.some.injEq, exists_eq_left', exists_eq_left, and_true, true_and, PL.D.int.injEq, PL.D.str.injEq, isiD, srcs, argsO, argO, argS, slotsO, once, back_f, back_t, back_0, List.tail_cons, List.tail_nil, back1, kept, outsE, List.take_succ_cons, List.take_zero, List.map_cons, List.map_nil, Option.getD_some, Bool.not_true, Bool.not_false, if_true, Bool.false_eq_true, if_false, reduceIte, List.length_cons, List.length_nil, ex_iteO, b_addI, b_addS, b_addT, b_addL, b_subI, b_mulI, b_mulS, b_mulL, b_mulT, b_fdv, b_mod, b_pow, e_int, e_str, e_bl, c_eq, c_ne, c_in, c_notin, c_lt, c_ltS, c_le, c_gt, c_ge, t_bl, t_non, t_int, t_tup, t_lst, t_str, s_lst, s_tup, s_str, l_lst, l_tup, l_str, l_int, l_listL, l_listT, l_tupL, l_tupT, m_strip, m_upper, m_count, m_find, z_lst, z_arg, z_tup, z_str, z_rev, i_lst, i_tup, i_str, i_rng, n_non, n_tru, n_fls, decide_eq_true_eq, Opd.v.injEq, at0, at1, at2, at3, at4, at5, ix60, ix61, ix62, ix63, ix64, ix65, Nat.reduceAdd, Nat.zero_add, List.count_cons, List.count_nil, Nat.reduceBEq, beq_self_eq_true, Bool.true_and, Bool.and_true, Bool.and_self, List.count_cons_self, wipeS]
    refine ⟨by omega, ?_⟩
    refine many_ok h (by decide) fun v d v0 v1 h => ?_
    simp (maxSteps := 4000000) only [Y_ok, Y_ret, Y_rdv, Y_rdn, Y_rds, Y_cnv, Y_cnn, Y_cns, Y_wkv, Y_wkn, Y_wks, Y_var, Xs_nx, Xs_rt, Xs_bk, Xs_ct, Xs_skip, Xs_seq, Xs_ifs, Xs_set, Xs_stv, Xs_stn, Xs_sts, Xs_ret, Xs_rtv, Xs_rtn, Xs_rts, Xs_retN, Xs_exp, Xs_app, Xs_sset, Xs_fr, Y_int, Y_bool, Y_non, Y_str, Y_gl, Y_bin, Y_neg, Y_not, Y_and, Y_or, Y_ite, Y_cmp, Y_chain, Y_is, Y_tup, Y_lst, Y_sub, Y_sli, Y_rev, Y_blt, Y_mth, Y_isi, Y_cal, Y_lc, Y_nil, Y_cons, Y_cnil, Y_ccons, Y_rnil, Y_rcons, T_not, T_and, T_or, T_so, C_no, C_so, P_no, P_so, I_seq, I_rng, has, held, kp, wk, rtS, setS, chg, Slot.val, Opd.fz, List.getElem?_cons_zero, List.getElem?_cons_succ, List.set_cons_zero, List.set_cons_succ, Option.bind_some, Option.map_some, Option.some.injEq, exists_eq_left', exists_eq_left, and_true, true_and, PL.D.int.injEq, PL.D.str.injEq, isiD, srcs, argsO, argO, argS, slotsO, once, back_f, back_t, back_0, List.tail_cons, List.tail_nil, back1, kept, outsE, List.take_succ_cons, List.take_zero, List.map_cons, List.map_nil, Option.getD_some, Bool.not_true, Bool.not_false, if_true, Bool.false_eq_true, if_false, reduceIte, List.length_cons, List.length_nil, ex_iteO, b_addI, b_addS, b_addT, b_addL, b_subI, b_mulI, b_mulS, b_mulL, b_mulT, b_fdv, b_mod, b_pow, e_int, e_str, e_bl, c_eq, c_ne, c_in, c_notin, c_lt, c_ltS, c_le, c_gt, c_ge, t_bl, t_non, t_int, t_tup, t_lst, t_str, s_lst, s_tup, s_str, l_lst, l_tup, l_str, l_int, l_listL, l_listT, l_tupL, l_tupT, m_strip, m_upper, m_count, m_find, z_lst, z_arg, z_tup, z_str, z_rev, i_lst, i_tup, i_str, i_rng, n_non, n_tru, n_fls, decide_eq_true_eq, Opd.v.injEq, at0, at1, at2, at3, at4, at5, ix60, ix61, ix62, ix63, ix64, ix65, Nat.reduceAdd, Nat.zero_add, List.count_cons, List.count_nil, Nat.reduceBEq, beq_self_eq_true, Bool.true_and, Bool.and_true, Bool.and_self, List.count_cons_self, wipeS]
    refine ⟨⟨by decide, by decide, by omega, by omega⟩, ?_⟩
    have l3 : (LL ++ SG).length = 94 := by rw [PySem.Str.length_append, l1, l2]
    refine lp_ok (fun i e => ∃ z d' u, z.length = i ∧ Sv d' ∧ e = [.io d', .fz (.int kind), .fz (.str (LL ++ SG)), .fz (.str z), u] ∧ (u = .un ∨ ∃ w, u = .fz w)) ⟨"", d, .un, rfl, h, rfl, .inl rfl⟩ (fun i x e hx hi => ?_) (fun e hi => ?_)
    · obtain ⟨z, d, u, hz, h, rfl, hu⟩ := hi
      have hi6 : i < 12 := by
        have := (List.getElem?_eq_some_iff.mp hx).1
        rw [List.length_map, List.length_range] at this
        omega
      refine ⟨[.io d, .fz (.int kind), .fz (.str (LL ++ SG)), .fz (.str z), .fz x], by rcases hu with rfl | ⟨w, rfl⟩ <;> rfl, ?_⟩
      simp (maxSteps := 4000000) only [Y_ok, Y_ret, Y_rdv, Y_rdn, Y_rds, Y_cnv, Y_cnn, Y_cns, Y_wkv, Y_wkn, Y_wks, Y_var, Xs_nx, Xs_rt, Xs_bk, Xs_ct, Xs_skip, Xs_seq, Xs_ifs, Xs_set, Xs_stv, Xs_stn, Xs_sts, Xs_ret, Xs_rtv, Xs_rtn, Xs_rts, Xs_retN, Xs_exp, Xs_app, Xs_sset, Xs_fr, Y_int, Y_bool, Y_non, Y_str, Y_gl, Y_bin, Y_neg, Y_not, Y_and, Y_or, Y_ite, Y_cmp, Y_chain, Y_is, Y_tup, Y_lst, Y_sub, Y_sli, Y_rev, Y_blt, Y_mth, Y_isi, Y_cal, Y_lc, Y_nil, Y_cons, Y_cnil, Y_ccons, Y_rnil, Y_rcons, T_not, T_and, T_or, T_so, C_no, C_so, P_no, P_so, I_seq, I_rng, has, held, kp, wk, rtS, setS, chg, Slot.val, Opd.fz, List.getElem?_cons_zero, List.getElem?_cons_succ, List.set_cons_zero, List.set_cons_succ, Option.bind_some, Option.map_some, Option.some.injEq, exists_eq_left', exists_eq_left, and_true, true_and, PL.D.int.injEq, PL.D.str.injEq, isiD, srcs, argsO, argO, argS, slotsO, once, back_f, back_t, back_0, List.tail_cons, List.tail_nil, back1, kept, outsE, List.take_succ_cons, List.take_zero, List.map_cons, List.map_nil, Option.getD_some, Bool.not_true, Bool.not_false, if_true, Bool.false_eq_true, if_false, reduceIte, List.length_cons, List.length_nil, ex_iteO, b_addI, b_addS, b_addT, b_addL, b_subI, b_mulI, b_mulS, b_mulL, b_mulT, b_fdv, b_mod, b_pow, e_int, e_str, e_bl, c_eq, c_ne, c_in, c_notin, c_lt, c_ltS, c_le, c_gt, c_ge, t_bl, t_non, t_int, t_tup, t_lst, t_str, s_lst, s_tup, s_str, l_lst, l_tup, l_str, l_int, l_listL, l_listT, l_tupL, l_tupT, m_strip, m_upper, m_count, m_find, z_lst, z_arg, z_tup, z_str, z_rev, i_lst, i_tup, i_str, i_rng, n_non, n_tru, n_fls, decide_eq_true_eq, Opd.v.injEq, at0, at1, at2, at3, at4, at5, ix60, ix61, ix62, ix63, ix64, ix65, Nat.reduceAdd, Nat.zero_add, List.count_cons, List.count_nil, Nat.reduceBEq, beq_self_eq_true, Bool.true_and, Bool.and_true, Bool.and_self, List.count_cons_self, wipeS]
      refine pick_ok h (by rw [l3]; decide) (by rw [l3]; decide) fun c d2 s2 => ?_
      simp (maxSteps := 4000000) only [Y_ok, Y_ret, Y_rdv, Y_rdn, Y_rds, Y_cnv, Y_cnn, Y_cns, Y_wkv, Y_wkn, Y_wks, Y_var, Xs_nx, Xs_rt, Xs_bk, Xs_ct, Xs_skip, Xs_seq, Xs_ifs, Xs_set, Xs_stv, Xs_stn, Xs_sts, Xs_ret, Xs_rtv, Xs_rtn, Xs_rts, Xs_retN, Xs_exp, Xs_app, Xs_sset, Xs_fr, Y_int, Y_bool, Y_non, Y_str, Y_gl, Y_bin, Y_neg, Y_not, Y_and, Y_or, Y_ite, Y_cmp, Y_chain, Y_is, Y_tup, Y_lst, Y_sub, Y_sli, Y_rev, Y_blt, Y_mth, Y_isi, Y_cal, Y_lc, Y_nil, Y_cons, Y_cnil, Y_ccons, Y_rnil, Y_rcons, T_not, T_and, T_or, T_so, C_no, C_so, P_no, P_so, I_seq, I_rng, has, held, kp, wk, rtS, setS, chg, Slot.val, Opd.fz, List.getElem?_cons_zero, List.getElem?_cons_succ, List.set_cons_zero, List.set_cons_succ, Option.bind_some, Option.map_some, Option.some.injEq, exists_eq_left', exists_eq_left, and_true, true_and, PL.D.int.injEq, PL.D.str.injEq, isiD, srcs, argsO, argO, argS, slotsO, once, back_f, back_t, back_0, List.tail_cons, List.tail_nil, back1, kept, outsE, List.take_succ_cons, List.take_zero, List.map_cons, List.map_nil, Option.getD_some, Bool.not_true, Bool.not_false, if_true, Bool.false_eq_true, if_false, reduceIte, List.length_cons, List.length_nil, ex_iteO, b_addI, b_addS, b_addT, b_addL, b_subI, b_mulI, b_mulS, b_mulL, b_mulT, b_fdv, b_mod, b_pow, e_int, e_str, e_bl, c_eq, c_ne, c_in, c_notin, c_lt, c_ltS, c_le, c_gt, c_ge, t_bl, t_non, t_int, t_tup, t_lst, t_str, s_lst, s_tup, s_str, l_lst, l_tup, l_str, l_int, l_listL, l_listT, l_tupL, l_tupT, m_strip, m_upper, m_count, m_find, z_lst, z_arg, z_tup, z_str, z_rev, i_lst, i_tup, i_str, i_rng, n_non, n_tru, n_fls, decide_eq_true_eq, Opd.v.injEq, at0, at1, at2, at3, at4, at5, ix60, ix61, ix62, ix63, ix64, ix65, Nat.reduceAdd, Nat.zero_add, List.count_cons, List.count_nil, Nat.reduceBEq, beq_self_eq_true, Bool.true_and, Bool.and_true, Bool.and_self, List.count_cons_self, wipeS]
      refine ⟨by rw [len_one]; omega, ?_⟩
      exact ⟨_, d2, _, by rw [PySem.Str.length_append, len_one, hz], s2, rfl, .inr ⟨_, rfl⟩⟩
    · obtain ⟨z, d, u, hz, h, rfl, hu⟩ := hi
      rw [List.length_map, List.length_range] at hz
      simp (maxSteps := 4000000) only [Y_ok, Y_ret, Y_rdv, Y_rdn, Y_rds, Y_cnv, Y_cnn, Y_cns, Y_wkv, Y_wkn, Y_wks, Y_var, Xs_nx, Xs_rt, Xs_bk, Xs_ct, Xs_skip, Xs_seq, Xs_ifs, Xs_set, Xs_stv, Xs_stn, Xs_sts, Xs_ret, Xs_rtv, Xs_rtn, Xs_rts, Xs_retN, Xs_exp, Xs_app, Xs_sset, Xs_fr, Y_int, Y_bool, Y_non, Y_str, Y_gl, Y_bin, Y_neg, Y_not, Y_and, Y_or, Y_ite, Y_cmp, Y_chain, Y_is, Y_tup, Y_lst, Y_sub, Y_sli, Y_rev, Y_blt, Y_mth, Y_isi, Y_cal, Y_lc, Y_nil, Y_cons, Y_cnil, Y_ccons, Y_rnil, Y_rcons, T_not, T_and, T_or, T_so, C_no, C_so, P_no, P_so, I_seq, I_rng, has, held, kp, wk, rtS, setS, chg, Slot.val, Opd.fz, List.getElem?_cons_zero, List.getElem?_cons_succ, List.set_cons_zero, List.set_cons_succ, Option.bind_some, Option.map_some, Option.some.injEq, exists_eq_left', exists_eq_left, and_true, true_and, PL.D.int.injEq, PL.D.str.injEq, isiD, srcs, argsO, argO, argS, slotsO, once, back_f, back_t, back_0, List.tail_cons, List.tail_nil, back1, kept, outsE, List.take_succ_cons, List.take_zero, List.map_cons, List.map_nil, Option.getD_some, Bool.not_true, Bool.not_false, if_true, Bool.false_eq_true, if_false, reduceIte, List.length_cons, List.length_nil, ex_iteO, b_addI, b_addS, b_addT, b_addL, b_subI, b_mulI, b_mulS, b_mulL, b_mulT, b_fdv, b_mod, b_pow, e_int, e_str, e_bl, c_eq, c_ne, c_in, c_notin, c_lt, c_ltS, c_le, c_gt, c_ge, t_bl, t_non, t_int, t_tup, t_lst, t_str, s_lst, s_tup, s_str, l_lst, l_tup, l_str, l_int, l_listL, l_listT, l_tupL, l_tupT, m_strip, m_upper, m_count, m_find, z_lst, z_arg, z_tup, z_str, z_rev, i_lst, i_tup, i_str, i_rng, n_non, n_tru, n_fls, decide_eq_true_eq, Opd.v.injEq, at0, at1, at2, at3, at4, at5, ix60, ix61, ix62, ix63, ix64, ix65, Nat.reduceAdd, Nat.zero_add, List.count_cons, List.count_nil, Nat.reduceBEq, beq_self_eq_true, Bool.true_and, Bool.and_true, Bool.and_self, List.count_cons_self, wipeS]
      exact hP z d (by omega) h
end K00
namespace K00
open PL L2 PySem PySem.Spec PyProof.Rows
theorem place_ok {k : Nat} {w : Str} {P : PK} (hl : w.length ≤ 1000) (hP : P false (.bl (decide (1 ≤ (w.length : Int) ∧ (w.length : Int) ≤ 6 ∧ Txt.stripChars w LL = ("" : Str)))) [.str w]) : Cl (O (k + 1)) "is_place" [.fz (.str w)] P := by
  have hs := sizeLine_eq
  refine cl_ok (d := e_is_place.d) rfl rfl (by decide) ?_
  show Xs (ex (O k) b_is_place [.fz (.str w)]) _
  have hg : (O k).gv ("LETTERS" : Str) = some (.str LL) := by cases k <;> rfl
  unfold b_is_place e_is_place
  simp (maxSteps := 4000000) only [Y_ok, Y_ret, Y_rdv, Y_rdn, Y_rds, Y_cnv, Y_cnn, Y_cns, Y_wkv, Y_wkn, Y_wks, Y_var, Xs_nx, Xs_rt, Xs_bk, Xs_ct, Xs_skip, Xs_seq, Xs_ifs, Xs_set, Xs_stv, Xs_stn, Xs_sts, Xs_ret, Xs_rtv, Xs_rtn, Xs_rts, Xs_retN, Xs_exp, Xs_app, Xs_sset, Xs_fr, Y_int, Y_bool, Y_non, Y_str, Y_gl, Y_bin, Y_neg, Y_not, Y_and, Y_or, Y_ite, Y_cmp, Y_chain, Y_is, Y_tup, Y_lst, Y_sub, Y_sli, Y_rev, Y_blt, Y_mth, Y_isi, Y_cal, Y_lc, Y_nil, Y_cons, Y_cnil, Y_ccons, Y_rnil, Y_rcons, T_not, T_and, T_or, T_so, C_no, C_so, P_no, P_so, I_seq, I_rng, has, held, kp, wk, rtS, setS, chg, Slot.val, Opd.fz, List.getElem?_cons_zero, List.getElem?_cons_succ, List.set_cons_zero, List.set_cons_succ, Option.bind_some, Option.map_some, Option.some.injEq, exists_eq_left', exists_eq_left, and_true, true_and, PL.D.int.injEq, PL.D.str.injEq, isiD, srcs, argsO, argO, argS, slotsO, once, back_f, back_t, back_0, List.tail_cons, List.tail_nil, back1, kept, outsE, List.take_succ_cons, List.take_zero, List.map_cons, List.map_nil, Option.getD_some, Bool.not_true, Bool.not_false, if_true, Bool.false_eq_true, if_false, reduceIte, List.length_cons, List.length_nil, ex_iteO, b_addI, b_addS, b_addT, b_addL, b_subI, b_mulI, b_mulS, b_mulL, b_mulT, b_fdv, b_mod, b_pow, e_int, e_str, e_bl, c_eq, c_ne, c_in, c_notin, c_lt, c_ltS, c_le, c_gt, c_ge, t_bl, t_non, t_int, t_tup, t_lst, t_str, s_lst, s_tup, s_str, l_lst, l_tup, l_str, l_int, l_listL, l_listT, l_tupL, l_tupT, m_strip, m_upper, m_count, m_find, z_lst, z_arg, z_tup, z_str, z_rev, i_lst, i_tup, i_str, i_rng, n_non, n_tru, n_fls, decide_eq_true_eq, Opd.v.injEq, at0, at1, at2, at3, at4, at5, ix60, ix61, ix62, ix63, ix64, ix65, Nat.reduceAdd, Nat.zero_add, List.count_cons, List.count_nil, Nat.reduceBEq, beq_self_eq_true, Bool.true_and, Bool.and_true, Bool.and_self, List.count_cons_self, wipeS]
  refine ⟨by omega, ?_⟩
  by_cases c1 : 1 ≤ (w.length : Int)
  · rw [if_pos c1]
    try simp (maxSteps := 4000000) only [Y_ok, Y_ret, Y_rdv, Y_rdn, Y_rds, Y_cnv, Y_cnn, Y_cns, Y_wkv, Y_wkn, Y_wks, Y_var, Xs_nx, Xs_rt, Xs_bk, Xs_ct, Xs_skip, Xs_seq, Xs_ifs, Xs_set, Xs_stv, Xs_stn, Xs_sts, Xs_ret, Xs_rtv, Xs_rtn, Xs_rts, Xs_retN, Xs_exp, Xs_app, Xs_sset, Xs_fr, Y_int, Y_bool, Y_non, Y_str, Y_gl, Y_bin, Y_neg, Y_not, Y_and, Y_or, Y_ite, Y_cmp, Y_chain, Y_is, Y_tup, Y_lst, Y_sub, Y_sli, Y_rev, Y_blt, Y_mth, Y_isi, Y_cal, Y_lc, Y_nil, Y_cons, Y_cnil, Y_ccons, Y_rnil, Y_rcons, T_not, T_and, T_or, T_so, C_no, C_so, P_no, P_so, I_seq, I_rng, has, held, kp, wk, rtS, setS, chg, Slot.val, Opd.fz, List.getElem?_cons_zero, List.getElem?_cons_succ, List.set_cons_zero, List.set_cons_succ, Option.bind_some, Option.map_some, Option.some.injEq, exists_eq_left', exists_eq_left, and_true, true_and, PL.D.int.injEq, PL.D.str.injEq, isiD, srcs, argsO, argO, argS, slotsO, once, back_f, back_t, back_0, List.tail_cons, List.tail_nil, back1, kept, outsE, List.take_succ_cons, List.take_zero, List.map_cons, List.map_nil, Option.getD_some, Bool.not_true, Bool.not_false, if_true, Bool.false_eq_true, if_false, reduceIte, List.length_cons, List.length_nil, ex_iteO, b_addI, b_addS, b_addT, b_addL, b_subI, b_mulI, b_mulS, b_mulL, b_mulT, b_fdv, b_mod, b_pow, e_int, e_str, e_bl, c_eq, c_ne, c_in, c_notin, c_lt, c_ltS, c_le, c_gt, c_ge, t_bl, t_non, t_int, t_tup, t_lst, t_str, s_lst, s_tup, s_str, l_lst, l_tup, l_str, l_int, l_listL, l_listT, l_tupL, l_tupT, m_strip, m_upper, m_count, m_find, z_lst, z_arg, z_tup, z_str, z_rev, i_lst, i_tup, i_str, i_rng, n_non, n_tru, n_fls, decide_eq_true_eq, Opd.v.injEq, at0, at1, at2, at3, at4, at5, ix60, ix61, ix62, ix63, ix64, ix65, Nat.reduceAdd, Nat.zero_add, List.count_cons, List.count_nil, Nat.reduceBEq, beq_self_eq_true, Bool.true_and, Bool.and_true, Bool.and_self, List.count_cons_self, wipeS]
    by_cases c2 : (w.length : Int) ≤ 6
    · rw [if_pos c2, hg]
      simp (maxSteps := 4000000) only [Y_ok, Y_ret, Y_rdv, Y_rdn, Y_rds, Y_cnv, Y_cnn, Y_cns, Y_wkv, Y_wkn, Y_wks, Y_var, Xs_nx, Xs_rt, Xs_bk, Xs_ct, Xs_skip, Xs_seq, Xs_ifs, Xs_set, Xs_stv, Xs_stn, Xs_sts, Xs_ret, Xs_rtv, Xs_rtn, Xs_rts, Xs_retN, Xs_exp, Xs_app, Xs_sset, Xs_fr, Y_int, Y_bool, Y_non, Y_str, Y_gl, Y_bin, Y_neg, Y_not, Y_and, Y_or, Y_ite, Y_cmp, Y_chain, Y_is, Y_tup, Y_lst, Y_sub, Y_sli, Y_rev, Y_blt, Y_mth, Y_isi, Y_cal, Y_lc, Y_nil, Y_cons, Y_cnil, Y_ccons, Y_rnil, Y_rcons, T_not, T_and, T_or, T_so, C_no, C_so, P_no, P_so, I_seq, I_rng, has, held, kp, wk, rtS, setS, chg, Slot.val, Opd.fz, List.getElem?_cons_zero, List.getElem?_cons_succ, List.set_cons_zero, List.set_cons_succ, Option.bind_some, Option.map_some, Option.some.injEq, exists_eq_left', exists_eq_left, and_true, true_and, PL.D.int.injEq, PL.D.str.injEq, isiD, srcs, argsO, argO, argS, slotsO, once, back_f, back_t, back_0, List.tail_cons, List.tail_nil, back1, kept, outsE, List.take_succ_cons, List.take_zero, List.map_cons, List.map_nil, Option.getD_some, Bool.not_true, Bool.not_false, if_true, Bool.false_eq_true, if_false, reduceIte, List.length_cons, List.length_nil, ex_iteO, b_addI, b_addS, b_addT, b_addL, b_subI, b_mulI, b_mulS, b_mulL, b_mulT, b_fdv, b_mod, b_pow, e_int, e_str, e_bl, c_eq, c_ne, c_in, c_notin, c_lt, c_ltS, c_le, c_gt, c_ge, t_bl, t_non, t_int, t_tup, t_lst, t_str, s_lst, s_tup, s_str, l_lst, l_tup, l_str, l_int, l_listL, l_listT, l_tupL, l_tupT, m_strip, m_upper, m_count, m_find, z_lst, z_arg, z_tup, z_str, z_rev, i_lst, i_tup, i_str, i_rng, n_non, n_tru, n_fls, decide_eq_true_eq, Opd.v.injEq, at0, at1, at2, at3, at4, at5, ix60, ix61, ix62, ix63, ix64, ix65, Nat.reduceAdd, Nat.zero_add, List.count_cons, List.count_nil, Nat.reduceBEq, beq_self_eq_true, Bool.true_and, Bool.and_true, Bool.and_self, List.count_cons_self, wipeS]
      refine ⟨by omega, ?_⟩
      rw [show decide (1 ≤ (w.length : Int) ∧ (w.length : Int) ≤ 6 ∧ Txt.stripChars w LL = ("" : Str)) = decide (Txt.stripChars w LL = ("" : Str)) by simp only [c1, c2, true_and]] at hP
      exact hP
    · rw [if_neg c2]
      rw [decide_eq_false (fun z => c2 z.2.1)] at hP
      rw [decide_eq_false c2]
      exact hP
  · rw [if_neg c1]
    rw [decide_eq_false (fun z => c1 z.1)] at hP
    try simp (maxSteps := 4000000) only [Y_ok, Y_ret, Y_rdv, Y_rdn, Y_rds, Y_cnv, Y_cnn, Y_cns, Y_wkv, Y_wkn, Y_wks, Y_var, Xs_nx, Xs_rt, Xs_bk, Xs_ct, Xs_skip, Xs_seq, Xs_ifs, Xs_set, Xs_stv, Xs_stn, Xs_sts, Xs_ret, Xs_rtv, Xs_rtn, Xs_rts, Xs_retN, Xs_exp, Xs_app, Xs_sset, Xs_fr, Y_int, Y_bool, Y_non, Y_str, Y_gl, Y_bin, Y_neg, Y_not, Y_and, Y_or, Y_ite, Y_cmp, Y_chain, Y_is, Y_tup, Y_lst, Y_sub, Y_sli, Y_rev, Y_blt, Y_mth, Y_isi, Y_cal, Y_lc, Y_nil, Y_cons, Y_cnil, Y_ccons, Y_rnil, Y_rcons, T_not, T_and, T_or, T_so, C_no, C_so, P_no, P_so, I_seq, I_rng, has, held, kp, wk, rtS, setS, chg, Slot.val, Opd.fz, List.getElem?_cons_zero, List.getElem?_cons_succ, List.set_cons_zero, List.set_cons_succ, Option.bind_some, Option.map_some, Option.some.injEq, exists_eq_left', exists_eq_left, and_true, true_and, PL.D.int.injEq, PL.D.str.injEq, isiD, srcs, argsO, argO, argS, slotsO, once, back_f, back_t, back_0, List.tail_cons, List.tail_nil, back1, kept, outsE, List.take_succ_cons, List.take_zero, List.map_cons, List.map_nil, Option.getD_some, Bool.not_true, Bool.not_false, if_true, Bool.false_eq_true, if_false, reduceIte, List.length_cons, List.length_nil, ex_iteO, b_addI, b_addS, b_addT, b_addL, b_subI, b_mulI, b_mulS, b_mulL, b_mulT, b_fdv, b_mod, b_pow, e_int, e_str, e_bl, c_eq, c_ne, c_in, c_notin, c_lt, c_ltS, c_le, c_gt, c_ge, t_bl, t_non, t_int, t_tup, t_lst, t_str, s_lst, s_tup, s_str, l_lst, l_tup, l_str, l_int, l_listL, l_listT, l_tupL, l_tupT, m_strip, m_upper, m_count, m_find, z_lst, z_arg, z_tup, z_str, z_rev, i_lst, i_tup, i_str, i_rng, n_non, n_tru, n_fls, decide_eq_true_eq, Opd.v.injEq, at0, at1, at2, at3, at4, at5, ix60, ix61, ix62, ix63, ix64, ix65, Nat.reduceAdd, Nat.zero_add, List.count_cons, List.count_nil, Nat.reduceBEq, beq_self_eq_true, Bool.true_and, Bool.and_true, Bool.and_self, List.count_cons_self, wipeS]
    exact hP
theorem counted_ok {k : Nat} {w : Str} {t : Int} {P : PK} (hl : w.length ≤ 1000) (ht : tot LL.cps.toList w.cps.toList = t) (hP : P false (.bl (decide (1 ≤ (w.length : Int) ∧ (w.length : Int) ≤ 6 ∧ t = (w.length : Int)))) [.str w]) : Cl (O (k + 2)) "_law_counted" [.fz (.str w)] P := by
  have hs := sizeLine_eq
  refine cl_ok (d := e_law_counted.d) rfl rfl (by decide) ?_
  show Xs (ex (O (k + 1)) b_law_counted [.fz (.str w), .un, .un]) _
  unfold b_law_counted e_law_counted
  simp (maxSteps := 4000000) only [Y_ok, Y_ret, Y_rdv, Y_rdn, Y_rds, Y_cnv, Y_cnn, Y_cns, Y_wkv, Y_wkn, Y_wks, Y_var, Xs_nx, Xs_rt, Xs_bk, Xs_ct, Xs_skip, Xs_seq, Xs_ifs, Xs_set, Xs_stv, Xs_stn, Xs_sts, Xs_ret, Xs_rtv, Xs_rtn, Xs_rts, Xs_retN, Xs_exp, Xs_app, Xs_sset, Xs_fr, Y_int, Y_bool, Y_non, Y_str, Y_gl, Y_bin, Y_neg, Y_not, Y_and, Y_or, Y_ite, Y_cmp, Y_chain, Y_is, Y_tup, Y_lst, Y_sub, Y_sli, Y_rev, Y_blt, Y_mth, Y_isi, Y_cal, Y_lc, Y_nil, Y_cons, Y_cnil, Y_ccons, Y_rnil, Y_rcons, T_not, T_and, T_or, T_so, C_no, C_so, P_no, P_so, I_seq, I_rng, has, held, kp, wk, rtS, setS, chg, Slot.val, Opd.fz, List.getElem?_cons_zero, List.getElem?_cons_succ, List.set_cons_zero, List.set_cons_succ, Option.bind_some, Option.map_some, Option.some.injEq, exists_eq_left', exists_eq_left, and_true, true_and, PL.D.int.injEq, PL.D.str.injEq, isiD, srcs, argsO, argO, argS, slotsO, once, back_f, back_t, back_0, List.tail_cons, List.tail_nil, back1, kept, outsE, List.take_succ_cons, List.take_zero, List.map_cons, List.map_nil, Option.getD_some, Bool.not_true, Bool.not_false, if_true, Bool.false_eq_true, if_false, reduceIte, List.length_cons, List.length_nil, ex_iteO, b_addI, b_addS, b_addT, b_addL, b_subI, b_mulI, b_mulS, b_mulL, b_mulT, b_fdv, b_mod, b_pow, e_int, e_str, e_bl, c_eq, c_ne, c_in, c_notin, c_lt, c_ltS, c_le, c_gt, c_ge, t_bl, t_non, t_int, t_tup, t_lst, t_str, s_lst, s_tup, s_str, l_lst, l_tup, l_str, l_int, l_listL, l_listT, l_tupL, l_tupT, m_strip, m_upper, m_count, m_find, z_lst, z_arg, z_tup, z_str, z_rev, i_lst, i_tup, i_str, i_rng, n_non, n_tru, n_fls, decide_eq_true_eq, Opd.v.injEq, at0, at1, at2, at3, at4, at5, ix60, ix61, ix62, ix63, ix64, ix65, Nat.reduceAdd, Nat.zero_add, List.count_cons, List.count_nil, Nat.reduceBEq, beq_self_eq_true, Bool.true_and, Bool.and_true, Bool.and_self, List.count_cons_self, wipeS]
  refine letters_ok ?_
  simp (maxSteps := 4000000) only [Y_ok, Y_ret, Y_rdv, Y_rdn, Y_rds, Y_cnv, Y_cnn, Y_cns, Y_wkv, Y_wkn, Y_wks, Y_var, Xs_nx, Xs_rt, Xs_bk, Xs_ct, Xs_skip, Xs_seq, Xs_ifs, Xs_set, Xs_stv, Xs_stn, Xs_sts, Xs_ret, Xs_rtv, Xs_rtn, Xs_rts, Xs_retN, Xs_exp, Xs_app, Xs_sset, Xs_fr, Y_int, Y_bool, Y_non, Y_str, Y_gl, Y_bin, Y_neg, Y_not, Y_and, Y_or, Y_ite, Y_cmp, Y_chain, Y_is, Y_tup, Y_lst, Y_sub, Y_sli, Y_rev, Y_blt, Y_mth, Y_isi, Y_cal, Y_lc, Y_nil, Y_cons, Y_cnil, Y_ccons, Y_rnil, Y_rcons, T_not, T_and, T_or, T_so, C_no, C_so, P_no, P_so, I_seq, I_rng, has, held, kp, wk, rtS, setS, chg, Slot.val, Opd.fz, List.getElem?_cons_zero, List.getElem?_cons_succ, List.set_cons_zero, List.set_cons_succ, Option.bind_some, Option.map_some, Option.some.injEq, exists_eq_left', exists_eq_left, and_true, true_and, PL.D.int.injEq, PL.D.str.injEq, isiD, srcs, argsO, argO, argS, slotsO, once, back_f, back_t, back_0, List.tail_cons, List.tail_nil, back1, kept, outsE, List.take_succ_cons, List.take_zero, List.map_cons, List.map_nil, Option.getD_some, Bool.not_true, Bool.not_false, if_true, Bool.false_eq_true, if_false, reduceIte, List.length_cons, List.length_nil, ex_iteO, b_addI, b_addS, b_addT, b_addL, b_subI, b_mulI, b_mulS, b_mulL, b_mulT, b_fdv, b_mod, b_pow, e_int, e_str, e_bl, c_eq, c_ne, c_in, c_notin, c_lt, c_ltS, c_le, c_gt, c_ge, t_bl, t_non, t_int, t_tup, t_lst, t_str, s_lst, s_tup, s_str, l_lst, l_tup, l_str, l_int, l_listL, l_listT, l_tupL, l_tupT, m_strip, m_upper, m_count, m_find, z_lst, z_arg, z_tup, z_str, z_rev, i_lst, i_tup, i_str, i_rng, n_non, n_tru, n_fls, decide_eq_true_eq, Opd.v.injEq, at0, at1, at2, at3, at4, at5, ix60, ix61, ix62, ix63, ix64, ix65, Nat.reduceAdd, Nat.zero_add, List.count_cons, List.count_nil, Nat.reduceBEq, beq_self_eq_true, Bool.true_and, Bool.and_true, Bool.and_self, List.count_cons_self, wipeS]
  generalize LL = L at ht ⊢
  refine lp_ok (fun i e => ∃ m u, m = tot (L.cps.toList.take i) w.cps.toList ∧ e = [.fz (.str w), .fz (.int m), u] ∧ (u = .un ∨ ∃ x, u = .fz x)) ⟨0, .un, by rw [List.take_zero]; rfl, rfl, .inl rfl⟩ (fun i x e hx hi => ?_) (fun e hi => ?_)
  · obtain ⟨m, u, hm, rfl, hu⟩ := hi
    rw [List.getElem?_map] at hx
    obtain ⟨c, hc, rfl⟩ := Option.map_eq_some_iff.mp hx
    refine ⟨[.fz (.str w), .fz (.int m), .fz (.str ⟨#[c]⟩)], by rcases hu with rfl | ⟨_, rfl⟩ <;> rfl, ?_⟩
    simp (maxSteps := 4000000) only [Y_ok, Y_ret, Y_rdv, Y_rdn, Y_rds, Y_cnv, Y_cnn, Y_cns, Y_wkv, Y_wkn, Y_wks, Y_var, Xs_nx, Xs_rt, Xs_bk, Xs_ct, Xs_skip, Xs_seq, Xs_ifs, Xs_set, Xs_stv, Xs_stn, Xs_sts, Xs_ret, Xs_rtv, Xs_rtn, Xs_rts, Xs_retN, Xs_exp, Xs_app, Xs_sset, Xs_fr, Y_int, Y_bool, Y_non, Y_str, Y_gl, Y_bin, Y_neg, Y_not, Y_and, Y_or, Y_ite, Y_cmp, Y_chain, Y_is, Y_tup, Y_lst, Y_sub, Y_sli, Y_rev, Y_blt, Y_mth, Y_isi, Y_cal, Y_lc, Y_nil, Y_cons, Y_cnil, Y_ccons, Y_rnil, Y_rcons, T_not, T_and, T_or, T_so, C_no, C_so, P_no, P_so, I_seq, I_rng, has, held, kp, wk, rtS, setS, chg, Slot.val, Opd.fz, List.getElem?_cons_zero, List.getElem?_cons_succ, List.set_cons_zero, List.set_cons_succ, Option.bind_some, Option.map_some, Option.some.injEq, exists_eq_left', exists_eq_left, and_true, true_and, PL.D.int.injEq, PL.D.str.injEq, isiD, srcs, argsO, argO, argS, slotsO, once, back_f, back_t, back_0, List.tail_cons, List.tail_nil, back1, kept, outsE, List.take_succ_cons, List.take_zero, List.map_cons, List.map_nil, Option.getD_some, Bool.not_true, Bool.not_false, if_true, Bool.false_eq_true, if_false, reduceIte, List.length_cons, List.length_nil, ex_iteO, b_addI, b_addS, b_addT, b_addL, b_subI, b_mulI, b_mulS, b_mulL, b_mulT, b_fdv, b_mod, b_pow, e_int, e_str, e_bl, c_eq, c_ne, c_in, c_notin, c_lt, c_ltS, c_le, c_gt, c_ge, t_bl, t_non, t_int, t_tup, t_lst, t_str, s_lst, s_tup, s_str, l_lst, l_tup, l_str, l_int, l_listL, l_listT, l_tupL, l_tupT, m_strip, m_upper, m_count, m_find, z_lst, z_arg, z_tup, z_str, z_rev, i_lst, i_tup, i_str, i_rng, n_non, n_tru, n_fls, decide_eq_true_eq, Opd.v.injEq, at0, at1, at2, at3, at4, at5, ix60, ix61, ix62, ix63, ix64, ix65, Nat.reduceAdd, Nat.zero_add, List.count_cons, List.count_nil, Nat.reduceBEq, beq_self_eq_true, Bool.true_and, Bool.and_true, Bool.and_self, List.count_cons_self, wipeS]
    refine ⟨_, _, ?_, rfl, .inr ⟨_, rfl⟩⟩
    rw [List.take_add_one, hc, count_cnt, hm]
    unfold tot
    rw [List.map_append, List.sum_append]
    show _ = _ + (cnt c w.cps.toList + 0)
    omega
  · obtain ⟨m, u, hm, rfl, hu⟩ := hi
    rw [List.length_map, List.take_length, ht] at hm
    subst hm
    simp (maxSteps := 4000000) only [Y_ok, Y_ret, Y_rdv, Y_rdn, Y_rds, Y_cnv, Y_cnn, Y_cns, Y_wkv, Y_wkn, Y_wks, Y_var, Xs_nx, Xs_rt, Xs_bk, Xs_ct, Xs_skip, Xs_seq, Xs_ifs, Xs_set, Xs_stv, Xs_stn, Xs_sts, Xs_ret, Xs_rtv, Xs_rtn, Xs_rts, Xs_retN, Xs_exp, Xs_app, Xs_sset, Xs_fr, Y_int, Y_bool, Y_non, Y_str, Y_gl, Y_bin, Y_neg, Y_not, Y_and, Y_or, Y_ite, Y_cmp, Y_chain, Y_is, Y_tup, Y_lst, Y_sub, Y_sli, Y_rev, Y_blt, Y_mth, Y_isi, Y_cal, Y_lc, Y_nil, Y_cons, Y_cnil, Y_ccons, Y_rnil, Y_rcons, T_not, T_and, T_or, T_so, C_no, C_so, P_no, P_so, I_seq, I_rng, has, held, kp, wk, rtS, setS, chg, Slot.val, Opd.fz, List.getElem?_cons_zero, List.getElem?_cons_succ, List.set_cons_zero, List.set_cons_succ, Option.bind_some, Option.map_some, Option.some.injEq, exists_eq_left', exists_eq_left, and_true, true_and, PL.D.int.injEq, PL.D.str.injEq, isiD, srcs, argsO, argO, argS, slotsO, once, back_f, back_t, back_0, List.tail_cons, List.tail_nil, back1, kept, outsE, List.take_succ_cons, List.take_zero, List.map_cons, List.map_nil, Option.getD_some, Bool.not_true, Bool.not_false, if_true, Bool.false_eq_true, if_false, reduceIte, List.length_cons, List.length_nil, ex_iteO, b_addI, b_addS, b_addT, b_addL, b_subI, b_mulI, b_mulS, b_mulL, b_mulT, b_fdv, b_mod, b_pow, e_int, e_str, e_bl, c_eq, c_ne, c_in, c_notin, c_lt, c_ltS, c_le, c_gt, c_ge, t_bl, t_non, t_int, t_tup, t_lst, t_str, s_lst, s_tup, s_str, l_lst, l_tup, l_str, l_int, l_listL, l_listT, l_tupL, l_tupT, m_strip, m_upper, m_count, m_find, z_lst, z_arg, z_tup, z_str, z_rev, i_lst, i_tup, i_str, i_rng, n_non, n_tru, n_fls, decide_eq_true_eq, Opd.v.injEq, at0, at1, at2, at3, at4, at5, ix60, ix61, ix62, ix63, ix64, ix65, Nat.reduceAdd, Nat.zero_add, List.count_cons, List.count_nil, Nat.reduceBEq, beq_self_eq_true, Bool.true_and, Bool.and_true, Bool.and_self, List.count_cons_self, wipeS]
    refine ⟨by omega, ?_⟩
    by_cases c1 : 1 ≤ (w.length : Int)
    · rw [if_pos c1]
      try simp (maxSteps := 4000000) only [Y_ok, Y_ret, Y_rdv, Y_rdn, Y_rds, Y_cnv, Y_cnn, Y_cns, Y_wkv, Y_wkn, Y_wks, Y_var, Xs_nx, Xs_rt, Xs_bk, Xs_ct, Xs_skip, Xs_seq, Xs_ifs, Xs_set, Xs_stv, Xs_stn, Xs_sts, Xs_ret, Xs_rtv, Xs_rtn, Xs_rts, Xs_retN, Xs_exp, Xs_app, Xs_sset, Xs_fr, Y_int, Y_bool, Y_non, Y_str, Y_gl, Y_bin, Y_neg, Y_not, Y_and, Y_or, Y_ite, Y_cmp, Y_chain, Y_is, Y_tup, Y_lst, Y_sub, Y_sli, Y_rev, Y_blt, Y_mth, Y_isi, Y_cal, Y_lc, Y_nil, Y_cons, Y_cnil, Y_ccons, Y_rnil, Y_rcons, T_not, T_and, T_or, T_so, C_no, C_so, P_no, P_so, I_seq, I_rng, has, held, kp, wk, rtS, setS, chg, Slot.val, Opd.fz, List.getElem?_cons_zero, List.getElem?_cons_succ, List.set_cons_zero, List.set_cons_succ, Option.bind_some, Option.map_some, Option.some.injEq, exists_eq_left', exists_eq_left, and_true, true_and, PL.D.int.injEq, PL.D.str.injEq, isiD, srcs, argsO, argO, argS, slotsO, once, back_f, back_t, back_0, List.tail_cons, List.tail_nil, back1, kept, outsE, List.take_succ_cons, List.take_zero, List.map_cons, List.map_nil, Option.getD_some, Bool.not_true, Bool.not_false, if_true, Bool.false_eq_true, if_false, reduceIte, List.length_cons, List.length_nil, ex_iteO, b_addI, b_addS, b_addT, b_addL, b_subI, b_mulI, b_mulS, b_mulL, b_mulT, b_fdv, b_mod, b_pow, e_int, e_str, e_bl, c_eq, c_ne, c_in, c_notin, c_lt, c_ltS, c_le, c_gt, c_ge, t_bl, t_non, t_int, t_tup, t_lst, t_str, s_lst, s_tup, s_str, l_lst, l_tup, l_str, l_int, l_listL, l_listT, l_tupL, l_tupT, m_strip, m_upper, m_count, m_find, z_lst, z_arg, z_tup, z_str, z_rev, i_lst, i_tup, i_str, i_rng, n_non, n_tru, n_fls, decide_eq_true_eq, Opd.v.injEq, at0, at1, at2, at3, at4, at5, ix60, ix61, ix62, ix63, ix64, ix65, Nat.reduceAdd, Nat.zero_add, List.count_cons, List.count_nil, Nat.reduceBEq, beq_self_eq_true, Bool.true_and, Bool.and_true, Bool.and_self, List.count_cons_self, wipeS]
      by_cases c2 : (w.length : Int) ≤ 6
      · rw [if_pos c2]
        try simp (maxSteps := 4000000) only [Y_ok, Y_ret, Y_rdv, Y_rdn, Y_rds, Y_cnv, Y_cnn, Y_cns, Y_wkv, Y_wkn, Y_wks, Y_var, Xs_nx, Xs_rt, Xs_bk, Xs_ct, Xs_skip, Xs_seq, Xs_ifs, Xs_set, Xs_stv, Xs_stn, Xs_sts, Xs_ret, Xs_rtv, Xs_rtn, Xs_rts, Xs_retN, Xs_exp, Xs_app, Xs_sset, Xs_fr, Y_int, Y_bool, Y_non, Y_str, Y_gl, Y_bin, Y_neg, Y_not, Y_and, Y_or, Y_ite, Y_cmp, Y_chain, Y_is, Y_tup, Y_lst, Y_sub, Y_sli, Y_rev, Y_blt, Y_mth, Y_isi, Y_cal, Y_lc, Y_nil, Y_cons, Y_cnil, Y_ccons, Y_rnil, Y_rcons, T_not, T_and, T_or, T_so, C_no, C_so, P_no, P_so, I_seq, I_rng, has, held, kp, wk, rtS, setS, chg, Slot.val, Opd.fz, List.getElem?_cons_zero, List.getElem?_cons_succ, List.set_cons_zero, List.set_cons_succ, Option.bind_some, Option.map_some, Option.some.injEq, exists_eq_left', exists_eq_left, and_true, true_and, PL.D.int.injEq, PL.D.str.injEq, isiD, srcs, argsO, argO, argS, slotsO, once, back_f, back_t, back_0, List.tail_cons, List.tail_nil, back1, kept, outsE, List.take_succ_cons, List.take_zero, List.map_cons, List.map_nil, Option.getD_some, Bool.not_true, Bool.not_false, if_true, Bool.false_eq_true, if_false, reduceIte, List.length_cons, List.length_nil, ex_iteO, b_addI, b_addS, b_addT, b_addL, b_subI, b_mulI, b_mulS, b_mulL, b_mulT, b_fdv, b_mod, b_pow, e_int, e_str, e_bl, c_eq, c_ne, c_in, c_notin, c_lt, c_ltS, c_le, c_gt, c_ge, t_bl, t_non, t_int, t_tup, t_lst, t_str, s_lst, s_tup, s_str, l_lst, l_tup, l_str, l_int, l_listL, l_listT, l_tupL, l_tupT, m_strip, m_upper, m_count, m_find, z_lst, z_arg, z_tup, z_str, z_rev, i_lst, i_tup, i_str, i_rng, n_non, n_tru, n_fls, decide_eq_true_eq, Opd.v.injEq, at0, at1, at2, at3, at4, at5, ix60, ix61, ix62, ix63, ix64, ix65, Nat.reduceAdd, Nat.zero_add, List.count_cons, List.count_nil, Nat.reduceBEq, beq_self_eq_true, Bool.true_and, Bool.and_true, Bool.and_self, List.count_cons_self, wipeS]
        refine ⟨by omega, ?_⟩
        rw [show decide (1 ≤ (w.length : Int) ∧ (w.length : Int) ≤ 6 ∧ m = (w.length : Int)) = decide (m = (w.length : Int)) by simp only [c1, c2, true_and]] at hP
        exact hP
      · rw [if_neg c2]
        rw [decide_eq_false (fun z => c2 z.2.1)] at hP
        rw [decide_eq_false c2]
        exact hP
    · rw [if_neg c1]
      rw [decide_eq_false (fun z => c1 z.1)] at hP
      try simp (maxSteps := 4000000) only [Y_ok, Y_ret, Y_rdv, Y_rdn, Y_rds, Y_cnv, Y_cnn, Y_cns, Y_wkv, Y_wkn, Y_wks, Y_var, Xs_nx, Xs_rt, Xs_bk, Xs_ct, Xs_skip, Xs_seq, Xs_ifs, Xs_set, Xs_stv, Xs_stn, Xs_sts, Xs_ret, Xs_rtv, Xs_rtn, Xs_rts, Xs_retN, Xs_exp, Xs_app, Xs_sset, Xs_fr, Y_int, Y_bool, Y_non, Y_str, Y_gl, Y_bin, Y_neg, Y_not, Y_and, Y_or, Y_ite, Y_cmp, Y_chain, Y_is, Y_tup, Y_lst, Y_sub, Y_sli, Y_rev, Y_blt, Y_mth, Y_isi, Y_cal, Y_lc, Y_nil, Y_cons, Y_cnil, Y_ccons, Y_rnil, Y_rcons, T_not, T_and, T_or, T_so, C_no, C_so, P_no, P_so, I_seq, I_rng, has, held, kp, wk, rtS, setS, chg, Slot.val, Opd.fz, List.getElem?_cons_zero, List.getElem?_cons_succ, List.set_cons_zero, List.set_cons_succ, Option.bind_some, Option.map_some, Option.some.injEq, exists_eq_left', exists_eq_left, and_true, true_and, PL.D.int.injEq, PL.D.str.injEq, isiD, srcs, argsO, argO, argS, slotsO, once, back_f, back_t, back_0, List.tail_cons, List.tail_nil, back1, kept, outsE, List.take_succ_cons, List.take_zero, List.map_cons, List.map_nil, Option.getD_some, Bool.not_true, Bool.not_false, if_true, Bool.false_eq_true, if_false, reduceIte, List.length_cons, List.length_nil, ex_iteO, b_addI, b_addS, b_addT, b_addL, b_subI, b_mulI, b_mulS, b_mulL, b_mulT, b_fdv, b_mod, b_pow, e_int, e_str, e_bl, c_eq, c_ne, c_in, c_notin, c_lt, c_ltS, c_le, c_gt, c_ge, t_bl, t_non, t_int, t_tup, t_lst, t_str, s_lst, s_tup, s_str, l_lst, l_tup, l_str, l_int, l_listL, l_listT, l_tupL, l_tupT, m_strip, m_upper, m_count, m_find, z_lst, z_arg, z_tup, z_str, z_rev, i_lst, i_tup, i_str, i_rng, n_non, n_tru, n_fls, decide_eq_true_eq, Opd.v.injEq, at0, at1, at2, at3, at4, at5, ix60, ix61, ix62, ix63, ix64, ix65, Nat.reduceAdd, Nat.zero_add, List.count_cons, List.count_nil, Nat.reduceBEq, beq_self_eq_true, Bool.true_and, Bool.and_true, Bool.and_self, List.count_cons_self, wipeS]
      exact hP
theorem same_ok {k : Nat} {a b : Bool} {P : PK} (hP : P false (.bl (decide (a = b))) [.bl a, .bl b]) : Cl (O (k + 1)) "_law_same" [.fz (.bl a), .fz (.bl b)] P := by
  refine cl_ok (d := e_law_same.d) rfl rfl (by decide) ?_
  show Xs (ex (O k) b_law_same [.fz (.bl a), .fz (.bl b), .un]) _
  unfold b_law_same e_law_same
  simp (maxSteps := 4000000) only [Y_ok, Y_ret, Y_rdv, Y_rdn, Y_rds, Y_cnv, Y_cnn, Y_cns, Y_wkv, Y_wkn, Y_wks, Y_var, Xs_nx, Xs_rt, Xs_bk, Xs_ct, Xs_skip, Xs_seq, Xs_ifs, Xs_set, Xs_stv, Xs_stn, Xs_sts, Xs_ret, Xs_rtv, Xs_rtn, Xs_rts, Xs_retN, Xs_exp, Xs_app, Xs_sset, Xs_fr, Y_int, Y_bool, Y_non, Y_str, Y_gl, Y_bin, Y_neg, Y_not, Y_and, Y_or, Y_ite, Y_cmp, Y_chain, Y_is, Y_tup, Y_lst, Y_sub, Y_sli, Y_rev, Y_blt, Y_mth, Y_isi, Y_cal, Y_lc, Y_nil, Y_cons, Y_cnil, Y_ccons, Y_rnil, Y_rcons, T_not, T_and, T_or, T_so, C_no, C_so, P_no, P_so, I_seq, I_rng, has, held, kp, wk, rtS, setS, chg, Slot.val, Opd.fz, List.getElem?_cons_zero, List.getElem?_cons_succ, List.set_cons_zero, List.set_cons_succ, Option.bind_some, Option.map_some, Option.some.injEq, exists_eq_left', exists_eq_left, and_true, true_and, PL.D.int.injEq, PL.D.str.injEq, isiD, srcs, argsO, argO, argS, slotsO, once, back_f, back_t, back_0, List.tail_cons, List.tail_nil, back1, kept, outsE, List.take_succ_cons, List.take_zero, List.map_cons, List.map_nil, Option.getD_some, Bool.not_true, Bool.not_false, if_true, Bool.false_eq_true, if_false, reduceIte, List.length_cons, List.length_nil, ex_iteO, b_addI, b_addS, b_addT, b_addL, b_subI, b_mulI, b_mulS, b_mulL, b_mulT, b_fdv, b_mod, b_pow, e_int, e_str, e_bl, c_eq, c_ne, c_in, c_notin, c_lt, c_ltS, c_le, c_gt, c_ge, t_bl, t_non, t_int, t_tup, t_lst, t_str, s_lst, s_tup, s_str, l_lst, l_tup, l_str, l_int, l_listL, l_listT, l_tupL, l_tupT, m_strip, m_upper, m_count, m_find, z_lst, z_arg, z_tup, z_str, z_rev, i_lst, i_tup, i_str, i_rng, n_non, n_tru, n_fls, decide_eq_true_eq, Opd.v.injEq, at0, at1, at2, at3, at4, at5, ix60, ix61, ix62, ix63, ix64, ix65, Nat.reduceAdd, Nat.zero_add, List.count_cons, List.count_nil, Nat.reduceBEq, beq_self_eq_true, Bool.true_and, Bool.and_true, Bool.and_self, List.count_cons_self, wipeS]
  cases b with
  | true =>
    simp (maxSteps := 4000000) only [Y_ok, Y_ret, Y_rdv, Y_rdn, Y_rds, Y_cnv, Y_cnn, Y_cns, Y_wkv, Y_wkn, Y_wks, Y_var, Xs_nx, Xs_rt, Xs_bk, Xs_ct, Xs_skip, Xs_seq, Xs_ifs, Xs_set, Xs_stv, Xs_stn, Xs_sts, Xs_ret, Xs_rtv, Xs_rtn, Xs_rts, Xs_retN, Xs_exp, Xs_app, Xs_sset, Xs_fr, Y_int, Y_bool, Y_non, Y_str, Y_gl, Y_bin, Y_neg, Y_not, Y_and, Y_or, Y_ite, Y_cmp, Y_chain, Y_is, Y_tup, Y_lst, Y_sub, Y_sli, Y_rev, Y_blt, Y_mth, Y_isi, Y_cal, Y_lc, Y_nil, Y_cons, Y_cnil, Y_ccons, Y_rnil, Y_rcons, T_not, T_and, T_or, T_so, C_no, C_so, P_no, P_so, I_seq, I_rng, has, held, kp, wk, rtS, setS, chg, Slot.val, Opd.fz, List.getElem?_cons_zero, List.getElem?_cons_succ, List.set_cons_zero, List.set_cons_succ, Option.bind_some, Option.map_some, Option.some.injEq, exists_eq_left', exists_eq_left, and_true, true_and, PL.D.int.injEq, PL.D.str.injEq, isiD, srcs, argsO, argO, argS, slotsO, once, back_f, back_t, back_0, List.tail_cons, List.tail_nil, back1, kept, outsE, List.take_succ_cons, List.take_zero, List.map_cons, List.map_nil, Option.getD_some, Bool.not_true, Bool.not_false, if_true, Bool.false_eq_true, if_false, reduceIte, List.length_cons, List.length_nil, ex_iteO, b_addI, b_addS, b_addT, b_addL, b_subI, b_mulI, b_mulS, b_mulL, b_mulT, b_fdv, b_mod, b_pow, e_int, e_str, e_bl, c_eq, c_ne, c_in, c_notin, c_lt, c_ltS, c_le, c_gt, c_ge, t_bl, t_non, t_int, t_tup, t_lst, t_str, s_lst, s_tup, s_str, l_lst, l_tup, l_str, l_int, l_listL, l_listT, l_tupL, l_tupT, m_strip, m_upper, m_count, m_find, z_lst, z_arg, z_tup, z_str, z_rev, i_lst, i_tup, i_str, i_rng, n_non, n_tru, n_fls, decide_eq_true_eq, Opd.v.injEq, at0, at1, at2, at3, at4, at5, ix60, ix61, ix62, ix63, ix64, ix65, Nat.reduceAdd, Nat.zero_add, List.count_cons, List.count_nil, Nat.reduceBEq, beq_self_eq_true, Bool.true_and, Bool.and_true, Bool.and_self, List.count_cons_self, wipeS]
    cases a <;> exact hP
  | false =>
    simp (maxSteps := 4000000) only [Y_ok, Y_ret, Y_rdv, Y_rdn, Y_rds, Y_cnv, Y_cnn, Y_cns, Y_wkv, Y_wkn, Y_wks, Y_var, Xs_nx, Xs_rt, Xs_bk, Xs_ct, Xs_skip, Xs_seq, Xs_ifs, Xs_set, Xs_stv, Xs_stn, Xs_sts, Xs_ret, Xs_rtv, Xs_rtn, Xs_rts, Xs_retN, Xs_exp, Xs_app, Xs_sset, Xs_fr, Y_int, Y_bool, Y_non, Y_str, Y_gl, Y_bin, Y_neg, Y_not, Y_and, Y_or, Y_ite, Y_cmp, Y_chain, Y_is, Y_tup, Y_lst, Y_sub, Y_sli, Y_rev, Y_blt, Y_mth, Y_isi, Y_cal, Y_lc, Y_nil, Y_cons, Y_cnil, Y_ccons, Y_rnil, Y_rcons, T_not, T_and, T_or, T_so, C_no, C_so, P_no, P_so, I_seq, I_rng, has, held, kp, wk, rtS, setS, chg, Slot.val, Opd.fz, List.getElem?_cons_zero, List.getElem?_cons_succ, List.set_cons_zero, List.set_cons_succ, Option.bind_some, Option.map_some, Option.some.injEq, exists_eq_left', exists_eq_left, and_true, true_and, PL.D.int.injEq, PL.D.str.injEq, isiD, srcs, argsO, argO, argS, slotsO, once, back_f, back_t, back_0, List.tail_cons, List.tail_nil, back1, kept, outsE, List.take_succ_cons, List.take_zero, List.map_cons, List.map_nil, Option.getD_some, Bool.not_true, Bool.not_false, if_true, Bool.false_eq_true, if_false, reduceIte, List.length_cons, List.length_nil, ex_iteO, b_addI, b_addS, b_addT, b_addL, b_subI, b_mulI, b_mulS, b_mulL, b_mulT, b_fdv, b_mod, b_pow, e_int, e_str, e_bl, c_eq, c_ne, c_in, c_notin, c_lt, c_ltS, c_le, c_gt, c_ge, t_bl, t_non, t_int, t_tup, t_lst, t_str, s_lst, s_tup, s_str, l_lst, l_tup, l_str, l_int, l_listL, l_listT, l_tupL, l_tupT, m_strip, m_upper, m_count, m_find, z_lst, z_arg, z_tup, z_str, z_rev, i_lst, i_tup, i_str, i_rng, n_non, n_tru, n_fls, decide_eq_true_eq, Opd.v.injEq, at0, at1, at2, at3, at4, at5, ix60, ix61, ix62, ix63, ix64, ix65, Nat.reduceAdd, Nat.zero_add, List.count_cons, List.count_nil, Nat.reduceBEq, beq_self_eq_true, Bool.true_and, Bool.and_true, Bool.and_self, List.count_cons_self, wipeS]
    cases a <;> exact hP
theorem store_ok {k : Nat} {ns : List Int} {P : PK} (hl : ns.length ≤ 63) (hP : ∀ d, Sv d → P true d [.arg (ns.map .int)]) : Cl (O (k + 1)) "_law_store" [.fz (.arg (ns.map .int))] P := by
  have hs := sizeLine_eq
  refine cl_ok (d := e_law_store.d) rfl rfl (by decide) ?_
  show Xs (ex (O k) b_law_store [.fz (.arg (ns.map .int)), .un, .un, .un]) _
  unfold b_law_store e_law_store
  simp (maxSteps := 4000000) only [Y_ok, Y_ret, Y_rdv, Y_rdn, Y_rds, Y_cnv, Y_cnn, Y_cns, Y_wkv, Y_wkn, Y_wks, Y_var, Xs_nx, Xs_rt, Xs_bk, Xs_ct, Xs_skip, Xs_seq, Xs_ifs, Xs_set, Xs_stv, Xs_stn, Xs_sts, Xs_ret, Xs_rtv, Xs_rtn, Xs_rts, Xs_retN, Xs_exp, Xs_app, Xs_sset, Xs_fr, Y_int, Y_bool, Y_non, Y_str, Y_gl, Y_bin, Y_neg, Y_not, Y_and, Y_or, Y_ite, Y_cmp, Y_chain, Y_is, Y_tup, Y_lst, Y_sub, Y_sli, Y_rev, Y_blt, Y_mth, Y_isi, Y_cal, Y_lc, Y_nil, Y_cons, Y_cnil, Y_ccons, Y_rnil, Y_rcons, T_not, T_and, T_or, T_so, C_no, C_so, P_no, P_so, I_seq, I_rng, has, held, kp, wk, rtS, setS, chg, Slot.val, Opd.fz, List.getElem?_cons_zero, List.getElem?_cons_succ, List.set_cons_zero, List.set_cons_succ, Option.bind_some, Option.map_some, Option.some.injEq, exists_eq_left', exists_eq_left, and_true, true_and, PL.D.int.injEq, PL.D.str.injEq, isiD, srcs, argsO, argO, argS, slotsO, once, back_f, back_t, back_0, List.tail_cons, List.tail_nil, back1, kept, outsE, List.take_succ_cons, List.take_zero, List.map_cons, List.map_nil, Option.getD_some, Bool.not_true, Bool.not_false, if_true, Bool.false_eq_true, if_false, reduceIte, List.length_cons, List.length_nil, ex_iteO, b_addI, b_addS, b_addT, b_addL, b_subI, b_mulI, b_mulS, b_mulL, b_mulT, b_fdv, b_mod, b_pow, e_int, e_str, e_bl, c_eq, c_ne, c_in, c_notin, c_lt, c_ltS, c_le, c_gt, c_ge, t_bl, t_non, t_int, t_tup, t_lst, t_str, s_lst, s_tup, s_str, l_lst, l_tup, l_str, l_int, l_listL, l_listT, l_tupL, l_tupT, m_strip, m_upper, m_count, m_find, z_lst, z_arg, z_tup, z_str, z_rev, i_lst, i_tup, i_str, i_rng, n_non, n_tru, n_fls, decide_eq_true_eq, Opd.v.injEq, at0, at1, at2, at3, at4, at5, ix60, ix61, ix62, ix63, ix64, ix65, Nat.reduceAdd, Nat.zero_add, List.count_cons, List.count_nil, Nat.reduceBEq, beq_self_eq_true, Bool.true_and, Bool.and_true, Bool.and_self, List.count_cons_self, wipeS]
  refine ⟨by decide, ?_⟩
  have hcut : ∀ x ∈ PL.cutD (ns.map D.int) none (some 63), ∃ i, x = .int i := fun x hx => by
    have : x ∈ ns.map D.int := by
      unfold PL.cutD at hx
      exact List.mem_of_mem_drop (List.mem_of_mem_take hx)
    obtain ⟨i, _, rfl⟩ := List.mem_map.mp this
    exact ⟨i, rfl⟩
  have hcl : (PL.cutD (ns.map D.int) none (some 63)).length ≤ 63 := by
    unfold PL.cutD
    rw [List.length_take, List.length_drop, List.length_map]
    omega
  refine lp_ok (fun i e => ∃ (cs : List Int) (t : Int) (u : Slot), cs.length = i ∧ e = [.fz (.arg (ns.map .int)), .ow (.lst (cs.map .int)), .fz (.int t), u] ∧ (u = .un ∨ ∃ x, u = .fz x)) ⟨[], 5, .un, rfl, rfl, .inl rfl⟩ (fun i x e hx hi => ?_) (fun e hi => ?_)
  · obtain ⟨cs, t, u, hc, rfl, hu⟩ := hi
    obtain ⟨c, rfl⟩ := hcut x (List.mem_of_getElem? hx)
    have hi6 := (List.getElem?_eq_some_iff.mp hx).1
    refine ⟨[.fz (.arg (ns.map .int)), .ow (.lst (cs.map .int)), .fz (.int t), .fz (.int c)], by rcases hu with rfl | ⟨_, rfl⟩ <;> rfl, ?_⟩
    simp (maxSteps := 4000000) only [Y_ok, Y_ret, Y_rdv, Y_rdn, Y_rds, Y_cnv, Y_cnn, Y_cns, Y_wkv, Y_wkn, Y_wks, Y_var, Xs_nx, Xs_rt, Xs_bk, Xs_ct, Xs_skip, Xs_seq, Xs_ifs, Xs_set, Xs_stv, Xs_stn, Xs_sts, Xs_ret, Xs_rtv, Xs_rtn, Xs_rts, Xs_retN, Xs_exp, Xs_app, Xs_sset, Xs_fr, Y_int, Y_bool, Y_non, Y_str, Y_gl, Y_bin, Y_neg, Y_not, Y_and, Y_or, Y_ite, Y_cmp, Y_chain, Y_is, Y_tup, Y_lst, Y_sub, Y_sli, Y_rev, Y_blt, Y_mth, Y_isi, Y_cal, Y_lc, Y_nil, Y_cons, Y_cnil, Y_ccons, Y_rnil, Y_rcons, T_not, T_and, T_or, T_so, C_no, C_so, P_no, P_so, I_seq, I_rng, has, held, kp, wk, rtS, setS, chg, Slot.val, Opd.fz, List.getElem?_cons_zero, List.getElem?_cons_succ, List.set_cons_zero, List.set_cons_succ, Option.bind_some, Option.map_some, Option.some.injEq, exists_eq_left', exists_eq_left, and_true, true_and, PL.D.int.injEq, PL.D.str.injEq, isiD, srcs, argsO, argO, argS, slotsO, once, back_f, back_t, back_0, List.tail_cons, List.tail_nil, back1, kept, outsE, List.take_succ_cons, List.take_zero, List.map_cons, List.map_nil, Option.getD_some, Bool.not_true, Bool.not_false, if_true, Bool.false_eq_true, if_false, reduceIte, List.length_cons, List.length_nil, ex_iteO, b_addI, b_addS, b_addT, b_addL, b_subI, b_mulI, b_mulS, b_mulL, b_mulT, b_fdv, b_mod, b_pow, e_int, e_str, e_bl, c_eq, c_ne, c_in, c_notin, c_lt, c_ltS, c_le, c_gt, c_ge, t_bl, t_non, t_int, t_tup, t_lst, t_str, s_lst, s_tup, s_str, l_lst, l_tup, l_str, l_int, l_listL, l_listT, l_tupL, l_tupT, m_strip, m_upper, m_count, m_find, z_lst, z_arg, z_tup, z_str, z_rev, i_lst, i_tup, i_str, i_rng, n_non, n_tru, n_fls, decide_eq_true_eq, Opd.v.injEq, at0, at1, at2, at3, at4, at5, ix60, ix61, ix62, ix63, ix64, ix65, Nat.reduceAdd, Nat.zero_add, List.count_cons, List.count_nil, Nat.reduceBEq, beq_self_eq_true, Bool.true_and, Bool.and_true, Bool.and_self, List.count_cons_self, wipeS]
    rw [if_pos (by rw [List.length_map]; omega)]
    simp (maxSteps := 4000000) only [Y_ok, Y_ret, Y_rdv, Y_rdn, Y_rds, Y_cnv, Y_cnn, Y_cns, Y_wkv, Y_wkn, Y_wks, Y_var, Xs_nx, Xs_rt, Xs_bk, Xs_ct, Xs_skip, Xs_seq, Xs_ifs, Xs_set, Xs_stv, Xs_stn, Xs_sts, Xs_ret, Xs_rtv, Xs_rtn, Xs_rts, Xs_retN, Xs_exp, Xs_app, Xs_sset, Xs_fr, Y_int, Y_bool, Y_non, Y_str, Y_gl, Y_bin, Y_neg, Y_not, Y_and, Y_or, Y_ite, Y_cmp, Y_chain, Y_is, Y_tup, Y_lst, Y_sub, Y_sli, Y_rev, Y_blt, Y_mth, Y_isi, Y_cal, Y_lc, Y_nil, Y_cons, Y_cnil, Y_ccons, Y_rnil, Y_rcons, T_not, T_and, T_or, T_so, C_no, C_so, P_no, P_so, I_seq, I_rng, has, held, kp, wk, rtS, setS, chg, Slot.val, Opd.fz, List.getElem?_cons_zero, List.getElem?_cons_succ, List.set_cons_zero, List.set_cons_succ, Option.bind_some, Option.map_some, Option.some.injEq, exists_eq_left', exists_eq_left, and_true, true_and, PL.D.int.injEq, PL.D.str.injEq, isiD, srcs, argsO, argO, argS, slotsO, once, back_f, back_t, back_0, List.tail_cons, List.tail_nil, back1, kept, outsE, List.take_succ_cons, List.take_zero, List.map_cons, List.map_nil, Option.getD_some, Bool.not_true, Bool.not_false, if_true, Bool.false_eq_true, if_false, reduceIte, List.length_cons, List.length_nil, ex_iteO, b_addI, b_addS, b_addT, b_addL, b_subI, b_mulI, b_mulS, b_mulL, b_mulT, b_fdv, b_mod, b_pow, e_int, e_str, e_bl, c_eq, c_ne, c_in, c_notin, c_lt, c_ltS, c_le, c_gt, c_ge, t_bl, t_non, t_int, t_tup, t_lst, t_str, s_lst, s_tup, s_str, l_lst, l_tup, l_str, l_int, l_listL, l_listT, l_tupL, l_tupT, m_strip, m_upper, m_count, m_find, z_lst, z_arg, z_tup, z_str, z_rev, i_lst, i_tup, i_str, i_rng, n_non, n_tru, n_fls, decide_eq_true_eq, Opd.v.injEq, at0, at1, at2, at3, at4, at5, ix60, ix61, ix62, ix63, ix64, ix65, Nat.reduceAdd, Nat.zero_add, List.count_cons, List.count_nil, Nat.reduceBEq, beq_self_eq_true, Bool.true_and, Bool.and_true, Bool.and_self, List.count_cons_self, wipeS]
    refine ⟨sm_r (by decide) (by decide), by decide, by decide, ?_⟩
    exact ⟨cs ++ [c], _, _, by rw [List.length_append, hc]; rfl, by rw [List.map_append]; rfl, .inr ⟨_, rfl⟩⟩
  · obtain ⟨cs, t, u, hc, rfl, hu⟩ := hi
    simp (maxSteps := 4000000) only [Y_ok, Y_ret, Y_rdv, Y_rdn, Y_rds, Y_cnv, Y_cnn, Y_cns, Y_wkv, Y_wkn, Y_wks, Y_var, Xs_nx, Xs_rt, Xs_bk, Xs_ct, Xs_skip, Xs_seq, Xs_ifs, Xs_set, Xs_stv, Xs_stn, Xs_sts, Xs_ret, Xs_rtv, Xs_rtn, Xs_rts, Xs_retN, Xs_exp, Xs_app, Xs_sset, Xs_fr, Y_int, Y_bool, Y_non, Y_str, Y_gl, Y_bin, Y_neg, Y_not, Y_and, Y_or, Y_ite, Y_cmp, Y_chain, Y_is, Y_tup, Y_lst, Y_sub, Y_sli, Y_rev, Y_blt, Y_mth, Y_isi, Y_cal, Y_lc, Y_nil, Y_cons, Y_cnil, Y_ccons, Y_rnil, Y_rcons, T_not, T_and, T_or, T_so, C_no, C_so, P_no, P_so, I_seq, I_rng, has, held, kp, wk, rtS, setS, chg, Slot.val, Opd.fz, List.getElem?_cons_zero, List.getElem?_cons_succ, List.set_cons_zero, List.set_cons_succ, Option.bind_some, Option.map_some, Option.some.injEq, exists_eq_left', exists_eq_left, and_true, true_and, PL.D.int.injEq, PL.D.str.injEq, isiD, srcs, argsO, argO, argS, slotsO, once, back_f, back_t, back_0, List.tail_cons, List.tail_nil, back1, kept, outsE, List.take_succ_cons, List.take_zero, List.map_cons, List.map_nil, Option.getD_some, Bool.not_true, Bool.not_false, if_true, Bool.false_eq_true, if_false, reduceIte, List.length_cons, List.length_nil, ex_iteO, b_addI, b_addS, b_addT, b_addL, b_subI, b_mulI, b_mulS, b_mulL, b_mulT, b_fdv, b_mod, b_pow, e_int, e_str, e_bl, c_eq, c_ne, c_in, c_notin, c_lt, c_ltS, c_le, c_gt, c_ge, t_bl, t_non, t_int, t_tup, t_lst, t_str, s_lst, s_tup, s_str, l_lst, l_tup, l_str, l_int, l_listL, l_listT, l_tupL, l_tupT, m_strip, m_upper, m_count, m_find, z_lst, z_arg, z_tup, z_str, z_rev, i_lst, i_tup, i_str, i_rng, n_non, n_tru, n_fls, decide_eq_true_eq, Opd.v.injEq, at0, at1, at2, at3, at4, at5, ix60, ix61, ix62, ix63, ix64, ix65, Nat.reduceAdd, Nat.zero_add, List.count_cons, List.count_nil, Nat.reduceBEq, beq_self_eq_true, Bool.true_and, Bool.and_true, Bool.and_self, List.count_cons_self, wipeS]
    refine ⟨by decide, hP _ ⟨cs, 0, 0, 0, 0, t, Int.le_refl _, rfl⟩⟩
end K00
namespace K00
open PL L2 PySem PySem.Spec PyProof.Rows
theorem words_ok {k : Nat} {d : D} {P : PK} (h : Sv d) (hP : ∀ (ws : List Str) d', (∀ w ∈ ws, w.length ≤ 1000) → Sv d' → P true (.lst (ws.map .str)) [d']) : Cl (O (k + 7)) "_law_words" [.io d] P := by
  have hs := sizeLine_eq
  have l1 := ll_len
  have l2 := sg_len
  refine cl_ok (d := e_law_words.d) rfl rfl (by decide) ?_
  show Xs (ex (O (k + 6)) b_law_words [.io d, .un, .un, .un, .un, .un, .un, .un]) _
  unfold b_law_words e_law_words
  simp (maxSteps := 4000000) only [Y_ok, Y_ret, Y_rdv, Y_rdn, Y_rds, Y_cnv, Y_cnn, Y_cns, Y_wkv, Y_wkn, Y_wks, Y_var, Xs_nx, Xs_rt, Xs_bk, Xs_ct, Xs_skip, Xs_seq, Xs_ifs, Xs_set, Xs_stv, Xs_stn, Xs_sts, Xs_ret, Xs_rtv, Xs_rtn, Xs_rts, Xs_retN, Xs_exp, Xs_app, Xs_sset, Xs_fr, Y_int, Y_bool, Y_non, Y_str, Y_gl, Y_bin, Y_neg, Y_not, Y_and, Y_or, Y_ite, Y_cmp, Y_chain, Y_is, Y_tup, Y_lst, Y_sub, Y_sli, Y_rev, Y_blt, Y_mth, Y_isi, Y_cal, Y_lc, Y_nil, Y_cons, Y_cnil, Y_ccons, Y_rnil, Y_rcons, T_not, T_and, T_or, T_so, C_no, C_so, P_no, P_so, I_seq, I_rng, has, held, kp, wk, rtS, setS, chg, Slot.val, Opd.fz, List.getElem?_cons_zero, List.getElem?_cons_succ, List.set_cons_zero, List.set_cons_succ, Option.bind_some, Option.map_some, Option.some.injEq, exists_eq_left', exists_eq_left, and_true, true_and, PL.D.int.injEq, PL.D.str.injEq, isiD, srcs, argsO, argO, argS, slotsO, once, back_f, back_t, back_0, List.tail_cons, List.tail_nil, back1, kept, outsE, List.take_succ_cons, List.take_zero, List.map_cons, List.map_nil, Option.getD_some, Bool.not_true, Bool.not_false, if_true, Bool.false_eq_true, if_false, reduceIte, List.length_cons, List.length_nil, ex_iteO, b_addI, b_addS, b_addT, b_addL, b_subI, b_mulI, b_mulS, b_mulL, b_mulT, b_fdv, b_mod, b_pow, e_int, e_str, e_bl, c_eq, c_ne, c_in, c_notin, c_lt, c_ltS, c_le, c_gt, c_ge, t_bl, t_non, t_int, t_tup, t_lst, t_str, s_lst, s_tup, s_str, l_lst, l_tup, l_str, l_int, l_listL, l_listT, l_tupL, l_tupT, m_strip, m_upper, m_count, m_find, z_lst, z_arg, z_tup, z_str, z_rev, i_lst, i_tup, i_str, i_rng, n_non, n_tru, n_fls, decide_eq_true_eq, Opd.v.injEq, at0, at1, at2, at3, at4, at5, ix60, ix61, ix62, ix63, ix64, ix65, Nat.reduceAdd, Nat.zero_add, List.count_cons, List.count_nil, Nat.reduceBEq, beq_self_eq_true, Bool.true_and, Bool.and_true, Bool.and_self, List.count_cons_self, wipeS]
  refine name_ok h fun st d t1 t2 h => ?_
  simp (maxSteps := 4000000) only [Y_ok, Y_ret, Y_rdv, Y_rdn, Y_rds, Y_cnv, Y_cnn, Y_cns, Y_wkv, Y_wkn, Y_wks, Y_var, Xs_nx, Xs_rt, Xs_bk, Xs_ct, Xs_skip, Xs_seq, Xs_ifs, Xs_set, Xs_stv, Xs_stn, Xs_sts, Xs_ret, Xs_rtv, Xs_rtn, Xs_rts, Xs_retN, Xs_exp, Xs_app, Xs_sset, Xs_fr, Y_int, Y_bool, Y_non, Y_str, Y_gl, Y_bin, Y_neg, Y_not, Y_and, Y_or, Y_ite, Y_cmp, Y_chain, Y_is, Y_tup, Y_lst, Y_sub, Y_sli, Y_rev, Y_blt, Y_mth, Y_isi, Y_cal, Y_lc, Y_nil, Y_cons, Y_cnil, Y_ccons, Y_rnil, Y_rcons, T_not, T_and, T_or, T_so, C_no, C_so, P_no, P_so, I_seq, I_rng, has, held, kp, wk, rtS, setS, chg, Slot.val, Opd.fz, List.getElem?_cons_zero, List.getElem?_cons_succ, List.set_cons_zero, List.set_cons_succ, Option.bind_some, Option.map_some, Option.some.injEq, exists_eq_left', exists_eq_left, and_true, true_and, PL.D.int.injEq, PL.D.str.injEq, isiD, srcs, argsO, argO, argS, slotsO, once, back_f, back_t, back_0, List.tail_cons, List.tail_nil, back1, kept, outsE, List.take_succ_cons, List.take_zero, List.map_cons, List.map_nil, Option.getD_some, Bool.not_true, Bool.not_false, if_true, Bool.false_eq_true, if_false, reduceIte, List.length_cons, List.length_nil, ex_iteO, b_addI, b_addS, b_addT, b_addL, b_subI, b_mulI, b_mulS, b_mulL, b_mulT, b_fdv, b_mod, b_pow, e_int, e_str, e_bl, c_eq, c_ne, c_in, c_notin, c_lt, c_ltS, c_le, c_gt, c_ge, t_bl, t_non, t_int, t_tup, t_lst, t_str, s_lst, s_tup, s_str, l_lst, l_tup, l_str, l_int, l_listL, l_listT, l_tupL, l_tupT, m_strip, m_upper, m_count, m_find, z_lst, z_arg, z_tup, z_str, z_rev, i_lst, i_tup, i_str, i_rng, n_non, n_tru, n_fls, decide_eq_true_eq, Opd.v.injEq, at0, at1, at2, at3, at4, at5, ix60, ix61, ix62, ix63, ix64, ix65, Nat.reduceAdd, Nat.zero_add, List.count_cons, List.count_nil, Nat.reduceBEq, beq_self_eq_true, Bool.true_and, Bool.and_true, Bool.and_self, List.count_cons_self, wipeS]
  refine name_ok h fun z d h1 h2 h => ?_
  simp (maxSteps := 4000000) only [Y_ok, Y_ret, Y_rdv, Y_rdn, Y_rds, Y_cnv, Y_cnn, Y_cns, Y_wkv, Y_wkn, Y_wks, Y_var, Xs_nx, Xs_rt, Xs_bk, Xs_ct, Xs_skip, Xs_seq, Xs_ifs, Xs_set, Xs_stv, Xs_stn, Xs_sts, Xs_ret, Xs_rtv, Xs_rtn, Xs_rts, Xs_retN, Xs_exp, Xs_app, Xs_sset, Xs_fr, Y_int, Y_bool, Y_non, Y_str, Y_gl, Y_bin, Y_neg, Y_not, Y_and, Y_or, Y_ite, Y_cmp, Y_chain, Y_is, Y_tup, Y_lst, Y_sub, Y_sli, Y_rev, Y_blt, Y_mth, Y_isi, Y_cal, Y_lc, Y_nil, Y_cons, Y_cnil, Y_ccons, Y_rnil, Y_rcons, T_not, T_and, T_or, T_so, C_no, C_so, P_no, P_so, I_seq, I_rng, has, held, kp, wk, rtS, setS, chg, Slot.val, Opd.fz, List.getElem?_cons_zero, List.getElem?_cons_succ, List.set_cons_zero, List.set_cons_succ, Option.bind_some, Option.map_some, Option.some.injEq, exists_eq_left', exists_eq_left, and_true, true_and, PL.D.int.injEq, PL.D.str.injEq, isiD, srcs, argsO, argO, argS, slotsO, once, back_f, back_t, back_0, List.tail_cons, List.tail_nil, back1, kept, outsE, List.take_succ_cons, List.take_zero, List.map_cons, List.map_nil, Option.getD_some, Bool.not_true, Bool.not_false, if_true, Bool.false_eq_true, if_false, reduceIte, List.length_cons, List.length_nil, ex_iteO, b_addI, b_addS, b_addT, b_addL, b_subI, b_mulI, b_mulS, b_mulL, b_mulT, b_fdv, b_mod, b_pow, e_int, e_str, e_bl, c_eq, c_ne, c_in, c_notin, c_lt, c_ltS, c_le, c_gt, c_ge, t_bl, t_non, t_int, t_tup, t_lst, t_str, s_lst, s_tup, s_str, l_lst, l_tup, l_str, l_int, l_listL, l_listT, l_tupL, l_tupT, m_strip, m_upper, m_count, m_find, z_lst, z_arg, z_tup, z_str, z_rev, i_lst, i_tup, i_str, i_rng, n_non, n_tru, n_fls, decide_eq_true_eq, Opd.v.injEq, at0, at1, at2, at3, at4, at5, ix60, ix61, ix62, ix63, ix64, ix65, Nat.reduceAdd, Nat.zero_add, List.count_cons, List.count_nil, Nat.reduceBEq, beq_self_eq_true, Bool.true_and, Bool.and_true, Bool.and_self, List.count_cons_self, wipeS]
  refine ⟨by omega, take' h (by omega) fun at_ d a0 a1 h => ?_⟩
  simp (maxSteps := 4000000) only [Y_ok, Y_ret, Y_rdv, Y_rdn, Y_rds, Y_cnv, Y_cnn, Y_cns, Y_wkv, Y_wkn, Y_wks, Y_var, Xs_nx, Xs_rt, Xs_bk, Xs_ct, Xs_skip, Xs_seq, Xs_ifs, Xs_set, Xs_stv, Xs_stn, Xs_sts, Xs_ret, Xs_rtv, Xs_rtn, Xs_rts, Xs_retN, Xs_exp, Xs_app, Xs_sset, Xs_fr, Y_int, Y_bool, Y_non, Y_str, Y_gl, Y_bin, Y_neg, Y_not, Y_and, Y_or, Y_ite, Y_cmp, Y_chain, Y_is, Y_tup, Y_lst, Y_sub, Y_sli, Y_rev, Y_blt, Y_mth, Y_isi, Y_cal, Y_lc, Y_nil, Y_cons, Y_cnil, Y_ccons, Y_rnil, Y_rcons, T_not, T_and, T_or, T_so, C_no, C_so, P_no, P_so, I_seq, I_rng, has, held, kp, wk, rtS, setS, chg, Slot.val, Opd.fz, List.getElem?_cons_zero, List.getElem?_cons_succ, List.set_cons_zero, List.set_cons_succ, Option.bind_some, Option.map_some, Option.some.injEq, exists_eq_left', exists_eq_left, and_true, true_and, PL.D.int.injEq, PL.D.str.injEq, isiD, srcs, argsO, argO, argS, slotsO, once, back_f, back_t, back_0, List.tail_cons, List.tail_nil, back1, kept, outsE, List.take_succ_cons, List.take_zero, List.map_cons, List.map_nil, Option.getD_some, Bool.not_true, Bool.not_false, if_true, Bool.false_eq_true, if_false, reduceIte, List.length_cons, List.length_nil, ex_iteO, b_addI, b_addS, b_addT, b_addL, b_subI, b_mulI, b_mulS, b_mulL, b_mulT, b_fdv, b_mod, b_pow, e_int, e_str, e_bl, c_eq, c_ne, c_in, c_notin, c_lt, c_ltS, c_le, c_gt, c_ge, t_bl, t_non, t_int, t_tup, t_lst, t_str, s_lst, s_tup, s_str, l_lst, l_tup, l_str, l_int, l_listL, l_listT, l_tupL, l_tupT, m_strip, m_upper, m_count, m_find, z_lst, z_arg, z_tup, z_str, z_rev, i_lst, i_tup, i_str, i_rng, n_non, n_tru, n_fls, decide_eq_true_eq, Opd.v.injEq, at0, at1, at2, at3, at4, at5, ix60, ix61, ix62, ix63, ix64, ix65, Nat.reduceAdd, Nat.zero_add, List.count_cons, List.count_nil, Nat.reduceBEq, beq_self_eq_true, Bool.true_and, Bool.and_true, Bool.and_self, List.count_cons_self, wipeS]
  refine ⟨⟨by decide, by decide, by decide, by decide⟩, by rw [List.length_map, List.length_range]; decide, ?_⟩
  refine Y.mono (lc_ok (acc := []) (P := fun acc e => ∃ (ws : List Str) (u : Slot), acc = ws.map .str ∧ (∀ w ∈ ws, w.length ≤ 1000) ∧ ws.length ≤ 13 ∧ e = [.io d, .fz (.str st), .fz (.str z), .fz (.int at_), .un, .un, .un, u] ∧ (u = .un ∨ ∃ x, u = .fz x)) (fun i acc e => ∃ (ws : List Str) (u : Slot), acc = ws.map .str ∧ (∀ w ∈ ws, w.length ≤ 1000) ∧ ws.length ≤ i ∧ e = [.io d, .fz (.str st), .fz (.str z), .fz (.int at_), .un, .un, .un, u] ∧ (u = .un ∨ ∃ x, u = .fz x)) ⟨[], .un, rfl, fun _ q => (by cases q), Nat.le_refl _, rfl, .inl rfl⟩ (fun i x e acc hx hi => ?_) (fun acc e hi => ?_)) (fun acc e hi => ?_)
  · obtain ⟨ws, u, rfl, hw, hl, rfl, hu⟩ := hi
    rw [List.getElem?_map] at hx
    obtain ⟨j, hj, rfl⟩ := Option.map_eq_some_iff.mp hx
    refine ⟨[.io d, .fz (.str st), .fz (.str z), .fz (.int at_), .un, .un, .un, .fz (.int (0 + j))], rfl, ?_⟩
    have m1 := mul_len st (n := 13) (by decide)
    have m2 := cutS_length (Txt.mul st 13) none (some (0 + (j : Int)))
    simp (maxSteps := 4000000) only [Y_ok, Y_ret, Y_rdv, Y_rdn, Y_rds, Y_cnv, Y_cnn, Y_cns, Y_wkv, Y_wkn, Y_wks, Y_var, Xs_nx, Xs_rt, Xs_bk, Xs_ct, Xs_skip, Xs_seq, Xs_ifs, Xs_set, Xs_stv, Xs_stn, Xs_sts, Xs_ret, Xs_rtv, Xs_rtn, Xs_rts, Xs_retN, Xs_exp, Xs_app, Xs_sset, Xs_fr, Y_int, Y_bool, Y_non, Y_str, Y_gl, Y_bin, Y_neg, Y_not, Y_and, Y_or, Y_ite, Y_cmp, Y_chain, Y_is, Y_tup, Y_lst, Y_sub, Y_sli, Y_rev, Y_blt, Y_mth, Y_isi, Y_cal, Y_lc, Y_nil, Y_cons, Y_cnil, Y_ccons, Y_rnil, Y_rcons, T_not, T_and, T_or, T_so, C_no, C_so, P_no, P_so, I_seq, I_rng, has, held, kp, wk, rtS, setS, chg, Slot.val, Opd.fz, List.getElem?_cons_zero, List.getElem?_cons_succ, List.set_cons_zero, List.set_cons_succ, Option.bind_some, Option.map_some, Option.some.injEq, exists_eq_left', exists_eq_left, and_true, true_and, PL.D.int.injEq, PL.D.str.injEq, isiD, srcs, argsO, argO, argS, slotsO, once, back_f, back_t, back_0, List.tail_cons, List.tail_nil, back1, kept, outsE, List.take_succ_cons, List.take_zero, List.map_cons, List.map_nil, Option.getD_some, Bool.not_true, Bool.not_false, if_true, Bool.false_eq_true, if_false, reduceIte, List.length_cons, List.length_nil, ex_iteO, b_addI, b_addS, b_addT, b_addL, b_subI, b_mulI, b_mulS, b_mulL, b_mulT, b_fdv, b_mod, b_pow, e_int, e_str, e_bl, c_eq, c_ne, c_in, c_notin, c_lt, c_ltS, c_le, c_gt, c_ge, t_bl, t_non, t_int, t_tup, t_lst, t_str, s_lst, s_tup, s_str, l_lst, l_tup, l_str, l_int, l_listL, l_listT, l_tupL, l_tupT, m_strip, m_upper, m_count, m_find, z_lst, z_arg, z_tup, z_str, z_rev, i_lst, i_tup, i_str, i_rng, n_non, n_tru, n_fls, decide_eq_true_eq, Opd.v.injEq, at0, at1, at2, at3, at4, at5, ix60, ix61, ix62, ix63, ix64, ix65, Nat.reduceAdd, Nat.zero_add, List.count_cons, List.count_nil, Nat.reduceBEq, beq_self_eq_true, Bool.true_and, Bool.and_true, Bool.and_self, List.count_cons_self, wipeS, Y_bind]
    refine ⟨⟨by decide, by decide, by omega⟩, by omega, ?_⟩
    refine ⟨ws ++ [cutS (Txt.mul st 13) none (some (0 + (j : Int)))], _, by rw [List.map_append]; rfl, fun w q => ?_, by rw [List.length_append, List.length_singleton]; omega, rfl, .inr ⟨_, rfl⟩⟩
    rcases List.mem_append.mp q with q | q
    · exact hw w q
    · cases List.mem_singleton.mp q
      omega
  · obtain ⟨ws, u, rfl, hw, hl, rfl, hu⟩ := hi
    rw [List.length_map, List.length_range] at hl
    exact ⟨ws, u, rfl, hw, hl, rfl, hu⟩
  · have hi : ∃ (ws : List Str) (u : Slot), acc = ws.map .str ∧ (∀ w ∈ ws, w.length ≤ 1000) ∧ ws.length ≤ 13 ∧ e = [.io d, .fz (.str st), .fz (.str z), .fz (.int at_), .un, .un, .un, u] ∧ (u = .un ∨ ∃ x, u = .fz x) := hi
    obtain ⟨ws, u, rfl, hw, hl, rfl, hu⟩ := hi
    simp (maxSteps := 4000000) only [Y_ok, Y_ret, Y_rdv, Y_rdn, Y_rds, Y_cnv, Y_cnn, Y_cns, Y_wkv, Y_wkn, Y_wks, Y_var, Xs_nx, Xs_rt, Xs_bk, Xs_ct, Xs_skip, Xs_seq, Xs_ifs, Xs_set, Xs_stv, Xs_stn, Xs_sts, Xs_ret, Xs_rtv, Xs_rtn, Xs_rts, Xs_retN, Xs_exp, Xs_app, Xs_sset, Xs_fr, Y_int, Y_bool, Y_non, Y_str, Y_gl, Y_bin, Y_neg, Y_not, Y_and, Y_or, Y_ite, Y_cmp, Y_chain, Y_is, Y_tup, Y_lst, Y_sub, Y_sli, Y_rev, Y_blt, Y_mth, Y_isi, Y_cal, Y_lc, Y_nil, Y_cons, Y_cnil, Y_ccons, Y_rnil, Y_rcons, T_not, T_and, T_or, T_so, C_no, C_so, P_no, P_so, I_seq, I_rng, has, held, kp, wk, rtS, setS, chg, Slot.val, Opd.fz, List.getElem?_cons_zero, List.getElem?_cons_succ, List.set_cons_zero, List.set_cons_succ, Option.bind_some, Option.map_some, Option.some.injEq, exists_eq_left', exists_eq_left, and_true, true_and, PL.D.int.injEq, PL.D.str.injEq, isiD, srcs, argsO, argO, argS, slotsO, once, back_f, back_t, back_0, List.tail_cons, List.tail_nil, back1, kept, outsE, List.take_succ_cons, List.take_zero, List.map_cons, List.map_nil, Option.getD_some, Bool.not_true, Bool.not_false, if_true, Bool.false_eq_true, if_false, reduceIte, List.length_cons, List.length_nil, ex_iteO, b_addI, b_addS, b_addT, b_addL, b_subI, b_mulI, b_mulS, b_mulL, b_mulT, b_fdv, b_mod, b_pow, e_int, e_str, e_bl, c_eq, c_ne, c_in, c_notin, c_lt, c_ltS, c_le, c_gt, c_ge, t_bl, t_non, t_int, t_tup, t_lst, t_str, s_lst, s_tup, s_str, l_lst, l_tup, l_str, l_int, l_listL, l_listT, l_tupL, l_tupT, m_strip, m_upper, m_count, m_find, z_lst, z_arg, z_tup, z_str, z_rev, i_lst, i_tup, i_str, i_rng, n_non, n_tru, n_fls, decide_eq_true_eq, Opd.v.injEq, at0, at1, at2, at3, at4, at5, ix60, ix61, ix62, ix63, ix64, ix65, Nat.reduceAdd, Nat.zero_add, List.count_cons, List.count_nil, Nat.reduceBEq, beq_self_eq_true, Bool.true_and, Bool.and_true, Bool.and_self, List.count_cons_self, wipeS]
    refine letters_ok ?_
    simp (maxSteps := 4000000) only [Y_ok, Y_ret, Y_rdv, Y_rdn, Y_rds, Y_cnv, Y_cnn, Y_cns, Y_wkv, Y_wkn, Y_wks, Y_var, Xs_nx, Xs_rt, Xs_bk, Xs_ct, Xs_skip, Xs_seq, Xs_ifs, Xs_set, Xs_stv, Xs_stn, Xs_sts, Xs_ret, Xs_rtv, Xs_rtn, Xs_rts, Xs_retN, Xs_exp, Xs_app, Xs_sset, Xs_fr, Y_int, Y_bool, Y_non, Y_str, Y_gl, Y_bin, Y_neg, Y_not, Y_and, Y_or, Y_ite, Y_cmp, Y_chain, Y_is, Y_tup, Y_lst, Y_sub, Y_sli, Y_rev, Y_blt, Y_mth, Y_isi, Y_cal, Y_lc, Y_nil, Y_cons, Y_cnil, Y_ccons, Y_rnil, Y_rcons, T_not, T_and, T_or, T_so, C_no, C_so, P_no, P_so, I_seq, I_rng, has, held, kp, wk, rtS, setS, chg, Slot.val, Opd.fz, List.getElem?_cons_zero, List.getElem?_cons_succ, List.set_cons_zero, List.set_cons_succ, Option.bind_some, Option.map_some, Option.some.injEq, exists_eq_left', exists_eq_left, and_true, true_and, PL.D.int.injEq, PL.D.str.injEq, isiD, srcs, argsO, argO, argS, slotsO, once, back_f, back_t, back_0, List.tail_cons, List.tail_nil, back1, kept, outsE, List.take_succ_cons, List.take_zero, List.map_cons, List.map_nil, Option.getD_some, Bool.not_true, Bool.not_false, if_true, Bool.false_eq_true, if_false, reduceIte, List.length_cons, List.length_nil, ex_iteO, b_addI, b_addS, b_addT, b_addL, b_subI, b_mulI, b_mulS, b_mulL, b_mulT, b_fdv, b_mod, b_pow, e_int, e_str, e_bl, c_eq, c_ne, c_in, c_notin, c_lt, c_ltS, c_le, c_gt, c_ge, t_bl, t_non, t_int, t_tup, t_lst, t_str, s_lst, s_tup, s_str, l_lst, l_tup, l_str, l_int, l_listL, l_listT, l_tupL, l_tupT, m_strip, m_upper, m_count, m_find, z_lst, z_arg, z_tup, z_str, z_rev, i_lst, i_tup, i_str, i_rng, n_non, n_tru, n_fls, decide_eq_true_eq, Opd.v.injEq, at0, at1, at2, at3, at4, at5, ix60, ix61, ix62, ix63, ix64, ix65, Nat.reduceAdd, Nat.zero_add, List.count_cons, List.count_nil, Nat.reduceBEq, beq_self_eq_true, Bool.true_and, Bool.and_true, Bool.and_self, List.count_cons_self, wipeS]
    refine signs_ok ?_
    simp (maxSteps := 4000000) only [Y_ok, Y_ret, Y_rdv, Y_rdn, Y_rds, Y_cnv, Y_cnn, Y_cns, Y_wkv, Y_wkn, Y_wks, Y_var, Xs_nx, Xs_rt, Xs_bk, Xs_ct, Xs_skip, Xs_seq, Xs_ifs, Xs_set, Xs_stv, Xs_stn, Xs_sts, Xs_ret, Xs_rtv, Xs_rtn, Xs_rts, Xs_retN, Xs_exp, Xs_app, Xs_sset, Xs_fr, Y_int, Y_bool, Y_non, Y_str, Y_gl, Y_bin, Y_neg, Y_not, Y_and, Y_or, Y_ite, Y_cmp, Y_chain, Y_is, Y_tup, Y_lst, Y_sub, Y_sli, Y_rev, Y_blt, Y_mth, Y_isi, Y_cal, Y_lc, Y_nil, Y_cons, Y_cnil, Y_ccons, Y_rnil, Y_rcons, T_not, T_and, T_or, T_so, C_no, C_so, P_no, P_so, I_seq, I_rng, has, held, kp, wk, rtS, setS, chg, Slot.val, Opd.fz, List.getElem?_cons_zero, List.getElem?_cons_succ, List.set_cons_zero, List.set_cons_succ, Option.bind_some, Option.map_some, Option.some.injEq, exists_eq_left', exists_eq_left, and_true, true_and, PL.D.int.injEq, PL.D.str.injEq, isiD, srcs, argsO, argO, argS, slotsO, once, back_f, back_t, back_0, List.tail_cons, List.tail_nil, back1, kept, outsE, List.take_succ_cons, List.take_zero, List.map_cons, List.map_nil, Option.getD_some, Bool.not_true, Bool.not_false, if_true, Bool.false_eq_true, if_false, reduceIte, List.length_cons, List.length_nil, ex_iteO, b_addI, b_addS, b_addT, b_addL, b_subI, b_mulI, b_mulS, b_mulL, b_mulT, b_fdv, b_mod, b_pow, e_int, e_str, e_bl, c_eq, c_ne, c_in, c_notin, c_lt, c_ltS, c_le, c_gt, c_ge, t_bl, t_non, t_int, t_tup, t_lst, t_str, s_lst, s_tup, s_str, l_lst, l_tup, l_str, l_int, l_listL, l_listT, l_tupL, l_tupT, m_strip, m_upper, m_count, m_find, z_lst, z_arg, z_tup, z_str, z_rev, i_lst, i_tup, i_str, i_rng, n_non, n_tru, n_fls, decide_eq_true_eq, Opd.v.injEq, at0, at1, at2, at3, at4, at5, ix60, ix61, ix62, ix63, ix64, ix65, Nat.reduceAdd, Nat.zero_add, List.count_cons, List.count_nil, Nat.reduceBEq, beq_self_eq_true, Bool.true_and, Bool.and_true, Bool.and_self, List.count_cons_self, wipeS]
    refine ⟨by omega, ?_⟩
    have c1 : ∀ lo hi, (cutS z lo hi).length ≤ z.length := fun lo hi => cutS_length z lo hi
    have c2 := c1 none (some at_)
    have c3 := c1 (some at_) none
    have c4 := c1 (some (at_ + 1)) none
    have hn : (LL ++ SG).cps.toList.length = 94 := by
      have : (LL ++ SG).length = 94 := by rw [PySem.Str.length_append, l1, l2]
      simpa [Str.length] using this
    generalize LL ++ SG = B at hn ⊢
    refine lp_ok (fun i e => ∃ (ws : List Str) (u : Slot), (∀ w ∈ ws, w.length ≤ 1000) ∧ ws.length ≤ 13 + 2 * i ∧ e = [.io d, .fz (.str st), .fz (.str z), .fz (.int at_), .ow (.lst (ws.map .str)), u, .un, .un] ∧ (u = .un ∨ ∃ x, u = .fz x)) ⟨ws, .un, hw, by omega, rfl, .inl rfl⟩ (fun i x e hx hi => ?_) (fun e hi => ?_)
    · obtain ⟨ws, u, hw, hl, rfl, hu⟩ := hi
      have hi9 : i < 94 := by
        have := (List.getElem?_eq_some_iff.mp hx).1
        rw [List.length_map, hn] at this
        exact this
      rw [List.getElem?_map] at hx
      obtain ⟨c, _, rfl⟩ := Option.map_eq_some_iff.mp hx
      have l3 := len_one c
      refine ⟨[.io d, .fz (.str st), .fz (.str z), .fz (.int at_), .ow (.lst (ws.map .str)), .fz (.str ⟨#[c]⟩), .un, .un], by rcases hu with rfl | ⟨w, rfl⟩ <;> rfl, ?_⟩
      simp (maxSteps := 4000000) only [Y_ok, Y_ret, Y_rdv, Y_rdn, Y_rds, Y_cnv, Y_cnn, Y_cns, Y_wkv, Y_wkn, Y_wks, Y_var, Xs_nx, Xs_rt, Xs_bk, Xs_ct, Xs_skip, Xs_seq, Xs_ifs, Xs_set, Xs_stv, Xs_stn, Xs_sts, Xs_ret, Xs_rtv, Xs_rtn, Xs_rts, Xs_retN, Xs_exp, Xs_app, Xs_sset, Xs_fr, Y_int, Y_bool, Y_non, Y_str, Y_gl, Y_bin, Y_neg, Y_not, Y_and, Y_or, Y_ite, Y_cmp, Y_chain, Y_is, Y_tup, Y_lst, Y_sub, Y_sli, Y_rev, Y_blt, Y_mth, Y_isi, Y_cal, Y_lc, Y_nil, Y_cons, Y_cnil, Y_ccons, Y_rnil, Y_rcons, T_not, T_and, T_or, T_so, C_no, C_so, P_no, P_so, I_seq, I_rng, has, held, kp, wk, rtS, setS, chg, Slot.val, Opd.fz, List.getElem?_cons_zero, List.getElem?_cons_succ, List.set_cons_zero, List.set_cons_succ, Option.bind_some, Option.map_some, Option.some.injEq, exists_eq_left', exists_eq_left, and_true, true_and, PL.D.int.injEq, PL.D.str.injEq, isiD, srcs, argsO, argO, argS, slotsO, once, back_f, back_t, back_0, List.tail_cons, List.tail_nil, back1, kept, outsE, List.take_succ_cons, List.take_zero, List.map_cons, List.map_nil, Option.getD_some, Bool.not_true, Bool.not_false, if_true, Bool.false_eq_true, if_false, reduceIte, List.length_cons, List.length_nil, ex_iteO, b_addI, b_addS, b_addT, b_addL, b_subI, b_mulI, b_mulS, b_mulL, b_mulT, b_fdv, b_mod, b_pow, e_int, e_str, e_bl, c_eq, c_ne, c_in, c_notin, c_lt, c_ltS, c_le, c_gt, c_ge, t_bl, t_non, t_int, t_tup, t_lst, t_str, s_lst, s_tup, s_str, l_lst, l_tup, l_str, l_int, l_listL, l_listT, l_tupL, l_tupT, m_strip, m_upper, m_count, m_find, z_lst, z_arg, z_tup, z_str, z_rev, i_lst, i_tup, i_str, i_rng, n_non, n_tru, n_fls, decide_eq_true_eq, Opd.v.injEq, at0, at1, at2, at3, at4, at5, ix60, ix61, ix62, ix63, ix64, ix65, Nat.reduceAdd, Nat.zero_add, List.count_cons, List.count_nil, Nat.reduceBEq, beq_self_eq_true, Bool.true_and, Bool.and_true, Bool.and_self, List.count_cons_self, wipeS]
      refine ⟨by omega, by omega, by omega, by rw [PySem.Str.length_append]; omega, ?_⟩
      rw [if_pos (by rw [List.length_map]; omega)]
      simp (maxSteps := 4000000) only [Y_ok, Y_ret, Y_rdv, Y_rdn, Y_rds, Y_cnv, Y_cnn, Y_cns, Y_wkv, Y_wkn, Y_wks, Y_var, Xs_nx, Xs_rt, Xs_bk, Xs_ct, Xs_skip, Xs_seq, Xs_ifs, Xs_set, Xs_stv, Xs_stn, Xs_sts, Xs_ret, Xs_rtv, Xs_rtn, Xs_rts, Xs_retN, Xs_exp, Xs_app, Xs_sset, Xs_fr, Y_int, Y_bool, Y_non, Y_str, Y_gl, Y_bin, Y_neg, Y_not, Y_and, Y_or, Y_ite, Y_cmp, Y_chain, Y_is, Y_tup, Y_lst, Y_sub, Y_sli, Y_rev, Y_blt, Y_mth, Y_isi, Y_cal, Y_lc, Y_nil, Y_cons, Y_cnil, Y_ccons, Y_rnil, Y_rcons, T_not, T_and, T_or, T_so, C_no, C_so, P_no, P_so, I_seq, I_rng, has, held, kp, wk, rtS, setS, chg, Slot.val, Opd.fz, List.getElem?_cons_zero, List.getElem?_cons_succ, List.set_cons_zero, List.set_cons_succ, Option.bind_some, Option.map_some, Option.some.injEq, exists_eq_left', exists_eq_left, and_true, true_and, PL.D.int.injEq, PL.D.str.injEq, isiD, srcs, argsO, argO, argS, slotsO, once, back_f, back_t, back_0, List.tail_cons, List.tail_nil, back1, kept, outsE, List.take_succ_cons, List.take_zero, List.map_cons, List.map_nil, Option.getD_some, Bool.not_true, Bool.not_false, if_true, Bool.false_eq_true, if_false, reduceIte, List.length_cons, List.length_nil, ex_iteO, b_addI, b_addS, b_addT, b_addL, b_subI, b_mulI, b_mulS, b_mulL, b_mulT, b_fdv, b_mod, b_pow, e_int, e_str, e_bl, c_eq, c_ne, c_in, c_notin, c_lt, c_ltS, c_le, c_gt, c_ge, t_bl, t_non, t_int, t_tup, t_lst, t_str, s_lst, s_tup, s_str, l_lst, l_tup, l_str, l_int, l_listL, l_listT, l_tupL, l_tupT, m_strip, m_upper, m_count, m_find, z_lst, z_arg, z_tup, z_str, z_rev, i_lst, i_tup, i_str, i_rng, n_non, n_tru, n_fls, decide_eq_true_eq, Opd.v.injEq, at0, at1, at2, at3, at4, at5, ix60, ix61, ix62, ix63, ix64, ix65, Nat.reduceAdd, Nat.zero_add, List.count_cons, List.count_nil, Nat.reduceBEq, beq_self_eq_true, Bool.true_and, Bool.and_true, Bool.and_self, List.count_cons_self, wipeS]
      refine ⟨by omega, by omega, by omega, by rw [PySem.Str.length_append]; omega, ?_⟩
      rw [if_pos (by rw [List.length_append, List.length_map, List.length_singleton]; omega)]
      simp (maxSteps := 4000000) only [Y_ok, Y_ret, Y_rdv, Y_rdn, Y_rds, Y_cnv, Y_cnn, Y_cns, Y_wkv, Y_wkn, Y_wks, Y_var, Xs_nx, Xs_rt, Xs_bk, Xs_ct, Xs_skip, Xs_seq, Xs_ifs, Xs_set, Xs_stv, Xs_stn, Xs_sts, Xs_ret, Xs_rtv, Xs_rtn, Xs_rts, Xs_retN, Xs_exp, Xs_app, Xs_sset, Xs_fr, Y_int, Y_bool, Y_non, Y_str, Y_gl, Y_bin, Y_neg, Y_not, Y_and, Y_or, Y_ite, Y_cmp, Y_chain, Y_is, Y_tup, Y_lst, Y_sub, Y_sli, Y_rev, Y_blt, Y_mth, Y_isi, Y_cal, Y_lc, Y_nil, Y_cons, Y_cnil, Y_ccons, Y_rnil, Y_rcons, T_not, T_and, T_or, T_so, C_no, C_so, P_no, P_so, I_seq, I_rng, has, held, kp, wk, rtS, setS, chg, Slot.val, Opd.fz, List.getElem?_cons_zero, List.getElem?_cons_succ, List.set_cons_zero, List.set_cons_succ, Option.bind_some, Option.map_some, Option.some.injEq, exists_eq_left', exists_eq_left, and_true, true_and, PL.D.int.injEq, PL.D.str.injEq, isiD, srcs, argsO, argO, argS, slotsO, once, back_f, back_t, back_0, List.tail_cons, List.tail_nil, back1, kept, outsE, List.take_succ_cons, List.take_zero, List.map_cons, List.map_nil, Option.getD_some, Bool.not_true, Bool.not_false, if_true, Bool.false_eq_true, if_false, reduceIte, List.length_cons, List.length_nil, ex_iteO, b_addI, b_addS, b_addT, b_addL, b_subI, b_mulI, b_mulS, b_mulL, b_mulT, b_fdv, b_mod, b_pow, e_int, e_str, e_bl, c_eq, c_ne, c_in, c_notin, c_lt, c_ltS, c_le, c_gt, c_ge, t_bl, t_non, t_int, t_tup, t_lst, t_str, s_lst, s_tup, s_str, l_lst, l_tup, l_str, l_int, l_listL, l_listT, l_tupL, l_tupT, m_strip, m_upper, m_count, m_find, z_lst, z_arg, z_tup, z_str, z_rev, i_lst, i_tup, i_str, i_rng, n_non, n_tru, n_fls, decide_eq_true_eq, Opd.v.injEq, at0, at1, at2, at3, at4, at5, ix60, ix61, ix62, ix63, ix64, ix65, Nat.reduceAdd, Nat.zero_add, List.count_cons, List.count_nil, Nat.reduceBEq, beq_self_eq_true, Bool.true_and, Bool.and_true, Bool.and_self, List.count_cons_self, wipeS]
      refine ⟨ws ++ [cutS z none (some at_) ++ ⟨#[c]⟩ ++ cutS z (some at_) none, cutS z none (some at_) ++ ⟨#[c]⟩ ++ cutS z (some (at_ + 1)) none], .fz (.str ⟨#[c]⟩), ?_, ?_, ?_, .inr ⟨_, rfl⟩⟩
      rotate_left 2
      · rw [List.map_append, List.append_assoc]; rfl
      · intro w q
        rcases List.mem_append.mp q with q | q
        · exact hw w q
        · (rcases List.mem_cons.mp q with q | q)
          · subst q
            rw [PySem.Str.length_append, PySem.Str.length_append]
            omega
          · cases List.mem_singleton.mp q
            rw [PySem.Str.length_append, PySem.Str.length_append]
            omega
      · rw [List.length_append]
        show ws.length + 2 ≤ _
        omega
    · obtain ⟨ws, u, hw, hl, rfl, hu⟩ := hi
      rw [List.length_map, hn] at hl
      simp (maxSteps := 4000000) only [Y_ok, Y_ret, Y_rdv, Y_rdn, Y_rds, Y_cnv, Y_cnn, Y_cns, Y_wkv, Y_wkn, Y_wks, Y_var, Xs_nx, Xs_rt, Xs_bk, Xs_ct, Xs_skip, Xs_seq, Xs_ifs, Xs_set, Xs_stv, Xs_stn, Xs_sts, Xs_ret, Xs_rtv, Xs_rtn, Xs_rts, Xs_retN, Xs_exp, Xs_app, Xs_sset, Xs_fr, Y_int, Y_bool, Y_non, Y_str, Y_gl, Y_bin, Y_neg, Y_not, Y_and, Y_or, Y_ite, Y_cmp, Y_chain, Y_is, Y_tup, Y_lst, Y_sub, Y_sli, Y_rev, Y_blt, Y_mth, Y_isi, Y_cal, Y_lc, Y_nil, Y_cons, Y_cnil, Y_ccons, Y_rnil, Y_rcons, T_not, T_and, T_or, T_so, C_no, C_so, P_no, P_so, I_seq, I_rng, has, held, kp, wk, rtS, setS, chg, Slot.val, Opd.fz, List.getElem?_cons_zero, List.getElem?_cons_succ, List.set_cons_zero, List.set_cons_succ, Option.bind_some, Option.map_some, Option.some.injEq, exists_eq_left', exists_eq_left, and_true, true_and, PL.D.int.injEq, PL.D.str.injEq, isiD, srcs, argsO, argO, argS, slotsO, once, back_f, back_t, back_0, List.tail_cons, List.tail_nil, back1, kept, outsE, List.take_succ_cons, List.take_zero, List.map_cons, List.map_nil, Option.getD_some, Bool.not_true, Bool.not_false, if_true, Bool.false_eq_true, if_false, reduceIte, List.length_cons, List.length_nil, ex_iteO, b_addI, b_addS, b_addT, b_addL, b_subI, b_mulI, b_mulS, b_mulL, b_mulT, b_fdv, b_mod, b_pow, e_int, e_str, e_bl, c_eq, c_ne, c_in, c_notin, c_lt, c_ltS, c_le, c_gt, c_ge, t_bl, t_non, t_int, t_tup, t_lst, t_str, s_lst, s_tup, s_str, l_lst, l_tup, l_str, l_int, l_listL, l_listT, l_tupL, l_tupT, m_strip, m_upper, m_count, m_find, z_lst, z_arg, z_tup, z_str, z_rev, i_lst, i_tup, i_str, i_rng, n_non, n_tru, n_fls, decide_eq_true_eq, Opd.v.injEq, at0, at1, at2, at3, at4, at5, ix60, ix61, ix62, ix63, ix64, ix65, Nat.reduceAdd, Nat.zero_add, List.count_cons, List.count_nil, Nat.reduceBEq, beq_self_eq_true, Bool.true_and, Bool.and_true, Bool.and_self, List.count_cons_self, wipeS]
      refine many_ok h (by decide) fun v d v0 v1 h => ?_
      simp (maxSteps := 4000000) only [Y_ok, Y_ret, Y_rdv, Y_rdn, Y_rds, Y_cnv, Y_cnn, Y_cns, Y_wkv, Y_wkn, Y_wks, Y_var, Xs_nx, Xs_rt, Xs_bk, Xs_ct, Xs_skip, Xs_seq, Xs_ifs, Xs_set, Xs_stv, Xs_stn, Xs_sts, Xs_ret, Xs_rtv, Xs_rtn, Xs_rts, Xs_retN, Xs_exp, Xs_app, Xs_sset, Xs_fr, Y_int, Y_bool, Y_non, Y_str, Y_gl, Y_bin, Y_neg, Y_not, Y_and, Y_or, Y_ite, Y_cmp, Y_chain, Y_is, Y_tup, Y_lst, Y_sub, Y_sli, Y_rev, Y_blt, Y_mth, Y_isi, Y_cal, Y_lc, Y_nil, Y_cons, Y_cnil, Y_ccons, Y_rnil, Y_rcons, T_not, T_and, T_or, T_so, C_no, C_so, P_no, P_so, I_seq, I_rng, has, held, kp, wk, rtS, setS, chg, Slot.val, Opd.fz, List.getElem?_cons_zero, List.getElem?_cons_succ, List.set_cons_zero, List.set_cons_succ, Option.bind_some, Option.map_some, Option.some.injEq, exists_eq_left', exists_eq_left, and_true, true_and, PL.D.int.injEq, PL.D.str.injEq, isiD, srcs, argsO, argO, argS, slotsO, once, back_f, back_t, back_0, List.tail_cons, List.tail_nil, back1, kept, outsE, List.take_succ_cons, List.take_zero, List.map_cons, List.map_nil, Option.getD_some, Bool.not_true, Bool.not_false, if_true, Bool.false_eq_true, if_false, reduceIte, List.length_cons, List.length_nil, ex_iteO, b_addI, b_addS, b_addT, b_addL, b_subI, b_mulI, b_mulS, b_mulL, b_mulT, b_fdv, b_mod, b_pow, e_int, e_str, e_bl, c_eq, c_ne, c_in, c_notin, c_lt, c_ltS, c_le, c_gt, c_ge, t_bl, t_non, t_int, t_tup, t_lst, t_str, s_lst, s_tup, s_str, l_lst, l_tup, l_str, l_int, l_listL, l_listT, l_tupL, l_tupT, m_strip, m_upper, m_count, m_find, z_lst, z_arg, z_tup, z_str, z_rev, i_lst, i_tup, i_str, i_rng, n_non, n_tru, n_fls, decide_eq_true_eq, Opd.v.injEq, at0, at1, at2, at3, at4, at5, ix60, ix61, ix62, ix63, ix64, ix65, Nat.reduceAdd, Nat.zero_add, List.count_cons, List.count_nil, Nat.reduceBEq, beq_self_eq_true, Bool.true_and, Bool.and_true, Bool.and_self, List.count_cons_self, wipeS]
      refine ⟨⟨by decide, by decide, by omega, by omega⟩, ?_⟩
      refine lp_ok (fun i e => ∃ (ws : List Str) (u' : Slot) (d : D), Sv d ∧ (∀ w ∈ ws, w.length ≤ 1000) ∧ ws.length ≤ 201 + i ∧ e = [.io d, .fz (.str st), .fz (.str z), .fz (.int at_), .ow (.lst (ws.map .str)), u, u', .un] ∧ (u' = .un ∨ ∃ x, u' = .fz x)) ⟨ws, .un, d, h, hw, by omega, rfl, .inl rfl⟩ (fun i x e hx hi => ?_) (fun e hi => ?_)
      · obtain ⟨ws, u', d, h, hw, hl, rfl, hu'⟩ := hi
        have hi9 : i < 12 := by
          have := (List.getElem?_eq_some_iff.mp hx).1
          rw [List.length_map, List.length_range] at this
          omega
        refine ⟨[.io d, .fz (.str st), .fz (.str z), .fz (.int at_), .ow (.lst (ws.map .str)), u, .fz x, .un], by rcases hu' with rfl | ⟨w, rfl⟩ <;> rfl, ?_⟩
        simp (maxSteps := 4000000) only [Y_ok, Y_ret, Y_rdv, Y_rdn, Y_rds, Y_cnv, Y_cnn, Y_cns, Y_wkv, Y_wkn, Y_wks, Y_var, Xs_nx, Xs_rt, Xs_bk, Xs_ct, Xs_skip, Xs_seq, Xs_ifs, Xs_set, Xs_stv, Xs_stn, Xs_sts, Xs_ret, Xs_rtv, Xs_rtn, Xs_rts, Xs_retN, Xs_exp, Xs_app, Xs_sset, Xs_fr, Y_int, Y_bool, Y_non, Y_str, Y_gl, Y_bin, Y_neg, Y_not, Y_and, Y_or, Y_ite, Y_cmp, Y_chain, Y_is, Y_tup, Y_lst, Y_sub, Y_sli, Y_rev, Y_blt, Y_mth, Y_isi, Y_cal, Y_lc, Y_nil, Y_cons, Y_cnil, Y_ccons, Y_rnil, Y_rcons, T_not, T_and, T_or, T_so, C_no, C_so, P_no, P_so, I_seq, I_rng, has, held, kp, wk, rtS, setS, chg, Slot.val, Opd.fz, List.getElem?_cons_zero, List.getElem?_cons_succ, List.set_cons_zero, List.set_cons_succ, Option.bind_some, Option.map_some, Option.some.injEq, exists_eq_left', exists_eq_left, and_true, true_and, PL.D.int.injEq, PL.D.str.injEq, isiD, srcs, argsO, argO, argS, slotsO, once, back_f, back_t, back_0, List.tail_cons, List.tail_nil, back1, kept, outsE, List.take_succ_cons, List.take_zero, List.map_cons, List.map_nil, Option.getD_some, Bool.not_true, Bool.not_false, if_true, Bool.false_eq_true, if_false, reduceIte, List.length_cons, List.length_nil, ex_iteO, b_addI, b_addS, b_addT, b_addL, b_subI, b_mulI, b_mulS, b_mulL, b_mulT, b_fdv, b_mod, b_pow, e_int, e_str, e_bl, c_eq, c_ne, c_in, c_notin, c_lt, c_ltS, c_le, c_gt, c_ge, t_bl, t_non, t_int, t_tup, t_lst, t_str, s_lst, s_tup, s_str, l_lst, l_tup, l_str, l_int, l_listL, l_listT, l_tupL, l_tupT, m_strip, m_upper, m_count, m_find, z_lst, z_arg, z_tup, z_str, z_rev, i_lst, i_tup, i_str, i_rng, n_non, n_tru, n_fls, decide_eq_true_eq, Opd.v.injEq, at0, at1, at2, at3, at4, at5, ix60, ix61, ix62, ix63, ix64, ix65, Nat.reduceAdd, Nat.zero_add, List.count_cons, List.count_nil, Nat.reduceBEq, beq_self_eq_true, Bool.true_and, Bool.and_true, Bool.and_self, List.count_cons_self, wipeS]
        refine raw_ok h fun w d hw1 h => ?_
        simp (maxSteps := 4000000) only [Y_ok, Y_ret, Y_rdv, Y_rdn, Y_rds, Y_cnv, Y_cnn, Y_cns, Y_wkv, Y_wkn, Y_wks, Y_var, Xs_nx, Xs_rt, Xs_bk, Xs_ct, Xs_skip, Xs_seq, Xs_ifs, Xs_set, Xs_stv, Xs_stn, Xs_sts, Xs_ret, Xs_rtv, Xs_rtn, Xs_rts, Xs_retN, Xs_exp, Xs_app, Xs_sset, Xs_fr, Y_int, Y_bool, Y_non, Y_str, Y_gl, Y_bin, Y_neg, Y_not, Y_and, Y_or, Y_ite, Y_cmp, Y_chain, Y_is, Y_tup, Y_lst, Y_sub, Y_sli, Y_rev, Y_blt, Y_mth, Y_isi, Y_cal, Y_lc, Y_nil, Y_cons, Y_cnil, Y_ccons, Y_rnil, Y_rcons, T_not, T_and, T_or, T_so, C_no, C_so, P_no, P_so, I_seq, I_rng, has, held, kp, wk, rtS, setS, chg, Slot.val, Opd.fz, List.getElem?_cons_zero, List.getElem?_cons_succ, List.set_cons_zero, List.set_cons_succ, Option.bind_some, Option.map_some, Option.some.injEq, exists_eq_left', exists_eq_left, and_true, true_and, PL.D.int.injEq, PL.D.str.injEq, isiD, srcs, argsO, argO, argS, slotsO, once, back_f, back_t, back_0, List.tail_cons, List.tail_nil, back1, kept, outsE, List.take_succ_cons, List.take_zero, List.map_cons, List.map_nil, Option.getD_some, Bool.not_true, Bool.not_false, if_true, Bool.false_eq_true, if_false, reduceIte, List.length_cons, List.length_nil, ex_iteO, b_addI, b_addS, b_addT, b_addL, b_subI, b_mulI, b_mulS, b_mulL, b_mulT, b_fdv, b_mod, b_pow, e_int, e_str, e_bl, c_eq, c_ne, c_in, c_notin, c_lt, c_ltS, c_le, c_gt, c_ge, t_bl, t_non, t_int, t_tup, t_lst, t_str, s_lst, s_tup, s_str, l_lst, l_tup, l_str, l_int, l_listL, l_listT, l_tupL, l_tupT, m_strip, m_upper, m_count, m_find, z_lst, z_arg, z_tup, z_str, z_rev, i_lst, i_tup, i_str, i_rng, n_non, n_tru, n_fls, decide_eq_true_eq, Opd.v.injEq, at0, at1, at2, at3, at4, at5, ix60, ix61, ix62, ix63, ix64, ix65, Nat.reduceAdd, Nat.zero_add, List.count_cons, List.count_nil, Nat.reduceBEq, beq_self_eq_true, Bool.true_and, Bool.and_true, Bool.and_self, List.count_cons_self, wipeS]
        rw [if_pos (by rw [List.length_map]; omega)]
        simp (maxSteps := 4000000) only [Y_ok, Y_ret, Y_rdv, Y_rdn, Y_rds, Y_cnv, Y_cnn, Y_cns, Y_wkv, Y_wkn, Y_wks, Y_var, Xs_nx, Xs_rt, Xs_bk, Xs_ct, Xs_skip, Xs_seq, Xs_ifs, Xs_set, Xs_stv, Xs_stn, Xs_sts, Xs_ret, Xs_rtv, Xs_rtn, Xs_rts, Xs_retN, Xs_exp, Xs_app, Xs_sset, Xs_fr, Y_int, Y_bool, Y_non, Y_str, Y_gl, Y_bin, Y_neg, Y_not, Y_and, Y_or, Y_ite, Y_cmp, Y_chain, Y_is, Y_tup, Y_lst, Y_sub, Y_sli, Y_rev, Y_blt, Y_mth, Y_isi, Y_cal, Y_lc, Y_nil, Y_cons, Y_cnil, Y_ccons, Y_rnil, Y_rcons, T_not, T_and, T_or, T_so, C_no, C_so, P_no, P_so, I_seq, I_rng, has, held, kp, wk, rtS, setS, chg, Slot.val, Opd.fz, List.getElem?_cons_zero, List.getElem?_cons_succ, List.set_cons_zero, List.set_cons_succ, Option.bind_some, Option.map_some, Option.some.injEq, exists_eq_left', exists_eq_left, and_true, true_and, PL.D.int.injEq, PL.D.str.injEq, isiD, srcs, argsO, argO, argS, slotsO, once, back_f, back_t, back_0, List.tail_cons, List.tail_nil, back1, kept, outsE, List.take_succ_cons, List.take_zero, List.map_cons, List.map_nil, Option.getD_some, Bool.not_true, Bool.not_false, if_true, Bool.false_eq_true, if_false, reduceIte, List.length_cons, List.length_nil, ex_iteO, b_addI, b_addS, b_addT, b_addL, b_subI, b_mulI, b_mulS, b_mulL, b_mulT, b_fdv, b_mod, b_pow, e_int, e_str, e_bl, c_eq, c_ne, c_in, c_notin, c_lt, c_ltS, c_le, c_gt, c_ge, t_bl, t_non, t_int, t_tup, t_lst, t_str, s_lst, s_tup, s_str, l_lst, l_tup, l_str, l_int, l_listL, l_listT, l_tupL, l_tupT, m_strip, m_upper, m_count, m_find, z_lst, z_arg, z_tup, z_str, z_rev, i_lst, i_tup, i_str, i_rng, n_non, n_tru, n_fls, decide_eq_true_eq, Opd.v.injEq, at0, at1, at2, at3, at4, at5, ix60, ix61, ix62, ix63, ix64, ix65, Nat.reduceAdd, Nat.zero_add, List.count_cons, List.count_nil, Nat.reduceBEq, beq_self_eq_true, Bool.true_and, Bool.and_true, Bool.and_self, List.count_cons_self, wipeS]
        refine ⟨ws ++ [w], _, d, h, fun y q => ?_, by rw [List.length_append, List.length_singleton]; omega, by rw [List.map_append]; rfl, .inr ⟨_, rfl⟩⟩
        rcases List.mem_append.mp q with q | q
        · exact hw y q
        · cases List.mem_singleton.mp q
          exact hw1
      · obtain ⟨ws, u', d, h, hw, hl, rfl, hu'⟩ := hi
        simp (maxSteps := 4000000) only [Y_ok, Y_ret, Y_rdv, Y_rdn, Y_rds, Y_cnv, Y_cnn, Y_cns, Y_wkv, Y_wkn, Y_wks, Y_var, Xs_nx, Xs_rt, Xs_bk, Xs_ct, Xs_skip, Xs_seq, Xs_ifs, Xs_set, Xs_stv, Xs_stn, Xs_sts, Xs_ret, Xs_rtv, Xs_rtn, Xs_rts, Xs_retN, Xs_exp, Xs_app, Xs_sset, Xs_fr, Y_int, Y_bool, Y_non, Y_str, Y_gl, Y_bin, Y_neg, Y_not, Y_and, Y_or, Y_ite, Y_cmp, Y_chain, Y_is, Y_tup, Y_lst, Y_sub, Y_sli, Y_rev, Y_blt, Y_mth, Y_isi, Y_cal, Y_lc, Y_nil, Y_cons, Y_cnil, Y_ccons, Y_rnil, Y_rcons, T_not, T_and, T_or, T_so, C_no, C_so, P_no, P_so, I_seq, I_rng, has, held, kp, wk, rtS, setS, chg, Slot.val, Opd.fz, List.getElem?_cons_zero, List.getElem?_cons_succ, List.set_cons_zero, List.set_cons_succ, Option.bind_some, Option.map_some, Option.some.injEq, exists_eq_left', exists_eq_left, and_true, true_and, PL.D.int.injEq, PL.D.str.injEq, isiD, srcs, argsO, argO, argS, slotsO, once, back_f, back_t, back_0, List.tail_cons, List.tail_nil, back1, kept, outsE, List.take_succ_cons, List.take_zero, List.map_cons, List.map_nil, Option.getD_some, Bool.not_true, Bool.not_false, if_true, Bool.false_eq_true, if_false, reduceIte, List.length_cons, List.length_nil, ex_iteO, b_addI, b_addS, b_addT, b_addL, b_subI, b_mulI, b_mulS, b_mulL, b_mulT, b_fdv, b_mod, b_pow, e_int, e_str, e_bl, c_eq, c_ne, c_in, c_notin, c_lt, c_ltS, c_le, c_gt, c_ge, t_bl, t_non, t_int, t_tup, t_lst, t_str, s_lst, s_tup, s_str, l_lst, l_tup, l_str, l_int, l_listL, l_listT, l_tupL, l_tupT, m_strip, m_upper, m_count, m_find, z_lst, z_arg, z_tup, z_str, z_rev, i_lst, i_tup, i_str, i_rng, n_non, n_tru, n_fls, decide_eq_true_eq, Opd.v.injEq, at0, at1, at2, at3, at4, at5, ix60, ix61, ix62, ix63, ix64, ix65, Nat.reduceAdd, Nat.zero_add, List.count_cons, List.count_nil, Nat.reduceBEq, beq_self_eq_true, Bool.true_and, Bool.and_true, Bool.and_self, List.count_cons_self, wipeS]
        exact hP ws d hw h
theorem good_eq (w : Str) : decide (1 ≤ (w.length : Int) ∧ (w.length : Int) ≤ 6 ∧ Txt.stripChars w LL = ("" : Str)) = decide (1 ≤ (w.length : Int) ∧ (w.length : Int) ≤ 6 ∧ tot LL.cps.toList w.cps.toList = (w.length : Int)) := by
  simp only [same_words w]
theorem law_ok {k : Nat} {ns : List Int} {P : PK} (hl : ns.length ≤ 63) (hP : ∀ outs, P false (.bl true) outs) : Cl (O (k + 8)) "law" [.fz (.arg (ns.map .int))] P := by
  have hs := sizeLine_eq
  refine cl_ok (d := e_law.d) rfl rfl (by decide) ?_
  show Xs (ex (O (k + 7)) b_law [.fz (.arg (ns.map .int)), .un, .un, .un]) _
  unfold b_law e_law
  simp (maxSteps := 4000000) only [Y_ok, Y_ret, Y_rdv, Y_rdn, Y_rds, Y_cnv, Y_cnn, Y_cns, Y_wkv, Y_wkn, Y_wks, Y_var, Xs_nx, Xs_rt, Xs_bk, Xs_ct, Xs_skip, Xs_seq, Xs_ifs, Xs_set, Xs_stv, Xs_stn, Xs_sts, Xs_ret, Xs_rtv, Xs_rtn, Xs_rts, Xs_retN, Xs_exp, Xs_app, Xs_sset, Xs_fr, Y_int, Y_bool, Y_non, Y_str, Y_gl, Y_bin, Y_neg, Y_not, Y_and, Y_or, Y_ite, Y_cmp, Y_chain, Y_is, Y_tup, Y_lst, Y_sub, Y_sli, Y_rev, Y_blt, Y_mth, Y_isi, Y_cal, Y_lc, Y_nil, Y_cons, Y_cnil, Y_ccons, Y_rnil, Y_rcons, T_not, T_and, T_or, T_so, C_no, C_so, P_no, P_so, I_seq, I_rng, has, held, kp, wk, rtS, setS, chg, Slot.val, Opd.fz, List.getElem?_cons_zero, List.getElem?_cons_succ, List.set_cons_zero, List.set_cons_succ, Option.bind_some, Option.map_some, Option.some.injEq, exists_eq_left', exists_eq_left, and_true, true_and, PL.D.int.injEq, PL.D.str.injEq, isiD, srcs, argsO, argO, argS, slotsO, once, back_f, back_t, back_0, List.tail_cons, List.tail_nil, back1, kept, outsE, List.take_succ_cons, List.take_zero, List.map_cons, List.map_nil, Option.getD_some, Bool.not_true, Bool.not_false, if_true, Bool.false_eq_true, if_false, reduceIte, List.length_cons, List.length_nil, ex_iteO, b_addI, b_addS, b_addT, b_addL, b_subI, b_mulI, b_mulS, b_mulL, b_mulT, b_fdv, b_mod, b_pow, e_int, e_str, e_bl, c_eq, c_ne, c_in, c_notin, c_lt, c_ltS, c_le, c_gt, c_ge, t_bl, t_non, t_int, t_tup, t_lst, t_str, s_lst, s_tup, s_str, l_lst, l_tup, l_str, l_int, l_listL, l_listT, l_tupL, l_tupT, m_strip, m_upper, m_count, m_find, z_lst, z_arg, z_tup, z_str, z_rev, i_lst, i_tup, i_str, i_rng, n_non, n_tru, n_fls, decide_eq_true_eq, Opd.v.injEq, at0, at1, at2, at3, at4, at5, ix60, ix61, ix62, ix63, ix64, ix65, Nat.reduceAdd, Nat.zero_add, List.count_cons, List.count_nil, Nat.reduceBEq, beq_self_eq_true, Bool.true_and, Bool.and_true, Bool.and_self, List.count_cons_self, wipeS]
  refine store_ok hl fun d h => ?_
  simp (maxSteps := 4000000) only [Y_ok, Y_ret, Y_rdv, Y_rdn, Y_rds, Y_cnv, Y_cnn, Y_cns, Y_wkv, Y_wkn, Y_wks, Y_var, Xs_nx, Xs_rt, Xs_bk, Xs_ct, Xs_skip, Xs_seq, Xs_ifs, Xs_set, Xs_stv, Xs_stn, Xs_sts, Xs_ret, Xs_rtv, Xs_rtn, Xs_rts, Xs_retN, Xs_exp, Xs_app, Xs_sset, Xs_fr, Y_int, Y_bool, Y_non, Y_str, Y_gl, Y_bin, Y_neg, Y_not, Y_and, Y_or, Y_ite, Y_cmp, Y_chain, Y_is, Y_tup, Y_lst, Y_sub, Y_sli, Y_rev, Y_blt, Y_mth, Y_isi, Y_cal, Y_lc, Y_nil, Y_cons, Y_cnil, Y_ccons, Y_rnil, Y_rcons, T_not, T_and, T_or, T_so, C_no, C_so, P_no, P_so, I_seq, I_rng, has, held, kp, wk, rtS, setS, chg, Slot.val, Opd.fz, List.getElem?_cons_zero, List.getElem?_cons_succ, List.set_cons_zero, List.set_cons_succ, Option.bind_some, Option.map_some, Option.some.injEq, exists_eq_left', exists_eq_left, and_true, true_and, PL.D.int.injEq, PL.D.str.injEq, isiD, srcs, argsO, argO, argS, slotsO, once, back_f, back_t, back_0, List.tail_cons, List.tail_nil, back1, kept, outsE, List.take_succ_cons, List.take_zero, List.map_cons, List.map_nil, Option.getD_some, Bool.not_true, Bool.not_false, if_true, Bool.false_eq_true, if_false, reduceIte, List.length_cons, List.length_nil, ex_iteO, b_addI, b_addS, b_addT, b_addL, b_subI, b_mulI, b_mulS, b_mulL, b_mulT, b_fdv, b_mod, b_pow, e_int, e_str, e_bl, c_eq, c_ne, c_in, c_notin, c_lt, c_ltS, c_le, c_gt, c_ge, t_bl, t_non, t_int, t_tup, t_lst, t_str, s_lst, s_tup, s_str, l_lst, l_tup, l_str, l_int, l_listL, l_listT, l_tupL, l_tupT, m_strip, m_upper, m_count, m_find, z_lst, z_arg, z_tup, z_str, z_rev, i_lst, i_tup, i_str, i_rng, n_non, n_tru, n_fls, decide_eq_true_eq, Opd.v.injEq, at0, at1, at2, at3, at4, at5, ix60, ix61, ix62, ix63, ix64, ix65, Nat.reduceAdd, Nat.zero_add, List.count_cons, List.count_nil, Nat.reduceBEq, beq_self_eq_true, Bool.true_and, Bool.and_true, Bool.and_self, List.count_cons_self, wipeS]
  refine words_ok h fun ws d hw h => ?_
  simp (maxSteps := 4000000) only [Y_ok, Y_ret, Y_rdv, Y_rdn, Y_rds, Y_cnv, Y_cnn, Y_cns, Y_wkv, Y_wkn, Y_wks, Y_var, Xs_nx, Xs_rt, Xs_bk, Xs_ct, Xs_skip, Xs_seq, Xs_ifs, Xs_set, Xs_stv, Xs_stn, Xs_sts, Xs_ret, Xs_rtv, Xs_rtn, Xs_rts, Xs_retN, Xs_exp, Xs_app, Xs_sset, Xs_fr, Y_int, Y_bool, Y_non, Y_str, Y_gl, Y_bin, Y_neg, Y_not, Y_and, Y_or, Y_ite, Y_cmp, Y_chain, Y_is, Y_tup, Y_lst, Y_sub, Y_sli, Y_rev, Y_blt, Y_mth, Y_isi, Y_cal, Y_lc, Y_nil, Y_cons, Y_cnil, Y_ccons, Y_rnil, Y_rcons, T_not, T_and, T_or, T_so, C_no, C_so, P_no, P_so, I_seq, I_rng, has, held, kp, wk, rtS, setS, chg, Slot.val, Opd.fz, List.getElem?_cons_zero, List.getElem?_cons_succ, List.set_cons_zero, List.set_cons_succ, Option.bind_some, Option.map_some, Option.some.injEq, exists_eq_left', exists_eq_left, and_true, true_and, PL.D.int.injEq, PL.D.str.injEq, isiD, srcs, argsO, argO, argS, slotsO, once, back_f, back_t, back_0, List.tail_cons, List.tail_nil, back1, kept, outsE, List.take_succ_cons, List.take_zero, List.map_cons, List.map_nil, Option.getD_some, Bool.not_true, Bool.not_false, if_true, Bool.false_eq_true, if_false, reduceIte, List.length_cons, List.length_nil, ex_iteO, b_addI, b_addS, b_addT, b_addL, b_subI, b_mulI, b_mulS, b_mulL, b_mulT, b_fdv, b_mod, b_pow, e_int, e_str, e_bl, c_eq, c_ne, c_in, c_notin, c_lt, c_ltS, c_le, c_gt, c_ge, t_bl, t_non, t_int, t_tup, t_lst, t_str, s_lst, s_tup, s_str, l_lst, l_tup, l_str, l_int, l_listL, l_listT, l_tupL, l_tupT, m_strip, m_upper, m_count, m_find, z_lst, z_arg, z_tup, z_str, z_rev, i_lst, i_tup, i_str, i_rng, n_non, n_tru, n_fls, decide_eq_true_eq, Opd.v.injEq, at0, at1, at2, at3, at4, at5, ix60, ix61, ix62, ix63, ix64, ix65, Nat.reduceAdd, Nat.zero_add, List.count_cons, List.count_nil, Nat.reduceBEq, beq_self_eq_true, Bool.true_and, Bool.and_true, Bool.and_self, List.count_cons_self, wipeS]
  refine lp_ok (fun i e => ∃ u, e = [.fz (.arg (ns.map .int)), .ow d, .fz (.lst (ws.map .str)), u] ∧ (u = .un ∨ ∃ x, u = .fz x)) ⟨.un, rfl, .inl rfl⟩ (fun i x e hx hi => ?_) (fun e hi => ?_)
  · obtain ⟨u, rfl, hu⟩ := hi
    rw [List.getElem?_map] at hx
    obtain ⟨w, hw2, rfl⟩ := Option.map_eq_some_iff.mp hx
    have hwl := hw w (List.mem_of_getElem? hw2)
    refine ⟨[.fz (.arg (ns.map .int)), .ow d, .fz (.lst (ws.map .str)), .fz (.str w)], by rcases hu with rfl | ⟨_, rfl⟩ <;> rfl, ?_⟩
    simp (maxSteps := 4000000) only [Y_ok, Y_ret, Y_rdv, Y_rdn, Y_rds, Y_cnv, Y_cnn, Y_cns, Y_wkv, Y_wkn, Y_wks, Y_var, Xs_nx, Xs_rt, Xs_bk, Xs_ct, Xs_skip, Xs_seq, Xs_ifs, Xs_set, Xs_stv, Xs_stn, Xs_sts, Xs_ret, Xs_rtv, Xs_rtn, Xs_rts, Xs_retN, Xs_exp, Xs_app, Xs_sset, Xs_fr, Y_int, Y_bool, Y_non, Y_str, Y_gl, Y_bin, Y_neg, Y_not, Y_and, Y_or, Y_ite, Y_cmp, Y_chain, Y_is, Y_tup, Y_lst, Y_sub, Y_sli, Y_rev, Y_blt, Y_mth, Y_isi, Y_cal, Y_lc, Y_nil, Y_cons, Y_cnil, Y_ccons, Y_rnil, Y_rcons, T_not, T_and, T_or, T_so, C_no, C_so, P_no, P_so, I_seq, I_rng, has, held, kp, wk, rtS, setS, chg, Slot.val, Opd.fz, List.getElem?_cons_zero, List.getElem?_cons_succ, List.set_cons_zero, List.set_cons_succ, Option.bind_some, Option.map_some, Option.some.injEq, exists_eq_left', exists_eq_left, and_true, true_and, PL.D.int.injEq, PL.D.str.injEq, isiD, srcs, argsO, argO, argS, slotsO, once, back_f, back_t, back_0, List.tail_cons, List.tail_nil, back1, kept, outsE, List.take_succ_cons, List.take_zero, List.map_cons, List.map_nil, Option.getD_some, Bool.not_true, Bool.not_false, if_true, Bool.false_eq_true, if_false, reduceIte, List.length_cons, List.length_nil, ex_iteO, b_addI, b_addS, b_addT, b_addL, b_subI, b_mulI, b_mulS, b_mulL, b_mulT, b_fdv, b_mod, b_pow, e_int, e_str, e_bl, c_eq, c_ne, c_in, c_notin, c_lt, c_ltS, c_le, c_gt, c_ge, t_bl, t_non, t_int, t_tup, t_lst, t_str, s_lst, s_tup, s_str, l_lst, l_tup, l_str, l_int, l_listL, l_listT, l_tupL, l_tupT, m_strip, m_upper, m_count, m_find, z_lst, z_arg, z_tup, z_str, z_rev, i_lst, i_tup, i_str, i_rng, n_non, n_tru, n_fls, decide_eq_true_eq, Opd.v.injEq, at0, at1, at2, at3, at4, at5, ix60, ix61, ix62, ix63, ix64, ix65, Nat.reduceAdd, Nat.zero_add, List.count_cons, List.count_nil, Nat.reduceBEq, beq_self_eq_true, Bool.true_and, Bool.and_true, Bool.and_self, List.count_cons_self, wipeS]
    refine place_ok hwl ?_
    simp (maxSteps := 4000000) only [Y_ok, Y_ret, Y_rdv, Y_rdn, Y_rds, Y_cnv, Y_cnn, Y_cns, Y_wkv, Y_wkn, Y_wks, Y_var, Xs_nx, Xs_rt, Xs_bk, Xs_ct, Xs_skip, Xs_seq, Xs_ifs, Xs_set, Xs_stv, Xs_stn, Xs_sts, Xs_ret, Xs_rtv, Xs_rtn, Xs_rts, Xs_retN, Xs_exp, Xs_app, Xs_sset, Xs_fr, Y_int, Y_bool, Y_non, Y_str, Y_gl, Y_bin, Y_neg, Y_not, Y_and, Y_or, Y_ite, Y_cmp, Y_chain, Y_is, Y_tup, Y_lst, Y_sub, Y_sli, Y_rev, Y_blt, Y_mth, Y_isi, Y_cal, Y_lc, Y_nil, Y_cons, Y_cnil, Y_ccons, Y_rnil, Y_rcons, T_not, T_and, T_or, T_so, C_no, C_so, P_no, P_so, I_seq, I_rng, has, held, kp, wk, rtS, setS, chg, Slot.val, Opd.fz, List.getElem?_cons_zero, List.getElem?_cons_succ, List.set_cons_zero, List.set_cons_succ, Option.bind_some, Option.map_some, Option.some.injEq, exists_eq_left', exists_eq_left, and_true, true_and, PL.D.int.injEq, PL.D.str.injEq, isiD, srcs, argsO, argO, argS, slotsO, once, back_f, back_t, back_0, List.tail_cons, List.tail_nil, back1, kept, outsE, List.take_succ_cons, List.take_zero, List.map_cons, List.map_nil, Option.getD_some, Bool.not_true, Bool.not_false, if_true, Bool.false_eq_true, if_false, reduceIte, List.length_cons, List.length_nil, ex_iteO, b_addI, b_addS, b_addT, b_addL, b_subI, b_mulI, b_mulS, b_mulL, b_mulT, b_fdv, b_mod, b_pow, e_int, e_str, e_bl, c_eq, c_ne, c_in, c_notin, c_lt, c_ltS, c_le, c_gt, c_ge, t_bl, t_non, t_int, t_tup, t_lst, t_str, s_lst, s_tup, s_str, l_lst, l_tup, l_str, l_int, l_listL, l_listT, l_tupL, l_tupT, m_strip, m_upper, m_count, m_find, z_lst, z_arg, z_tup, z_str, z_rev, i_lst, i_tup, i_str, i_rng, n_non, n_tru, n_fls, decide_eq_true_eq, Opd.v.injEq, at0, at1, at2, at3, at4, at5, ix60, ix61, ix62, ix63, ix64, ix65, Nat.reduceAdd, Nat.zero_add, List.count_cons, List.count_nil, Nat.reduceBEq, beq_self_eq_true, Bool.true_and, Bool.and_true, Bool.and_self, List.count_cons_self, wipeS]
    refine counted_ok hwl rfl ?_
    simp (maxSteps := 4000000) only [Y_ok, Y_ret, Y_rdv, Y_rdn, Y_rds, Y_cnv, Y_cnn, Y_cns, Y_wkv, Y_wkn, Y_wks, Y_var, Xs_nx, Xs_rt, Xs_bk, Xs_ct, Xs_skip, Xs_seq, Xs_ifs, Xs_set, Xs_stv, Xs_stn, Xs_sts, Xs_ret, Xs_rtv, Xs_rtn, Xs_rts, Xs_retN, Xs_exp, Xs_app, Xs_sset, Xs_fr, Y_int, Y_bool, Y_non, Y_str, Y_gl, Y_bin, Y_neg, Y_not, Y_and, Y_or, Y_ite, Y_cmp, Y_chain, Y_is, Y_tup, Y_lst, Y_sub, Y_sli, Y_rev, Y_blt, Y_mth, Y_isi, Y_cal, Y_lc, Y_nil, Y_cons, Y_cnil, Y_ccons, Y_rnil, Y_rcons, T_not, T_and, T_or, T_so, C_no, C_so, P_no, P_so, I_seq, I_rng, has, held, kp, wk, rtS, setS, chg, Slot.val, Opd.fz, List.getElem?_cons_zero, List.getElem?_cons_succ, List.set_cons_zero, List.set_cons_succ, Option.bind_some, Option.map_some, Option.some.injEq, exists_eq_left', exists_eq_left, and_true, true_and, PL.D.int.injEq, PL.D.str.injEq, isiD, srcs, argsO, argO, argS, slotsO, once, back_f, back_t, back_0, List.tail_cons, List.tail_nil, back1, kept, outsE, List.take_succ_cons, List.take_zero, List.map_cons, List.map_nil, Option.getD_some, Bool.not_true, Bool.not_false, if_true, Bool.false_eq_true, if_false, reduceIte, List.length_cons, List.length_nil, ex_iteO, b_addI, b_addS, b_addT, b_addL, b_subI, b_mulI, b_mulS, b_mulL, b_mulT, b_fdv, b_mod, b_pow, e_int, e_str, e_bl, c_eq, c_ne, c_in, c_notin, c_lt, c_ltS, c_le, c_gt, c_ge, t_bl, t_non, t_int, t_tup, t_lst, t_str, s_lst, s_tup, s_str, l_lst, l_tup, l_str, l_int, l_listL, l_listT, l_tupL, l_tupT, m_strip, m_upper, m_count, m_find, z_lst, z_arg, z_tup, z_str, z_rev, i_lst, i_tup, i_str, i_rng, n_non, n_tru, n_fls, decide_eq_true_eq, Opd.v.injEq, at0, at1, at2, at3, at4, at5, ix60, ix61, ix62, ix63, ix64, ix65, Nat.reduceAdd, Nat.zero_add, List.count_cons, List.count_nil, Nat.reduceBEq, beq_self_eq_true, Bool.true_and, Bool.and_true, Bool.and_self, List.count_cons_self, wipeS]
    refine same_ok ?_
    rw [decide_eq_true (good_eq w)]
    simp (maxSteps := 4000000) only [Y_ok, Y_ret, Y_rdv, Y_rdn, Y_rds, Y_cnv, Y_cnn, Y_cns, Y_wkv, Y_wkn, Y_wks, Y_var, Xs_nx, Xs_rt, Xs_bk, Xs_ct, Xs_skip, Xs_seq, Xs_ifs, Xs_set, Xs_stv, Xs_stn, Xs_sts, Xs_ret, Xs_rtv, Xs_rtn, Xs_rts, Xs_retN, Xs_exp, Xs_app, Xs_sset, Xs_fr, Y_int, Y_bool, Y_non, Y_str, Y_gl, Y_bin, Y_neg, Y_not, Y_and, Y_or, Y_ite, Y_cmp, Y_chain, Y_is, Y_tup, Y_lst, Y_sub, Y_sli, Y_rev, Y_blt, Y_mth, Y_isi, Y_cal, Y_lc, Y_nil, Y_cons, Y_cnil, Y_ccons, Y_rnil, Y_rcons, T_not, T_and, T_or, T_so, C_no, C_so, P_no, P_so, I_seq, I_rng, has, held, kp, wk, rtS, setS, chg, Slot.val, Opd.fz, List.getElem?_cons_zero, List.getElem?_cons_succ, List.set_cons_zero, List.set_cons_succ, Option.bind_some, Option.map_some, Option.some.injEq, exists_eq_left', exists_eq_left, and_true, true_and, PL.D.int.injEq, PL.D.str.injEq, isiD, srcs, argsO, argO, argS, slotsO, once, back_f, back_t, back_0, List.tail_cons, List.tail_nil, back1, kept, outsE, List.take_succ_cons, List.take_zero, List.map_cons, List.map_nil, Option.getD_some, Bool.not_true, Bool.not_false, if_true, Bool.false_eq_true, if_false, reduceIte, List.length_cons, List.length_nil, ex_iteO, b_addI, b_addS, b_addT, b_addL, b_subI, b_mulI, b_mulS, b_mulL, b_mulT, b_fdv, b_mod, b_pow, e_int, e_str, e_bl, c_eq, c_ne, c_in, c_notin, c_lt, c_ltS, c_le, c_gt, c_ge, t_bl, t_non, t_int, t_tup, t_lst, t_str, s_lst, s_tup, s_str, l_lst, l_tup, l_str, l_int, l_listL, l_listT, l_tupL, l_tupT, m_strip, m_upper, m_count, m_find, z_lst, z_arg, z_tup, z_str, z_rev, i_lst, i_tup, i_str, i_rng, n_non, n_tru, n_fls, decide_eq_true_eq, Opd.v.injEq, at0, at1, at2, at3, at4, at5, ix60, ix61, ix62, ix63, ix64, ix65, Nat.reduceAdd, Nat.zero_add, List.count_cons, List.count_nil, Nat.reduceBEq, beq_self_eq_true, Bool.true_and, Bool.and_true, Bool.and_self, List.count_cons_self, wipeS]
    exact ⟨_, rfl, .inr ⟨_, rfl⟩⟩
  · obtain ⟨u, rfl, hu⟩ := hi
    simp (maxSteps := 4000000) only [Y_ok, Y_ret, Y_rdv, Y_rdn, Y_rds, Y_cnv, Y_cnn, Y_cns, Y_wkv, Y_wkn, Y_wks, Y_var, Xs_nx, Xs_rt, Xs_bk, Xs_ct, Xs_skip, Xs_seq, Xs_ifs, Xs_set, Xs_stv, Xs_stn, Xs_sts, Xs_ret, Xs_rtv, Xs_rtn, Xs_rts, Xs_retN, Xs_exp, Xs_app, Xs_sset, Xs_fr, Y_int, Y_bool, Y_non, Y_str, Y_gl, Y_bin, Y_neg, Y_not, Y_and, Y_or, Y_ite, Y_cmp, Y_chain, Y_is, Y_tup, Y_lst, Y_sub, Y_sli, Y_rev, Y_blt, Y_mth, Y_isi, Y_cal, Y_lc, Y_nil, Y_cons, Y_cnil, Y_ccons, Y_rnil, Y_rcons, T_not, T_and, T_or, T_so, C_no, C_so, P_no, P_so, I_seq, I_rng, has, held, kp, wk, rtS, setS, chg, Slot.val, Opd.fz, List.getElem?_cons_zero, List.getElem?_cons_succ, List.set_cons_zero, List.set_cons_succ, Option.bind_some, Option.map_some, Option.some.injEq, exists_eq_left', exists_eq_left, and_true, true_and, PL.D.int.injEq, PL.D.str.injEq, isiD, srcs, argsO, argO, argS, slotsO, once, back_f, back_t, back_0, List.tail_cons, List.tail_nil, back1, kept, outsE, List.take_succ_cons, List.take_zero, List.map_cons, List.map_nil, Option.getD_some, Bool.not_true, Bool.not_false, if_true, Bool.false_eq_true, if_false, reduceIte, List.length_cons, List.length_nil, ex_iteO, b_addI, b_addS, b_addT, b_addL, b_subI, b_mulI, b_mulS, b_mulL, b_mulT, b_fdv, b_mod, b_pow, e_int, e_str, e_bl, c_eq, c_ne, c_in, c_notin, c_lt, c_ltS, c_le, c_gt, c_ge, t_bl, t_non, t_int, t_tup, t_lst, t_str, s_lst, s_tup, s_str, l_lst, l_tup, l_str, l_int, l_listL, l_listT, l_tupL, l_tupT, m_strip, m_upper, m_count, m_find, z_lst, z_arg, z_tup, z_str, z_rev, i_lst, i_tup, i_str, i_rng, n_non, n_tru, n_fls, decide_eq_true_eq, Opd.v.injEq, at0, at1, at2, at3, at4, at5, ix60, ix61, ix62, ix63, ix64, ix65, Nat.reduceAdd, Nat.zero_add, List.count_cons, List.count_nil, Nat.reduceBEq, beq_self_eq_true, Bool.true_and, Bool.and_true, Bool.and_self, List.count_cons_self, wipeS]
    refine lp_ok (fun i e => ∃ u, e = [.fz (.arg (ns.map .int)), .ow d, .fz (.lst (ws.map .str)), u] ∧ (u = .un ∨ ∃ x, u = .fz x)) ⟨u, rfl, hu⟩ (fun i x e hx hi => ?_) (fun e hi => ?_)
    · obtain ⟨u, rfl, hu⟩ := hi
      have hx2 := List.mem_reverse.mp (List.mem_of_getElem? hx)
      obtain ⟨w, hw2, rfl⟩ := List.mem_map.mp hx2
      have hwl := hw w hw2
      refine ⟨[.fz (.arg (ns.map .int)), .ow d, .fz (.lst (ws.map .str)), .fz (.str w)], by rcases hu with rfl | ⟨_, rfl⟩ <;> rfl, ?_⟩
      simp (maxSteps := 4000000) only [Y_ok, Y_ret, Y_rdv, Y_rdn, Y_rds, Y_cnv, Y_cnn, Y_cns, Y_wkv, Y_wkn, Y_wks, Y_var, Xs_nx, Xs_rt, Xs_bk, Xs_ct, Xs_skip, Xs_seq, Xs_ifs, Xs_set, Xs_stv, Xs_stn, Xs_sts, Xs_ret, Xs_rtv, Xs_rtn, Xs_rts, Xs_retN, Xs_exp, Xs_app, Xs_sset, Xs_fr, Y_int, Y_bool, Y_non, Y_str, Y_gl, Y_bin, Y_neg, Y_not, Y_and, Y_or, Y_ite, Y_cmp, Y_chain, Y_is, Y_tup, Y_lst, Y_sub, Y_sli, Y_rev, Y_blt, Y_mth, Y_isi, Y_cal, Y_lc, Y_nil, Y_cons, Y_cnil, Y_ccons, Y_rnil, Y_rcons, T_not, T_and, T_or, T_so, C_no, C_so, P_no, P_so, I_seq, I_rng, has, held, kp, wk, rtS, setS, chg, Slot.val, Opd.fz, List.getElem?_cons_zero, List.getElem?_cons_succ, List.set_cons_zero, List.set_cons_succ, Option.bind_some, Option.map_some, Option.some.injEq, exists_eq_left', exists_eq_left, and_true, true_and, PL.D.int.injEq, PL.D.str.injEq, isiD, srcs, argsO, argO, argS, slotsO, once, back_f, back_t, back_0, List.tail_cons, List.tail_nil, back1, kept, outsE, List.take_succ_cons, List.take_zero, List.map_cons, List.map_nil, Option.getD_some, Bool.not_true, Bool.not_false, if_true, Bool.false_eq_true, if_false, reduceIte, List.length_cons, List.length_nil, ex_iteO, b_addI, b_addS, b_addT, b_addL, b_subI, b_mulI, b_mulS, b_mulL, b_mulT, b_fdv, b_mod, b_pow, e_int, e_str, e_bl, c_eq, c_ne, c_in, c_notin, c_lt, c_ltS, c_le, c_gt, c_ge, t_bl, t_non, t_int, t_tup, t_lst, t_str, s_lst, s_tup, s_str, l_lst, l_tup, l_str, l_int, l_listL, l_listT, l_tupL, l_tupT, m_strip, m_upper, m_count, m_find, z_lst, z_arg, z_tup, z_str, z_rev, i_lst, i_tup, i_str, i_rng, n_non, n_tru, n_fls, decide_eq_true_eq, Opd.v.injEq, at0, at1, at2, at3, at4, at5, ix60, ix61, ix62, ix63, ix64, ix65, Nat.reduceAdd, Nat.zero_add, List.count_cons, List.count_nil, Nat.reduceBEq, beq_self_eq_true, Bool.true_and, Bool.and_true, Bool.and_self, List.count_cons_self, wipeS]
      refine place_ok hwl ?_
      simp (maxSteps := 4000000) only [Y_ok, Y_ret, Y_rdv, Y_rdn, Y_rds, Y_cnv, Y_cnn, Y_cns, Y_wkv, Y_wkn, Y_wks, Y_var, Xs_nx, Xs_rt, Xs_bk, Xs_ct, Xs_skip, Xs_seq, Xs_ifs, Xs_set, Xs_stv, Xs_stn, Xs_sts, Xs_ret, Xs_rtv, Xs_rtn, Xs_rts, Xs_retN, Xs_exp, Xs_app, Xs_sset, Xs_fr, Y_int, Y_bool, Y_non, Y_str, Y_gl, Y_bin, Y_neg, Y_not, Y_and, Y_or, Y_ite, Y_cmp, Y_chain, Y_is, Y_tup, Y_lst, Y_sub, Y_sli, Y_rev, Y_blt, Y_mth, Y_isi, Y_cal, Y_lc, Y_nil, Y_cons, Y_cnil, Y_ccons, Y_rnil, Y_rcons, T_not, T_and, T_or, T_so, C_no, C_so, P_no, P_so, I_seq, I_rng, has, held, kp, wk, rtS, setS, chg, Slot.val, Opd.fz, List.getElem?_cons_zero, List.getElem?_cons_succ, List.set_cons_zero, List.set_cons_succ, Option.bind_some, Option.map_some, Option.some.injEq, exists_eq_left', exists_eq_left, and_true, true_and, PL.D.int.injEq, PL.D.str.injEq, isiD, srcs, argsO, argO, argS, slotsO, once, back_f, back_t, back_0, List.tail_cons, List.tail_nil, back1, kept, outsE, List.take_succ_cons, List.take_zero, List.map_cons, List.map_nil, Option.getD_some, Bool.not_true, Bool.not_false, if_true, Bool.false_eq_true, if_false, reduceIte, List.length_cons, List.length_nil, ex_iteO, b_addI, b_addS, b_addT, b_addL, b_subI, b_mulI, b_mulS, b_mulL, b_mulT, b_fdv, b_mod, b_pow, e_int, e_str, e_bl, c_eq, c_ne, c_in, c_notin, c_lt, c_ltS, c_le, c_gt, c_ge, t_bl, t_non, t_int, t_tup, t_lst, t_str, s_lst, s_tup, s_str, l_lst, l_tup, l_str, l_int, l_listL, l_listT, l_tupL, l_tupT, m_strip, m_upper, m_count, m_find, z_lst, z_arg, z_tup, z_str, z_rev, i_lst, i_tup, i_str, i_rng, n_non, n_tru, n_fls, decide_eq_true_eq, Opd.v.injEq, at0, at1, at2, at3, at4, at5, ix60, ix61, ix62, ix63, ix64, ix65, Nat.reduceAdd, Nat.zero_add, List.count_cons, List.count_nil, Nat.reduceBEq, beq_self_eq_true, Bool.true_and, Bool.and_true, Bool.and_self, List.count_cons_self, wipeS]
      refine counted_ok hwl rfl ?_
      simp (maxSteps := 4000000) only [Y_ok, Y_ret, Y_rdv, Y_rdn, Y_rds, Y_cnv, Y_cnn, Y_cns, Y_wkv, Y_wkn, Y_wks, Y_var, Xs_nx, Xs_rt, Xs_bk, Xs_ct, Xs_skip, Xs_seq, Xs_ifs, Xs_set, Xs_stv, Xs_stn, Xs_sts, Xs_ret, Xs_rtv, Xs_rtn, Xs_rts, Xs_retN, Xs_exp, Xs_app, Xs_sset, Xs_fr, Y_int, Y_bool, Y_non, Y_str, Y_gl, Y_bin, Y_neg, Y_not, Y_and, Y_or, Y_ite, Y_cmp, Y_chain, Y_is, Y_tup, Y_lst, Y_sub, Y_sli, Y_rev, Y_blt, Y_mth, Y_isi, Y_cal, Y_lc, Y_nil, Y_cons, Y_cnil, Y_ccons, Y_rnil, Y_rcons, T_not, T_and, T_or, T_so, C_no, C_so, P_no, P_so, I_seq, I_rng, has, held, kp, wk, rtS, setS, chg, Slot.val, Opd.fz, List.getElem?_cons_zero, List.getElem?_cons_succ, List.set_cons_zero, List.set_cons_succ, Option.bind_some, Option.map_some, Option.some.injEq, exists_eq_left', exists_eq_left, and_true, true_and, PL.D.int.injEq, PL.D.str.injEq, isiD, srcs, argsO, argO, argS, slotsO, once, back_f, back_t, back_0, List.tail_cons, List.tail_nil, back1, kept, outsE, List.take_succ_cons, List.take_zero, List.map_cons, List.map_nil, Option.getD_some, Bool.not_true, Bool.not_false, if_true, Bool.false_eq_true, if_false, reduceIte, List.length_cons, List.length_nil, ex_iteO, b_addI, b_addS, b_addT, b_addL, b_subI, b_mulI, b_mulS, b_mulL, b_mulT, b_fdv, b_mod, b_pow, e_int, e_str, e_bl, c_eq, c_ne, c_in, c_notin, c_lt, c_ltS, c_le, c_gt, c_ge, t_bl, t_non, t_int, t_tup, t_lst, t_str, s_lst, s_tup, s_str, l_lst, l_tup, l_str, l_int, l_listL, l_listT, l_tupL, l_tupT, m_strip, m_upper, m_count, m_find, z_lst, z_arg, z_tup, z_str, z_rev, i_lst, i_tup, i_str, i_rng, n_non, n_tru, n_fls, decide_eq_true_eq, Opd.v.injEq, at0, at1, at2, at3, at4, at5, ix60, ix61, ix62, ix63, ix64, ix65, Nat.reduceAdd, Nat.zero_add, List.count_cons, List.count_nil, Nat.reduceBEq, beq_self_eq_true, Bool.true_and, Bool.and_true, Bool.and_self, List.count_cons_self, wipeS]
      refine same_ok ?_
      rw [decide_eq_true (good_eq w)]
      simp (maxSteps := 4000000) only [Y_ok, Y_ret, Y_rdv, Y_rdn, Y_rds, Y_cnv, Y_cnn, Y_cns, Y_wkv, Y_wkn, Y_wks, Y_var, Xs_nx, Xs_rt, Xs_bk, Xs_ct, Xs_skip, Xs_seq, Xs_ifs, Xs_set, Xs_stv, Xs_stn, Xs_sts, Xs_ret, Xs_rtv, Xs_rtn, Xs_rts, Xs_retN, Xs_exp, Xs_app, Xs_sset, Xs_fr, Y_int, Y_bool, Y_non, Y_str, Y_gl, Y_bin, Y_neg, Y_not, Y_and, Y_or, Y_ite, Y_cmp, Y_chain, Y_is, Y_tup, Y_lst, Y_sub, Y_sli, Y_rev, Y_blt, Y_mth, Y_isi, Y_cal, Y_lc, Y_nil, Y_cons, Y_cnil, Y_ccons, Y_rnil, Y_rcons, T_not, T_and, T_or, T_so, C_no, C_so, P_no, P_so, I_seq, I_rng, has, held, kp, wk, rtS, setS, chg, Slot.val, Opd.fz, List.getElem?_cons_zero, List.getElem?_cons_succ, List.set_cons_zero, List.set_cons_succ, Option.bind_some, Option.map_some, Option.some.injEq, exists_eq_left', exists_eq_left, and_true, true_and, PL.D.int.injEq, PL.D.str.injEq, isiD, srcs, argsO, argO, argS, slotsO, once, back_f, back_t, back_0, List.tail_cons, List.tail_nil, back1, kept, outsE, List.take_succ_cons, List.take_zero, List.map_cons, List.map_nil, Option.getD_some, Bool.not_true, Bool.not_false, if_true, Bool.false_eq_true, if_false, reduceIte, List.length_cons, List.length_nil, ex_iteO, b_addI, b_addS, b_addT, b_addL, b_subI, b_mulI, b_mulS, b_mulL, b_mulT, b_fdv, b_mod, b_pow, e_int, e_str, e_bl, c_eq, c_ne, c_in, c_notin, c_lt, c_ltS, c_le, c_gt, c_ge, t_bl, t_non, t_int, t_tup, t_lst, t_str, s_lst, s_tup, s_str, l_lst, l_tup, l_str, l_int, l_listL, l_listT, l_tupL, l_tupT, m_strip, m_upper, m_count, m_find, z_lst, z_arg, z_tup, z_str, z_rev, i_lst, i_tup, i_str, i_rng, n_non, n_tru, n_fls, decide_eq_true_eq, Opd.v.injEq, at0, at1, at2, at3, at4, at5, ix60, ix61, ix62, ix63, ix64, ix65, Nat.reduceAdd, Nat.zero_add, List.count_cons, List.count_nil, Nat.reduceBEq, beq_self_eq_true, Bool.true_and, Bool.and_true, Bool.and_self, List.count_cons_self, wipeS]
      exact ⟨_, rfl, .inr ⟨_, rfl⟩⟩
    · obtain ⟨u, rfl, hu⟩ := hi
      simp (maxSteps := 4000000) only [Y_ok, Y_ret, Y_rdv, Y_rdn, Y_rds, Y_cnv, Y_cnn, Y_cns, Y_wkv, Y_wkn, Y_wks, Y_var, Xs_nx, Xs_rt, Xs_bk, Xs_ct, Xs_skip, Xs_seq, Xs_ifs, Xs_set, Xs_stv, Xs_stn, Xs_sts, Xs_ret, Xs_rtv, Xs_rtn, Xs_rts, Xs_retN, Xs_exp, Xs_app, Xs_sset, Xs_fr, Y_int, Y_bool, Y_non, Y_str, Y_gl, Y_bin, Y_neg, Y_not, Y_and, Y_or, Y_ite, Y_cmp, Y_chain, Y_is, Y_tup, Y_lst, Y_sub, Y_sli, Y_rev, Y_blt, Y_mth, Y_isi, Y_cal, Y_lc, Y_nil, Y_cons, Y_cnil, Y_ccons, Y_rnil, Y_rcons, T_not, T_and, T_or, T_so, C_no, C_so, P_no, P_so, I_seq, I_rng, has, held, kp, wk, rtS, setS, chg, Slot.val, Opd.fz, List.getElem?_cons_zero, List.getElem?_cons_succ, List.set_cons_zero, List.set_cons_succ, Option.bind_some, Option.map_some, Option.some.injEq, exists_eq_left', exists_eq_left, and_true, true_and, PL.D.int.injEq, PL.D.str.injEq, isiD, srcs, argsO, argO, argS, slotsO, once, back_f, back_t, back_0, List.tail_cons, List.tail_nil, back1, kept, outsE, List.take_succ_cons, List.take_zero, List.map_cons, List.map_nil, Option.getD_some, Bool.not_true, Bool.not_false, if_true, Bool.false_eq_true, if_false, reduceIte, List.length_cons, List.length_nil, ex_iteO, b_addI, b_addS, b_addT, b_addL, b_subI, b_mulI, b_mulS, b_mulL, b_mulT, b_fdv, b_mod, b_pow, e_int, e_str, e_bl, c_eq, c_ne, c_in, c_notin, c_lt, c_ltS, c_le, c_gt, c_ge, t_bl, t_non, t_int, t_tup, t_lst, t_str, s_lst, s_tup, s_str, l_lst, l_tup, l_str, l_int, l_listL, l_listT, l_tupL, l_tupT, m_strip, m_upper, m_count, m_find, z_lst, z_arg, z_tup, z_str, z_rev, i_lst, i_tup, i_str, i_rng, n_non, n_tru, n_fls, decide_eq_true_eq, Opd.v.injEq, at0, at1, at2, at3, at4, at5, ix60, ix61, ix62, ix63, ix64, ix65, Nat.reduceAdd, Nat.zero_add, List.count_cons, List.count_nil, Nat.reduceBEq, beq_self_eq_true, Bool.true_and, Bool.and_true, Bool.and_self, List.count_cons_self, wipeS]
      exact hP _
theorem run_law (ns : List Int) (hl : ns.length ≤ 63) : ∃ outs, (orc tab.def_ tab.gv 0 12).call "law" [.fz (.arg (ns.map D.int))] = .ok false (.bl true) outs := by
  have h := (law_ok (k := 4) (P := fun n d _ => n = false ∧ d = .bl true) hl fun _ => ⟨rfl, rfl⟩).run
  have h : ClR ((orc tab.def_ tab.gv 0 12).call "law" [.fz (.arg (ns.map D.int))]) (fun n d _ => n = false ∧ d = .bl true) := h
  revert h
  generalize (orc tab.def_ tab.gv 0 12).call "law" [.fz (.arg (ns.map D.int))] = r
  intro h
  cases r with
  | ok n d o =>
    obtain ⟨h1, h2⟩ : n = false ∧ d = .bl true := h
    subst h1; subst h2
    exact ⟨o, rfl⟩
  | er x o => exact (show False from h).elim
  | bad => exact (show False from h).elim
end K00
namespace K00
open PL L2 PySem PySem.Spec PyProof.Rows
theorem all_defs {l : PySem.W.OpenLaw} {w : World} {K : PySem.W.Frag} {h : Heap} {mg : Str → Option Value} {fa f0 f1 f2 f3 f4 f5 f6 f7 f8 f9 f10 f11 f12 f13 f14 : Addr} (X : K.In h) (G : h.Ns mainGlobals mg) (hfa : mg "law" = some (.ref fa))
    {od0 an0 : Option Addr} {sl0 : Array (Option Value)} {oc0 kV0 dc0 pm0 cd0 ct0 : Value}
    (a0 : PySem.W.nsIn K mainGlobals "is_place" = some (some (.ref f0))) (l0 : K.lookup f0 = some ⟨oc0, od0, .func (PySem.W.fnOf "is_place" "is_place" (defArgs (tS 2)) (defBody (tS 2)) (defScope (tS 2)) .none kV0 dc0 pm0 an0 cd0 ct0), sl0⟩) (c0 : PySem.W.codeIn K cd0 "is_place" = true) (k0 : PySem.W.keepIn K (.ref f0) = true)
    {od1 an1 : Option Addr} {sl1 : Array (Option Value)} {oc1 kV1 dc1 pm1 cd1 ct1 : Value}
    (a1 : PySem.W.nsIn K mainGlobals "_law_mix" = some (some (.ref f1))) (l1 : K.lookup f1 = some ⟨oc1, od1, .func (PySem.W.fnOf "_law_mix" "_law_mix" (defArgs (tS 4)) (defBody (tS 4)) (defScope (tS 4)) .none kV1 dc1 pm1 an1 cd1 ct1), sl1⟩) (c1 : PySem.W.codeIn K cd1 "_law_mix" = true) (k1 : PySem.W.keepIn K (.ref f1) = true)
    {od2 an2 : Option Addr} {sl2 : Array (Option Value)} {oc2 kV2 dc2 pm2 cd2 ct2 : Value}
    (a2 : PySem.W.nsIn K mainGlobals "_law_store" = some (some (.ref f2))) (l2 : K.lookup f2 = some ⟨oc2, od2, .func (PySem.W.fnOf "_law_store" "_law_store" (defArgs (tS 5)) (defBody (tS 5)) (defScope (tS 5)) .none kV2 dc2 pm2 an2 cd2 ct2), sl2⟩) (c2 : PySem.W.codeIn K cd2 "_law_store" = true) (k2 : PySem.W.keepIn K (.ref f2) = true)
    {od3 an3 : Option Addr} {sl3 : Array (Option Value)} {oc3 kV3 dc3 pm3 cd3 ct3 : Value}
    (a3 : PySem.W.nsIn K mainGlobals "_law_take" = some (some (.ref f3))) (l3 : K.lookup f3 = some ⟨oc3, od3, .func (PySem.W.fnOf "_law_take" "_law_take" (defArgs (tS 6)) (defBody (tS 6)) (defScope (tS 6)) .none kV3 dc3 pm3 an3 cd3 ct3), sl3⟩) (c3 : PySem.W.codeIn K cd3 "_law_take" = true) (k3 : PySem.W.keepIn K (.ref f3) = true)
    {od4 an4 : Option Addr} {sl4 : Array (Option Value)} {oc4 kV4 dc4 pm4 cd4 ct4 : Value}
    (a4 : PySem.W.nsIn K mainGlobals "_law_pick" = some (some (.ref f4))) (l4 : K.lookup f4 = some ⟨oc4, od4, .func (PySem.W.fnOf "_law_pick" "_law_pick" (defArgs (tS 7)) (defBody (tS 7)) (defScope (tS 7)) .none kV4 dc4 pm4 an4 cd4 ct4), sl4⟩) (c4 : PySem.W.codeIn K cd4 "_law_pick" = true) (k4 : PySem.W.keepIn K (.ref f4) = true)
    {od5 an5 : Option Addr} {sl5 : Array (Option Value)} {oc5 kV5 dc5 pm5 cd5 ct5 : Value}
    (a5 : PySem.W.nsIn K mainGlobals "_law_many" = some (some (.ref f5))) (l5 : K.lookup f5 = some ⟨oc5, od5, .func (PySem.W.fnOf "_law_many" "_law_many" (defArgs (tS 8)) (defBody (tS 8)) (defScope (tS 8)) .none kV5 dc5 pm5 an5 cd5 ct5), sl5⟩) (c5 : PySem.W.codeIn K cd5 "_law_many" = true) (k5 : PySem.W.keepIn K (.ref f5) = true)
    {od6 an6 : Option Addr} {sl6 : Array (Option Value)} {oc6 kV6 dc6 pm6 cd6 ct6 : Value}
    (a6 : PySem.W.nsIn K mainGlobals "_law_same" = some (some (.ref f6))) (l6 : K.lookup f6 = some ⟨oc6, od6, .func (PySem.W.fnOf "_law_same" "_law_same" (defArgs (tS 9)) (defBody (tS 9)) (defScope (tS 9)) .none kV6 dc6 pm6 an6 cd6 ct6), sl6⟩) (c6 : PySem.W.codeIn K cd6 "_law_same" = true) (k6 : PySem.W.keepIn K (.ref f6) = true)
    {od7 an7 : Option Addr} {sl7 : Array (Option Value)} {oc7 kV7 dc7 pm7 cd7 ct7 : Value}
    (a7 : PySem.W.nsIn K mainGlobals "_law_letters" = some (some (.ref f7))) (l7 : K.lookup f7 = some ⟨oc7, od7, .func (PySem.W.fnOf "_law_letters" "_law_letters" (defArgs (tS 10)) (defBody (tS 10)) (defScope (tS 10)) .none kV7 dc7 pm7 an7 cd7 ct7), sl7⟩) (c7 : PySem.W.codeIn K cd7 "_law_letters" = true) (k7 : PySem.W.keepIn K (.ref f7) = true)
    {od8 an8 : Option Addr} {sl8 : Array (Option Value)} {oc8 kV8 dc8 pm8 cd8 ct8 : Value}
    (a8 : PySem.W.nsIn K mainGlobals "_law_signs" = some (some (.ref f8))) (l8 : K.lookup f8 = some ⟨oc8, od8, .func (PySem.W.fnOf "_law_signs" "_law_signs" (defArgs (tS 11)) (defBody (tS 11)) (defScope (tS 11)) .none kV8 dc8 pm8 an8 cd8 ct8), sl8⟩) (c8 : PySem.W.codeIn K cd8 "_law_signs" = true) (k8 : PySem.W.keepIn K (.ref f8) = true)
    {od9 an9 : Option Addr} {sl9 : Array (Option Value)} {oc9 kV9 dc9 pm9 cd9 ct9 : Value}
    (a9 : PySem.W.nsIn K mainGlobals "_law_name" = some (some (.ref f9))) (l9 : K.lookup f9 = some ⟨oc9, od9, .func (PySem.W.fnOf "_law_name" "_law_name" (defArgs (tS 12)) (defBody (tS 12)) (defScope (tS 12)) .none kV9 dc9 pm9 an9 cd9 ct9), sl9⟩) (c9 : PySem.W.codeIn K cd9 "_law_name" = true) (k9 : PySem.W.keepIn K (.ref f9) = true)
    {od10 an10 : Option Addr} {sl10 : Array (Option Value)} {oc10 kV10 dc10 pm10 cd10 ct10 : Value}
    (a10 : PySem.W.nsIn K mainGlobals "_law_bad_place" = some (some (.ref f10))) (l10 : K.lookup f10 = some ⟨oc10, od10, .func (PySem.W.fnOf "_law_bad_place" "_law_bad_place" (defArgs (tS 13)) (defBody (tS 13)) (defScope (tS 13)) .none kV10 dc10 pm10 an10 cd10 ct10), sl10⟩) (c10 : PySem.W.codeIn K cd10 "_law_bad_place" = true) (k10 : PySem.W.keepIn K (.ref f10) = true)
    {od11 an11 : Option Addr} {sl11 : Array (Option Value)} {oc11 kV11 dc11 pm11 cd11 ct11 : Value}
    (a11 : PySem.W.nsIn K mainGlobals "_law_raw_place" = some (some (.ref f11))) (l11 : K.lookup f11 = some ⟨oc11, od11, .func (PySem.W.fnOf "_law_raw_place" "_law_raw_place" (defArgs (tS 14)) (defBody (tS 14)) (defScope (tS 14)) .none kV11 dc11 pm11 an11 cd11 ct11), sl11⟩) (c11 : PySem.W.codeIn K cd11 "_law_raw_place" = true) (k11 : PySem.W.keepIn K (.ref f11) = true)
    {od12 an12 : Option Addr} {sl12 : Array (Option Value)} {oc12 kV12 dc12 pm12 cd12 ct12 : Value}
    (a12 : PySem.W.nsIn K mainGlobals "_law_counted" = some (some (.ref f12))) (l12 : K.lookup f12 = some ⟨oc12, od12, .func (PySem.W.fnOf "_law_counted" "_law_counted" (defArgs (tS 15)) (defBody (tS 15)) (defScope (tS 15)) .none kV12 dc12 pm12 an12 cd12 ct12), sl12⟩) (c12 : PySem.W.codeIn K cd12 "_law_counted" = true) (k12 : PySem.W.keepIn K (.ref f12) = true)
    {od13 an13 : Option Addr} {sl13 : Array (Option Value)} {oc13 kV13 dc13 pm13 cd13 ct13 : Value}
    (a13 : PySem.W.nsIn K mainGlobals "_law_words" = some (some (.ref f13))) (l13 : K.lookup f13 = some ⟨oc13, od13, .func (PySem.W.fnOf "_law_words" "_law_words" (defArgs (tS 16)) (defBody (tS 16)) (defScope (tS 16)) .none kV13 dc13 pm13 an13 cd13 ct13), sl13⟩) (c13 : PySem.W.codeIn K cd13 "_law_words" = true) (k13 : PySem.W.keepIn K (.ref f13) = true)
    {od14 an14 : Option Addr} {sl14 : Array (Option Value)} {oc14 kV14 dc14 pm14 cd14 ct14 : Value}
    (a14 : PySem.W.nsIn K mainGlobals "law" = some (some (.ref f14))) (l14 : K.lookup f14 = some ⟨oc14, od14, .func (PySem.W.fnOf "law" "law" (defArgs (tS 17)) (defBody (tS 17)) (defScope (tS 17)) .none kV14 dc14 pm14 an14 cd14 ct14), sl14⟩) (c14 : PySem.W.codeIn K cd14 "law" = true) (k14 : PySem.W.keepIn K (.ref f14) = true)
    (z0 : PySem.W.nsIn K mainGlobals "bool" = some none)
    (z1 : PySem.W.nsIn K mainGlobals "int" = some none)
    (z2 : PySem.W.nsIn K mainGlobals "isinstance" = some none)
    (z3 : PySem.W.nsIn K mainGlobals "len" = some none)
    (z4 : PySem.W.nsIn K mainGlobals "list" = some none)
    (z5 : PySem.W.nsIn K mainGlobals "range" = some none)
    (z6 : PySem.W.nsIn K mainGlobals "str" = some none)
    (z7 : PySem.W.nsIn K mainGlobals "tuple" = some none)
    {t0 : Tok} (konst0 : PySem.W.nsIn K mainGlobals "LETTERS" = some (some (.str "abcdefghijklmnopqrstuvwxyz" t0)))
    : ∃ fd : FuncData, (∀ (s : Shared) (v : Value), BindsTo s fd ⟨[v], []⟩ [("script", v)]) ∧ ∀ base : Heap, K.In base → base.Ns mainGlobals mg → FnOk l.prog w K mg base (L2.CX l.prog w) 12 fa fd ["script"] (SpF K (fun _ => none) ((orc tab.def_ tab.gv 0 12).call "law")) := by
  have e := hfa.symm.trans (PySem.W.mg_of X G a14)
  cases e
  have M : PL.Mod K mg tab := mod_mk (List.forall_mem_cons.mpr ⟨l_is_place (PySem.W.mg_of X G a0) l0 c0 k0, List.forall_mem_cons.mpr ⟨l_law_mix (PySem.W.mg_of X G a1) l1 c1 k1, List.forall_mem_cons.mpr ⟨l_law_store (PySem.W.mg_of X G a2) l2 c2 k2, List.forall_mem_cons.mpr ⟨l_law_take (PySem.W.mg_of X G a3) l3 c3 k3, List.forall_mem_cons.mpr ⟨l_law_pick (PySem.W.mg_of X G a4) l4 c4 k4, List.forall_mem_cons.mpr ⟨l_law_many (PySem.W.mg_of X G a5) l5 c5 k5, List.forall_mem_cons.mpr ⟨l_law_same (PySem.W.mg_of X G a6) l6 c6 k6, List.forall_mem_cons.mpr ⟨l_law_letters (PySem.W.mg_of X G a7) l7 c7 k7, List.forall_mem_cons.mpr ⟨l_law_signs (PySem.W.mg_of X G a8) l8 c8 k8, List.forall_mem_cons.mpr ⟨l_law_name (PySem.W.mg_of X G a9) l9 c9 k9, List.forall_mem_cons.mpr ⟨l_law_bad_place (PySem.W.mg_of X G a10) l10 c10 k10, List.forall_mem_cons.mpr ⟨l_law_raw_place (PySem.W.mg_of X G a11) l11 c11 k11, List.forall_mem_cons.mpr ⟨l_law_counted (PySem.W.mg_of X G a12) l12 c12 k12, List.forall_mem_cons.mpr ⟨l_law_words (PySem.W.mg_of X G a13) l13 c13 k13, List.forall_mem_cons.mpr ⟨l_law (PySem.W.mg_of X G a14) l14 c14 k14, List.forall_mem_nil _⟩⟩⟩⟩⟩⟩⟩⟩⟩⟩⟩⟩⟩⟩⟩) (List.forall_mem_cons.mpr ⟨PySem.W.mg_none_of X G z0, List.forall_mem_cons.mpr ⟨PySem.W.mg_none_of X G z1, List.forall_mem_cons.mpr ⟨PySem.W.mg_none_of X G z2, List.forall_mem_cons.mpr ⟨PySem.W.mg_none_of X G z3, List.forall_mem_cons.mpr ⟨PySem.W.mg_none_of X G z4, List.forall_mem_cons.mpr ⟨PySem.W.mg_none_of X G z5, List.forall_mem_cons.mpr ⟨PySem.W.mg_none_of X G z6, List.forall_mem_cons.mpr ⟨PySem.W.mg_none_of X G z7, List.forall_mem_nil _⟩⟩⟩⟩⟩⟩⟩⟩) (List.forall_mem_cons.mpr ⟨⟨_, V.str "abcdefghijklmnopqrstuvwxyz", PySem.W.mg_of X G konst0, ⟨_, rfl⟩, Rep.str _⟩, List.forall_mem_nil _⟩)
  refine ⟨PySem.W.fnOf "law" "law" (defArgs (tS 17)) (defBody (tS 17)) (defScope (tS 17)) .none kV14 dc14 pm14 an14 cd14 ct14, fun s v => .of_eq rfl, fun base _ _ => ?_⟩
  refine all_ok M 12 "law" _ _ ["script"] ⟨PySem.W.mg_of X G a14, k14, fun n ks io src hs => ?_, fun d hd => ?_⟩
  · cases hs
  · have hd : some e_law.d = some d := hd
    cases hd
    exact ⟨rfl, _, _, _, [], [], _, 60, ⟨⟨_, _, .none, _, _, _, _, _, _, _, rfl, l14, c14, .inl ⟨rfl, rfl⟩, .inl rfl⟩, k14⟩, s_law, rfl, c_law⟩
/-- the law's own end -/
theorem law_end (K : PySem.W.Frag) (H : Hp) (a : Addr) (ns : List Int) (hl : ns.length ≤ 63) (hS : SqL K H a (ns.map V.int)) : SpF K (fun _ => none) ((orc tab.def_ tab.gv 0 12).call "law") [.ref a] H (fun v _ => v = .bl true) fun _ _ _ => False := by
  obtain ⟨outs, e⟩ := run_law ns hl
  refine ⟨H, [.fz (.arg (ns.map D.int))], Same.refl _, ⟨rfl, fun j x v q1 q2 => ?_, fun i j d x b hne q1 => ?_⟩, ?_⟩
  · cases j with
    | zero =>
      cases (show some (PL.Arg.fz (.arg (ns.map D.int))) = some x from q1)
      cases (show some (V.ref a) = some v from q2)
      exact Rep.arg hS (Reps.ints ns)
    | succ j => simp at q1
  · cases i with
    | zero => cases (show some (PL.Arg.fz (.arg (ns.map D.int))) = some (.io d) from q1)
    | succ i => simp at q1
  · rw [e]
    intro F' H' v _ r
    have r' : Rep K F' (.bl true) v := r
    cases r'
    rfl
end K00
open PyProof.Rows PySem.W PySem
theorem PySem.Challenge.cw_keepsapart_k00_place_exactly_holds : PySem.Challenge.rw_keepsapart_k00_place_exactly.Holds := by
  w_on; o_law
  k_head; (case hw => w_witness2)
  k_fill
  refine L2.walk_of (l := PySem.Challenge.rw_keepsapart_k00_place_exactly) (n := 63) (k := 12) (x := "script") (CX := fun w => L2.CX PySem.Challenge.rw_keepsapart_k00_place_exactly.prog w) (sp := fun w => PL.SpF _ (fun _ => none) ((PL.orc K00.tab.def_ K00.tab.gv 0 12).call "law")) rfl (by decide) rfl ⟨rfl, by decide, by decide⟩ (fun w h Y => PySem.W.kIn_of Y) ?F (fun _ H a ns hl _ hS => K00.law_end _ H a ns hl hS) (fun _ H s e s' z => by
    obtain ⟨_, _, _, _, _, _, _, _, _, _, _, _, z⟩ := z
    exact z)
  case F =>
    intro w mg fa h KX G hmg
    refine' K00.all_defs KX G hmg ?a0 ?l0 ?c0 ?k0 ?a1 ?l1 ?c1 ?k1 ?a2 ?l2 ?c2 ?k2 ?a3 ?l3 ?c3 ?k3 ?a4 ?l4 ?c4 ?k4 ?a5 ?l5 ?c5 ?k5 ?a6 ?l6 ?c6 ?k6 ?a7 ?l7 ?c7 ?k7 ?a8 ?l8 ?c8 ?k8 ?a9 ?l9 ?c9 ?k9 ?a10 ?l10 ?c10 ?k10 ?a11 ?l11 ?c11 ?k11 ?a12 ?l12 ?c12 ?k12 ?a13 ?l13 ?c13 ?k13 ?a14 ?l14 ?c14 ?k14 ?z0 ?z1 ?z2 ?z3 ?z4 ?z5 ?z6 ?z7 ?konst0
    (case a0 => k_is); (case l0 => k_is); (case c0 => k_is); (case k0 => k_is); (case a1 => k_is); (case l1 => k_is); (case c1 => k_is); (case k1 => k_is); (case a2 => k_is); (case l2 => k_is); (case c2 => k_is); (case k2 => k_is); (case a3 => k_is); (case l3 => k_is); (case c3 => k_is); (case k3 => k_is); (case a4 => k_is); (case l4 => k_is); (case c4 => k_is); (case k4 => k_is); (case a5 => k_is); (case l5 => k_is); (case c5 => k_is); (case k5 => k_is); (case a6 => k_is); (case l6 => k_is); (case c6 => k_is); (case k6 => k_is); (case a7 => k_is); (case l7 => k_is); (case c7 => k_is); (case k7 => k_is); (case a8 => k_is); (case l8 => k_is); (case c8 => k_is); (case k8 => k_is); (case a9 => k_is); (case l9 => k_is); (case c9 => k_is); (case k9 => k_is); (case a10 => k_is); (case l10 => k_is); (case c10 => k_is); (case k10 => k_is); (case a11 => k_is); (case l11 => k_is); (case c11 => k_is); (case k11 => k_is); (case a12 => k_is); (case l12 => k_is); (case c12 => k_is); (case k12 => k_is); (case a13 => k_is); (case l13 => k_is); (case c13 => k_is); (case k13 => k_is); (case a14 => k_is); (case l14 => k_is); (case c14 => k_is); (case k14 => k_is); (case z0 => k_is); (case z1 => k_is); (case z2 => k_is); (case z3 => k_is); (case z4 => k_is); (case z5 => k_is); (case z6 => k_is); (case z7 => k_is); (case konst0 => k_is)
