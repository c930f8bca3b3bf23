import PyProof.Rows.All
import Wide.All
import OpenK.AllK
import Wide.FinOn
import Lean
import PyProof.EqAt
import PyProof.EqKinds
import PyProof.TupleCall
import PyProof.Rows.TupTab
import PyProof.DictRoadsH
import PyProof.MeetsStr2
import PyProof.StrLawsTight
import PyProof.StrBlockI
import PyProof.StrWalks
import PyProof.EnumMake
import KE.KIsAll
import KE.KRevSl
import PyProof.Rows.FactsN_isinstance
import KE.KDictOf
import PyProof.AttrMiss
import PyProof.WalksMore
import PyProof.FactsAll.tuple
import PyProof.ListRange
import PyProof.StationsW
import PyProof.ExcClass2
import PyProof.RulesTry
import PyProof.PassesOwn
import OpenK.KRaise
import KE.KTryMore
import PyProof.ExcBaseAll.ValueError
import PySem.Challenge.RW_copyclerk_k23_runs_played
set_option Elab.async false
set_option autoImplicit true
set_option relaxedAutoImplicit true
set_option linter.all false
set_option genSizeOfSpec false
set_option maxHeartbeats 8000000
set_option maxRecDepth 100000
local macro_rules | `(tactic|ac_rfl)=>`(tactic|conv=>whnf)
local macro_rules | `(tactic|omega)=>`(tactic|with_reducible first|assumption|exact Nat.succ_le_of_lt (by assumption)|exact Nat.le_of_lt (by assumption)|exact Nat.zero_le _|exact Nat.lt_of_lt_of_le (by assumption) (by assumption)|exact Nat.le_trans (by assumption) (by assumption)|exact Nat.succ_le_succ (by assumption)|fail)
namespace IT
open PySem
inductive D where
 | non
 | bl (b:Bool)
 | int (i:Int)
 | str (x:List Nat)
 | tup (xs:List D)
 | lst (xs:List D)
mutual
noncomputable def D.eqb:D->D->Bool
 | .non,y=>match y with | .non=>true | _=>false
 | .bl a,y=>match y with | .bl b=>a==b | .int b=>(if a then 1 else 0)==b | _=>false
 | .int a,y=>match y with | .int b=>a==b | .bl b=>a==(if b then 1 else 0) | _=>false
 | .str a,y=>match y with | .str b=>a==b | _=>false
 | .tup a,y=>match y with | .tup b=>D.eqbs a b | _=>false
 | .lst a,y=>match y with | .lst b=>D.eqbs a b | _=>false
noncomputable def D.eqbs:List D->List D->Bool
 | [],ys=>match ys with | []=>true | _=>false
 | a::r,ys=>match ys with | b::t=>D.eqb a b&&D.eqbs r t | _=>false
end
mutual
noncomputable def D.dep:D->Nat
 | .tup xs=>D.deps xs+1
 | .lst xs=>D.deps xs+1
 | .non | .bl _ | .int _ | .str _=>0
noncomputable def D.deps:List D->Nat
 | []=>0
 | x::xs=>max (D.dep x) (D.deps xs)
end
noncomputable def zhY (a b:D):Bool:=decide (min a.dep b.dep<=60)
inductive R where
 | d (x:D)
 | loc (l:Nat)
inductive Ob where
 | lst (xs:List D)
 | fro (xs:List D)
 | ins (c:Str) (fs:List (Str×R))
 | ols (ls:List Nat)
 | dfr (kvs:List (D×D))
noncomputable def Ob.items:Ob->List D
 | .lst xs=>xs
 | .fro xs=>xs
 | .ins _ _=>[]
 | .ols _=>[]
 | .dfr _=>[]
noncomputable def Ob.isL:Ob->Bool
 | .lst _=>true
 | .fro _=>true
 | _=>false
inductive Ite where
 | r (x:R)
 | en (i:Int) (x:R)
noncomputable abbrev dI (x:D):Ite:=.r (.d x)
noncomputable abbrev Sto:=List Ob
noncomputable abbrev M (α:Type):=Sto->Option (α×Sto)
noncomputable def ok {α:Type} (a:α):M α:=λh=>some (a,h)
noncomputable def bnd {α β:Type} (x:M α) (f:α->M β):M β:=λh=>match x h with
 | some (a,h1)=>f a h1
 | none=>none
theorem zae {α:Type} {z:α} {P:Prop} (e:none=some z):P:=by cases e
noncomputable def rd:R->M D
 | .d x=>ok x
 | .loc l=>λh=>match h[l]? with
  | some o=>if o.isL then some (.lst o.items,h) else none
  | none=>none
noncomputable def fz:R->M D
 | .d x=>ok x
 | .loc l=>λh=>match h[l]? with
  | some o=>if o.isL then some (.lst o.items,h.set l (.fro o.items)) else none
  | none=>none
inductive Bo where
 | add | sub | mul | fdiv | mod | pow | band | bor
inductive Co where
 | eq | ne | lt | le | gt | ge | isin | notin | isN | isnotN
inductive Bi where
 | len | sum | tuple | int | all | any | max | min
inductive Me where
 | append | pop | popAt | clear | extend
inductive Ty where
 | int | str | bool | list | tuple
inductive Lm where
 | count | index | countT
inductive Tg where
 | name (i:Nat)
 | tup (ts:List Tg)
set_option genInjectivity false
mutual
inductive E where
 | con (d:D)
 | var (i:Nat)
 | bin (o:Bo) (a b:E)
 | neg (a:E)
 | cmp (o:Co) (a b:E)
 | and (a b:E)
 | or (a b:E)
 | not (a:E)
 | ife (c:T) (a b:E)
 | tup (es:List E)
 | lst (m:Bool) (l:L)
 | idx (a i:E)
 | sli (a lo hi:E)
 | call (f:Nat) (es:List E)
 | bi (b:Bi) (es:List E)
 | me (m:Me) (o:E) (es:List E)
 | glo (d:D)
 | isi (t:Ty) (e:E)
 | lm (m:Lm) (o a:E)
 | fld (o:E) (f:Str)
 | make (c:Str) (f:Nat) (es:List E)
 | mc (c m:Str) (f:Nat) (o:E) (es:List E)
 | lstO (tg:Tg) (it:I) (c:List T) (el:E)
 | oix (a i:E)
 | olen (a:E)
 | call0 (f:Nat)
 | stuck
inductive T where
 | val (e:E)
 | and (a b:T)
 | or (a b:T)
 | not (a:T)
inductive L where
 | disp (es:List E)
 | comp (tg:Tg) (it:I) (c:List T) (el:E)
 | of (e:E)
 | cat (a b:E)
 | ofR (e:E)
inductive I where
 | seq (e:E)
 | rng (e:E)
 | enu (e:E)
end
set_option genInjectivity true
noncomputable def big:Nat:=16777216
noncomputable def fit (n:Nat):Bool:=decide (n<=big)
noncomputable def ziA (i:Int):Bool:=decide (-(2 ^ 64)<i)&&decide (i<2 ^ 64)
noncomputable def wide:Int:=1000000000000000000000000000000000000000000000000000000000000
noncomputable def bop:Bo->D->D->Option D
 | .add,.int a,.int b=>some (.int (a+b))
 | .sub,.int a,.int b=>some (.int (a-b))
 | .mul,.int a,.int b=>if ziA a||ziA b then some (.int (a*b)) else none
 | .fdiv,.int a,.int b=>if decide (0<b)&&decide (b<wide) then some (.int (a / b)) else none
 | .mod,.int a,.int b=>if decide (0<b) then some (.int (a % b)) else none
 | .add,.str a,.str b=>if fit (a.length+b.length) then some (.str (a++b)) else none
 | .pow,.int a,.int b=>if decide (0<=b)&&decide (b<=1000000)&&decide (a.natAbs<2 ^ 64) then some (.int (a ^ b.toNat)) else none
 | .band,.int a,.int b=>if decide (0<=a)&&decide (0<=b) then some (.int (a.toNat &&& b.toNat:Nat)) else none
 | .bor,.int a,.int b=>if decide (0<=a)&&decide (0<=b) then some (.int (a.toNat ||| b.toNat:Nat)) else none
 | .add,.lst a,.lst b=>if fit (a.length+b.length) then some (.lst (a++b)) else none
 | .add,.tup a,.tup b=>if fit (a.length+b.length) then some (.tup (a++b)) else none
 | .mul,.str a,.int b=>if decide (b=0) then some (.str []) else if decide (b=1) then some (.str a) else none
 | .mul,.tup a,.int b=>if a.isEmpty||decide (b<0)||decide (2 ^ 24<b)||!fit (a.length*b.toNat) then none else some (.tup (List.replicate b.toNat a).flatten)
 | _,_,_=>none
noncomputable def fnd (y:List Nat):List Nat->Option Nat
 | []=>if y.isPrefixOf [] then some 0 else none
 | c::r=>if y.isPrefixOf (c::r) then some 0 else match fnd y r with
  | some i=>some (i+1)
  | none=>none
noncomputable def zap:D->Bool
 | .non=>true
 | _=>false
noncomputable def items:D->Option (List D)
 | .tup xs=>some xs
 | .lst xs=>some xs
 | _=>none
noncomputable def cop:Co->D->D->Option D
 | .eq,a,b=>if zhY a b then some (.bl (a.eqb b)) else none
 | .ne,a,b=>if zhY a b then some (.bl (!a.eqb b)) else none
 | .lt,.int a,.int b=>some (.bl (decide (a<b)))
 | .le,.int a,.int b=>some (.bl (decide (a<=b)))
 | .gt,.int a,.int b=>some (.bl (decide (b<a)))
 | .ge,.int a,.int b=>some (.bl (decide (b<=a)))
 | .isin,a,b=>match items b with
  | some xs=>if decide (a.dep<=60) then some (.bl (xs.any λy=>y.eqb a)) else none
  | none=>match b,a with
   | .str x,.str y=>some (.bl (fnd y x).isSome)
   | _,_=>none
 | .notin,a,b=>match items b with
  | some xs=>if decide (a.dep<=60) then some (.bl (!(xs.any λy=>y.eqb a))) else none
  | none=>match b,a with
   | .str x,.str y=>some (.bl (!(fnd y x).isSome))
   | _,_=>none
 | .isN,a,.non=>some (.bl (zap a))
 | .isnotN,a,.non=>some (.bl (!zap a))
 | .isN,.bl a,.bl b=>some (.bl (a==b))
 | .isnotN,.bl a,.bl b=>some (.bl (a != b))
 | _,_,_=>none
noncomputable def ixn (n:Nat) (i:Int):Option Nat:=if 0<=i then (if i<n then some i.toNat else none) else if -(n:Int)<=i then some (i+n).toNat else none
noncomputable def at' {α:Type} (xs:List α) (i:Int):Option α:=match ixn xs.length i with
 | some j=>xs[j]?
 | none=>none
noncomputable def idxD:D->D->Option D
 | .tup xs,.int i=>at' xs i
 | .lst xs,.int i=>at' xs i
 | .str z,.int i=>if fit z.length then (match at' z i with
  | some c=>some (.str [c])
  | none=>none) else none
 | _,_=>none
noncomputable def catD:D->D->Option (List D)
 | .lst a,.lst b=>if fit (a.length+b.length) then some (a++b) else none
 | _,_=>none
noncomputable def sIx (n d:Nat):Option Int->Nat
 | none=>d
 | some v=>if v<0 then (v+(n:Int)).toNat else min v.toNat n
noncomputable def cut {α:Type} (xs:List α) (lo hi:Option Int):List α:=(xs.drop (sIx xs.length 0 lo)).take (sIx xs.length xs.length hi-sIx xs.length 0 lo)
noncomputable def part:D->Option (Option Int)
 | .non=>some none
 | .int i=>some (some i)
 | _=>none
noncomputable def cutD (x:D) (lo hi:Option Int):Option D:=match x with
 | .tup xs=>some (.tup (cut xs lo hi))
 | .lst xs=>some (.lst (cut xs lo hi))
 | .str xs=>if fit xs.length then some (.str (cut xs lo hi)) else none
 | _=>none
noncomputable def sliD (x l u:D):Option D:=match part l,part u with
 | some lo,some hi=>cutD x lo hi
 | _,_=>none
noncomputable def sumI:List D->Option Int
 | []=>some 0
 | .int a::r=>match sumI r with
  | some s=>some (a+s)
  | none=>none
 | _=>none
noncomputable def tru:D->Option Bool
 | .non=>some false
 | .bl b=>some b
 | .int i=>some (i != 0)
 | .str x=>if fit x.length then some (!x.isEmpty) else none
 | .tup xs=>some (!xs.isEmpty)
 | .lst xs=>some (!xs.isEmpty)
noncomputable def zji:List D->Option (List Bool)
 | []=>some []
 | d::r=>match tru d with
  | some b=>match zji r with
   | some s=>some (b::s)
   | none=>none
  | none=>none
noncomputable def isiD:Ty->D->Bool
 | .int,.int _=>true
 | .int,.bl _=>true
 | .str,.str _=>true
 | .bool,.bl _=>true
 | .list,.lst _=>true
 | .tuple,.tup _=>true
 | _,_=>false
noncomputable def biD:Bi->List D->Option D
 | .len,[.tup xs]=>some (.int xs.length)
 | .len,[.lst xs]=>some (.int xs.length)
 | .len,[.str xs]=>if fit xs.length then some (.int xs.length) else none
 | .sum,[.lst xs]=>match sumI xs with
  | some s=>some (.int s)
  | none=>none
 | .tuple,[.lst xs]=>some (.tup xs)
 | .tuple,[.tup xs]=>some (.tup xs)
 | .int,[.bl b]=>some (.int (if b then 1 else 0))
 | .int,[.int i]=>some (.int i)
 | .all,[.lst xs]=>match zji xs with
  | some bs=>some (.bl (bs.all id))
  | none=>none
 | .any,[.lst xs]=>match zji xs with
  | some bs=>some (.bl (bs.any id))
  | none=>none
 | .max,[.int i,.int j]=>some (.int (if j>i then j else i))
 | .min,[.int i,.int j]=>some (.int (if j<i then j else i))
 | _,_=>none
noncomputable def lmD:Lm->D->D->Option D
 | .count,.lst xs,d=>if decide (d.dep<=60) then some (.int (xs.countP λy=>y.eqb d)) else none
 | .index,.lst xs,d=>if decide (d.dep<=60) then (match xs.findIdx? λy=>y.eqb d with
  | some j=>some (.int j)
  | none=>none) else none
 | .countT,.tup xs,d=>if decide (d.dep<=60) then some (.int (xs.countP λy=>y.eqb d)) else none
 | _,_,_=>none
noncomputable abbrev Env:=List (Option R)
mutual
noncomputable def zaT:Tg->R->Env->M Env
 | .name i,r,σ=>ok (σ.set i (some r))
 | .tup ts,r,σ=>bnd (rd r) λd=>match d with
  | .tup xs=>bindTs ts xs σ
  | _=>λ_=>none
noncomputable def bindTs:List Tg->List D->Env->M Env
 | [],xs,σ=>match xs with
  | []=>ok σ
  | _=>λ_=>none
 | t::ts,xs,σ=>match xs with
  | x::xs=>bnd (zaT t (.d x) σ) λσ'=>bindTs ts xs σ'
  | _=>λ_=>none
end
noncomputable def zas:Tg->Ite->Env->M Env
 | tg,.r x,σ=>zaT tg x σ
 | .tup [a,b],.en i x,σ=>bnd (zaT a (.d (.int i)) σ) λσ'=>zaT b x σ'
 | _,_,_=>λ_=>none
mutual
noncomputable def D.same:D->D->Bool
 | .non,y=>match y with | .non=>true | _=>false
 | .bl a,y=>match y with | .bl b=>a==b | _=>false
 | .int a,y=>match y with | .int b=>a==b | _=>false
 | .str a,y=>match y with | .str b=>a==b | _=>false
 | .tup a,y=>match y with | .tup b=>D.sames a b | _=>false
 | .lst a,y=>match y with | .lst b=>D.sames a b | _=>false
noncomputable def D.sames:List D->List D->Bool
 | [],ys=>match ys with | []=>true | _=>false
 | a::r,ys=>match ys with | b::t=>D.same a b&&D.sames r t | _=>false
end
mutual
theorem D.same_eq:∀ x y:D,D.same x y=true->x=y
 | .non,.non,_=>rfl
 | .bl a,.bl b,h=>by simp [D.same] at h;rw [h]
 | .int a,.int b,h=>by simp [D.same] at h;rw [h]
 | .str a,.str b,h=>by simp [D.same] at h;rw [h]
 | .tup a,.tup b,h=>by simp [D.same] at h;rw [D.sames_eq a b h]
 | .lst a,.lst b,h=>by simp [D.same] at h;rw [D.sames_eq a b h]
 | .non,.bl _,h | .non,.int _,h | .non,.str _,h | .non,.tup _,h | .non,.lst _,h=>by simp [D.same] at h
 | .bl _,.non,h | .bl _,.int _,h | .bl _,.str _,h | .bl _,.tup _,h | .bl _,.lst _,h=>by simp [D.same] at h
 | .int _,.non,h | .int _,.bl _,h | .int _,.str _,h | .int _,.tup _,h | .int _,.lst _,h=>by simp [D.same] at h
 | .str _,.non,h | .str _,.bl _,h | .str _,.int _,h | .str _,.tup _,h | .str _,.lst _,h=>by simp [D.same] at h
 | .tup _,.non,h | .tup _,.bl _,h | .tup _,.int _,h | .tup _,.str _,h | .tup _,.lst _,h=>by simp [D.same] at h
 | .lst _,.non,h | .lst _,.bl _,h | .lst _,.int _,h | .lst _,.str _,h | .lst _,.tup _,h=>by simp [D.same] at h
theorem D.sames_eq:∀ x y:List D,D.sames x y=true->x=y
 | [],[],_=>rfl
 | a::r,b::t,h=>by
  simp [D.sames] at h;rw [D.same_eq a b h.1,D.sames_eq r t h.2]
 | [],_::_,h=>by simp [D.sames] at h
 | _::_,[],h=>by simp [D.sames] at h
end
mutual
theorem D.same_refl:∀ x:D,D.same x x=true
 | .non=>rfl
 | .bl a=>by simp [D.same]
 | .int a=>by simp [D.same]
 | .str a=>by simp [D.same]
 | .tup a=>by simp [D.same];exact D.sames_refl a
 | .lst a=>by simp [D.same];exact D.sames_refl a
theorem D.sames_refl:∀ x:List D,D.sames x x=true
 | []=>rfl
 | a::r=>by simp [D.sames];exact ⟨D.same_refl a,D.sames_refl r⟩
end
mutual
noncomputable def D.hk:D->Bool
 | .int _=>true
 | .str _=>true
 | .tup xs=>D.hks xs
 | .non | .bl _ | .lst _=>false
noncomputable def D.hks:List D->Bool
 | []=>true
 | x::r=>D.hk x&&D.hks r
end
noncomputable def zuY:D->Bool
 | .tup xs=>D.hks xs&&decide (D.deps xs<=6)
 | _=>false
noncomputable def zcC:List (D×D)->List (D×D)->Bool
 | [],ys=>ys.isEmpty
 | p::r,ys=>match ys with
  | q::t=>p.1.same q.1&&p.2.same q.2&&zcC r t
  | []=>false
noncomputable def ltS:List Nat->List Nat->Bool
 | [],ys=>match ys with | []=>false | _=>true
 | a::r,ys=>match ys with | b::t=>if a=b then ltS r t else decide (a<b) | []=>false
mutual
noncomputable def D.lt:D->D->Option Bool
 | .int a,y=>match y with | .int b=>some (decide (a<b)) | _=>none
 | .str a,y=>match y with | .str b=>some (ltS a b) | _=>none
 | .tup a,y=>match y with | .tup b=>D.lts a b | _=>none
 | .non,_=>none
 | .bl _,_=>none
 | .lst _,_=>none
noncomputable def D.lts:List D->List D->Option Bool
 | [],ys=>match ys with | []=>some false | _=>some true
 | a::r,ys=>match ys with | b::t=>if D.same a b then D.lts r t else D.lt a b | []=>some false
end
noncomputable def apart:List D->Bool
 | []=>true
 | x::r=>(r.all λy=>!x.same y)&&apart r
noncomputable def once:List D->List D
 | []=>[]
 | x::r=>x::(once r).filter λy=>!x.same y
noncomputable def Ob.same:Ob->Ob->Bool
 | .dfr a,o=>match o with
  | .dfr b=>zcC a b
  | _=>false
 | .ols a,o=>match o with
  | .ols b=>a==b
  | _=>false
 | .ins _ _,_=>false
 | .lst a,o=>o.isL&&D.sames a o.items
 | .fro a,o=>o.isL&&D.sames a o.items
noncomputable def zaE (l:Option Nat) (h h':Sto):Bool:=match l with
 | none=>true
 | some l=>match h[l]?,h'[l]? with
  | some o,some o'=>o.same o'
  | _,_=>false
noncomputable def zbd {α:Type} (l:Option Nat) (f:Ite->M (Option α)):List Ite->M (List α)
 | []=>ok []
 | x::xs=>λh=>match f x h with
  | some (o,h1)=>if zaE l h h1 then bnd (zbd l f xs) (λys=>ok (match o with | some y=>y::ys | none=>ys)) h1 else none
  | none=>none
noncomputable def za6 (lo:Int):Nat->List D
 | 0=>[]
 | n+1=>.int lo::za6 (lo+1) n
noncomputable def opt {α:Type} (o:Option α):M α:=λh=>match o with
 | some a=>some (a,h)
 | none=>none
noncomputable def alloc (xs:List D):M R:=λh=>some (.loc h.length,h++[.lst xs])
structure Wk where
 xs:List Ite
 l:Option Nat
noncomputable def wkOf (r:R) (d:D):M Wk:=match items d with
 | some xs=>ok ⟨xs.map dI,match r with | .loc l=>some l | .d _=>none⟩
 | none=>match d with
  | .str x=>if fit x.length then ok ⟨(x.map λc=>D.str [c]).map dI,none⟩ else λ_=>none
  | _=>λ_=>none
noncomputable def zbF (r:R):M (Option (List Nat)):=λh=>match r with
 | .loc l=>match h[l]? with
  | some (.ols ls)=>some (some ls,h)
  | _=>some (none,h)
 | .d _=>some (none,h)
noncomputable def zbe (r:R):M Wk:=bnd (zbF r) λo=>match o with
 | some ls=>ok ⟨ls.map λl=>.r (.loc l),match r with | .loc l=>some l | .d _=>none⟩
 | none=>bnd (rd r) λd=>wkOf r d
noncomputable def zat (i:Int):List Ite->Option (List Ite)
 | []=>some []
 | .r x::t=>match zat (i+1) t with
  | some l=>some (.en i x::l)
  | none=>none
 | .en _ _::_=>none
noncomputable def isLs:R->Bool
 | .loc _=>true
 | .d (.lst _)=>true
 | _=>false
noncomputable def zkH (r:R):M Wk:=if isLs r then bnd (zbe r) λw=>match zat 0 w.xs with
  | some l=>ok ⟨l,w.l⟩
  | none=>λ_=>none
 else λ_=>none
noncomputable def zgu (r:R):M Wk:=match r with
 | .d (.int n)=>if decide (-(2 ^ 62)<=n)&&decide (n<=16777216) then ok ⟨(za6 0 n.toNat).map dI,none⟩ else λ_=>none
 | _=>λ_=>none
mutual
noncomputable def Tg.slots:Tg->List Nat
 | .name i=>[i]
 | .tup ts=>Tg.slotss ts
noncomputable def Tg.slotss:List Tg->List Nat
 | []=>[]
 | t::ts=>t.slots++Tg.slotss ts
end
noncomputable def clr:List Nat->Env->Env
 | [],σ=>σ
 | i::r,σ=>clr r (σ.set i none)
noncomputable abbrev Calls:=Nat->List R->M R
noncomputable def zeE (x:R):M Unit:=λh=>match x with
 | .loc l=>match h[l]? with
  | some o=>if o.isL then some ((),h) else none
  | none=>none
 | .d _=>none
noncomputable def putF (f:Str) (v:R):List (Str×R)->List (Str×R)
  | []=>[(f,v)]
  | (g,x)::r=>if g=f then (g,v)::r else (g,x)::putF f v r
noncomputable def getA (x:R) (f:Str):M R:=λh=>match x with
 | .loc l=>match h[l]? with
  | some (.ins _ fs)=>match fs.lookup f with
   | some r=>some (r,h)
   | none=>none
  | _=>none
 | .d _=>none
noncomputable def setA (x:R) (f:Str) (v:R):M Unit:=λh=>match x with
 | .loc l=>match h[l]? with
  | some (.ins c fs)=>if (fs.lookup f).isSome=true/\fs.length<900 then some ((),h.set l (.ins c (putF f v fs))) else none
  | _=>none
 | .d _=>none
noncomputable def setN (x:R) (c f:Str) (v:R):M Unit:=λh=>match x with
 | .loc l=>match h[l]? with
  | some (.ins c' fs)=>if c'=c/\fs.length<900 then some ((),h.set l (.ins c' (putF f v fs))) else none
  | _=>none
 | .d _=>none
noncomputable def isA (x:R) (c m:Str):M Unit:=λh=>match x with
 | .loc l=>match h[l]? with
  | some (.ins c' fs)=>if c'=c/\(fs.lookup m).isNone then some ((),h) else none
  | _=>none
 | .d _=>none
noncomputable def newA (c:Str):M R:=λh=>some (.loc h.length,h++[.ins c []])
noncomputable def zbn (x:R):M Nat:=λh=>match x with
 | .loc l=>match h[l]? with
  | some (.ins _ _)=>some (l,h)
  | _=>none
 | .d _=>none
noncomputable def allocO (ls:List Nat):M R:=λh=>some (.loc h.length,h++[.ols ls])
noncomputable def meth:Me->R->List R->M R
 | .append,.loc l,[r]=>bnd (fz r) λd h=>match h[l]? with
  | some (.lst xs)=>if decide (xs.length<big) then some (.d .non,h.set l (.lst (xs++[d]))) else none
  | _=>none
 | .pop,.loc l,[]=>λh=>match h[l]? with
  | some (.lst xs)=>match xs[xs.length-1]? with
   | some y=>some (.d y,h.set l (.lst xs.dropLast))
   | none=>none
  | _=>none
 | .popAt,.loc l,[.d (.int i)]=>λh=>if decide (-(2 ^ 63)<=i)&&decide (i<2 ^ 63) then match h[l]? with
  | some (.lst xs)=>match ixn xs.length i with
   | some k=>match xs[k]? with
    | some y=>some (.d y,h.set l (.lst (xs.eraseIdx k)))
    | none=>none
   | none=>none
  | _=>none
  else none
 | .clear,.loc l,[]=>λh=>match h[l]? with
  | some (.lst xs)=>some (.d .non,h.set l (.lst []))
  | _=>none
 | .extend,.loc l,[r]=>bnd (rd r) λd h=>match d with
  | .lst ys=>match h[l]? with
   | some (.lst xs)=>if fit (xs.length+ys.length) then some (.d .non,h.set l (.lst (xs++ys))) else none
   | _=>none
  | _=>none
 | _,_,_=>λ_=>none
mutual
noncomputable def ev (Γ:Calls):E->Env->M R
 | .con d,_=>ok (.d d)
 | .var i,σ=>λh=>match σ[i]? with
  | some (some r)=>some (r,h)
  | _=>none
 | .bin o a b,σ=>bnd (ev Γ a σ) λx=>bnd (ev Γ b σ) λy=>bnd (rd x) λx=>bnd (rd y) λy=>bnd (opt (bop o x y)) λz=>ok (.d z)
 | .neg a,σ=>bnd (ev Γ a σ) λx=>match x with
  | .d (.int i)=>ok (.d (.int (-i)))
  | _=>λ_=>none
 | .cmp o a b,σ=>bnd (ev Γ a σ) λx=>bnd (ev Γ b σ) λy=>bnd (rd x) λx=>bnd (rd y) λy=>bnd (opt (cop o x y)) λz=>ok (.d z)
 | .and a b,σ=>bnd (ev Γ a σ) λx=>match x with
  | .d (.bl c)=>if c then ev Γ b σ else ok (.d (.bl false))
  | _=>λ_=>none
 | .or a b,σ=>bnd (ev Γ a σ) λx=>match x with
  | .d (.bl c)=>if c then ok (.d (.bl true)) else ev Γ b σ
  | _=>λ_=>none
 | .not a,σ=>bnd (ev Γ a σ) λx=>bnd (rd x) λd=>bnd (opt (tru d)) λt=>ok (.d (.bl (!t)))
 | .ife c a b,σ=>bnd (tv Γ c σ) λt=>if t then ev Γ a σ else ev Γ b σ
 | .tup es,σ=>bnd (evs Γ es σ) λrs=>bnd (fzs rs) λds=>ok (.d (.tup ds))
 | .lst m l,σ=>bnd (evL Γ l σ) λxs=>if m then alloc xs else ok (.d (.lst xs))
 | .idx a i,σ=>bnd (ev Γ a σ) λx=>bnd (ev Γ i σ) λy=>bnd (rd x) λx=>bnd (rd y) λy=>bnd (opt (idxD x y)) λz=>ok (.d z)
 | .sli a lo hi,σ=>bnd (ev Γ a σ) λx=>bnd (ev Γ lo σ) λl=>bnd (ev Γ hi σ) λu=>bnd (rd x) λx=>bnd (rd l) λl=>bnd (rd u) λu=>bnd (opt (sliD x l u)) λz=>ok (.d z)
 | .call f es,σ=>bnd (evs Γ es σ) λrs=>Γ f rs
 | .bi b es,σ=>bnd (evs Γ es σ) λrs=>bnd (rds rs) λds=>bnd (opt (biD b ds)) λz=>ok (.d z)
 | .me m o es,σ=>bnd (ev Γ o σ) λx=>bnd (zeE x) λ_=>bnd (evs Γ es σ) λrs=>meth m x rs
 | .glo d,_=>ok (.d d)
 | .isi t e,σ=>bnd (ev Γ e σ) λr=>bnd (rd r) λd=>ok (.d (.bl (isiD t d)))
 | .lm m o a,σ=>bnd (ev Γ o σ) λx=>bnd (rd x) λ_=>bnd (ev Γ a σ) λy=>bnd (rd x) λx=>bnd (rd y) λy=>bnd (opt (lmD m x y)) λz=>ok (.d z)
 | .fld o f,σ=>bnd (ev Γ o σ) λx=>getA x f
 | .make c f es,σ=>bnd (evs Γ es σ) λrs=>bnd (newA c) λx=>bnd (Γ f (x::rs)) λr=>match r with
  | .d .non=>ok x
  | _=>λ_=>none
 | .mc c m f o es,σ=>bnd (ev Γ o σ) λx=>bnd (isA x c m) λ_=>bnd (evs Γ es σ) λrs=>Γ f (x::rs)
 | .lstO tg it c el,σ=>bnd (evI Γ it σ) λw=>bnd (zbd w.l (λx=>bnd (zas tg x (clr tg.slots σ)) λσ'=>bnd (tvs Γ c σ') λt=>if t then bnd (ev Γ el σ') λr=>bnd (zbn r) λd=>ok (some d) else ok none) w.xs) λls=>allocO ls
 | .oix a i,σ=>bnd (ev Γ a σ) λx=>bnd (ev Γ i σ) λy=>bnd (zbF x) λo=>match o,y with
  | some ls,.d (.int k)=>match at' ls k with
   | some l=>ok (.loc l)
   | none=>λ_=>none
  | _,_=>λ_=>none
 | .olen a,σ=>bnd (ev Γ a σ) λx=>bnd (zbF x) λo=>match o with
  | some ls=>ok (.d (.int ls.length))
  | none=>λ_=>none
 | .call0 f,_=>Γ f []
 | .stuck,_=>λ_=>none
noncomputable def evs (Γ:Calls):List E->Env->M (List R)
 | [],_=>ok []
 | e::es,σ=>bnd (ev Γ e σ) λr=>bnd (evs Γ es σ) λrs=>ok (r::rs)
noncomputable def tv (Γ:Calls):T->Env->M Bool
 | .val e,σ=>bnd (ev Γ e σ) λr=>bnd (rd r) λd=>opt (tru d)
 | .and a b,σ=>bnd (tv Γ a σ) λt=>if t then tv Γ b σ else ok false
 | .or a b,σ=>bnd (tv Γ a σ) λt=>if t then ok true else tv Γ b σ
 | .not a,σ=>bnd (tv Γ a σ) λt=>ok (!t)
noncomputable def tvs (Γ:Calls):List T->Env->M Bool
 | [],_=>ok true
 | c::cs,σ=>bnd (tv Γ c σ) λt=>if t then tvs Γ cs σ else ok false
noncomputable def evL (Γ:Calls):L->Env->M (List D)
 | .disp es,σ=>bnd (evs Γ es σ) λrs=>fzs rs
 | .comp tg it c el,σ=>bnd (evI Γ it σ) λw=>zbd w.l (λx=>bnd (zas tg x (clr tg.slots σ)) λσ'=>bnd (tvs Γ c σ') λt=>if t then bnd (ev Γ el σ') λr=>bnd (fz r) λd=>ok (some d) else ok none) w.xs
 | .of e,σ=>bnd (ev Γ e σ) λr=>bnd (rd r) λd=>opt (items d)
 | .cat a b,σ=>bnd (ev Γ a σ) λx=>bnd (ev Γ b σ) λy=>bnd (rd x) λx=>bnd (rd y) λy=>opt (catD x y)
 | .ofR e,σ=>bnd (ev Γ e σ) λr=>match r with
  | .d (.int n)=>if decide (-(2 ^ 62)<=n)&&decide (n<=16777216) then ok (za6 0 n.toNat) else λ_=>none
  | _=>λ_=>none
noncomputable def evI (Γ:Calls):I->Env->M Wk
 | .seq e,σ=>bnd (ev Γ e σ) λr=>zbe r
 | .rng e,σ=>bnd (ev Γ e σ) λr=>zgu r
 | .enu e,σ=>bnd (ev Γ e σ) λr=>zkH r
noncomputable def fzs:List R->M (List D)
 | []=>ok []
 | r::rs=>bnd (fz r) λd=>bnd (fzs rs) λds=>ok (d::ds)
noncomputable def rds:List R->M (List D)
 | []=>ok []
 | r::rs=>bnd (rd r) λd=>bnd (rds rs) λds=>ok (d::ds)
end
set_option genInjectivity false in
inductive S where
 | asg (tg:Tg) (e:E)
 | setI (o i e:E)
 | setF (o:E) (f:Str) (e:E)
 | setN (c:Str) (o:E) (f:Str) (e:E)
 | exp (e:E)
 | ife (c:T) (a b:List S)
 | for (tg:Tg) (it:I) (body:List S)
 | ret (e:E)
 | retN
 | brk
 | cnt
 | whl (c:T) (body:List S)
 | rai (c:Nat) (es:List E)
 | tryc (f:Nat) (es:List E) (c:Nat) (i:Nat) (d:D)
 | stuck
inductive Fl where
 | nx | ret (r:R) | brk | cnt
noncomputable def zf2 (x:R) (i:D) (d:D):M Unit:=λh=>match x,i with
 | .loc l,.int k=>match h[l]? with
  | some (.lst xs)=>match ixn xs.length k with
   | some j=>some ((),h.set l (.lst (xs.set j d)))
   | none=>none
  | _=>none
 | _,_=>none
noncomputable def loop (l:Option Nat) (f:Ite->Env->M (Fl×Env)):List Ite->Env->M (Fl×Env)
 | [],σ=>ok (.nx,σ)
 | x::xs,σ=>λh=>match f x σ h with
  | some ((fl,σ1),h1)=>match fl with
   | .ret r=>some ((.ret r,σ1),h1)
   | .brk=>some ((.nx,σ1),h1)
   | _=>if zaE l h h1 then loop l f xs σ1 h1 else none
  | none=>none
noncomputable def zeC (c:Env->M Bool) (f:Env->M (Fl×Env)):Nat->Env->M (Fl×Env)
 | 0,_=>λ_=>none
 | n+1,σ=>bnd (c σ) λt=>if t then bnd (f σ) λp=>match p.1 with
   | .ret r=>ok (.ret r,p.2)
   | .brk=>ok (.nx,p.2)
   | _=>zeC c f n p.2
  else ok (.nx,σ)
noncomputable def zby:Nat:=1000000
noncomputable def xof (f:Nat):Nat:=f+1000
noncomputable def zkB (c:Nat) (r:R):Bool:=match r with
 | .d (.int x)=>x==(c:Int)
 | _=>false
mutual
noncomputable def ex (Γ:Calls):S->Env->M (Fl×Env)
 | .asg tg e,σ=>bnd (ev Γ e σ) λr=>bnd (zaT tg r σ) λσ'=>ok (.nx,σ')
 | .setI o i e,σ=>bnd (ev Γ e σ) λr=>bnd (ev Γ o σ) λx=>bnd (ev Γ i σ) λy=>bnd (fz r) λd=>bnd (rd y) λy=>bnd (zf2 x y d) λ_=>ok (.nx,σ)
 | .setF o f e,σ=>bnd (ev Γ e σ) λr=>bnd (ev Γ o σ) λx=>bnd (setA x f r) λ_=>ok (.nx,σ)
 | .setN c o f e,σ=>bnd (ev Γ e σ) λr=>bnd (ev Γ o σ) λx=>bnd (setN x c f r) λ_=>ok (.nx,σ)
 | .exp e,σ=>bnd (ev Γ e σ) λ_=>ok (.nx,σ)
 | .ife c a b,σ=>bnd (tv Γ c σ) λt=>if t then exs Γ a σ else exs Γ b σ
 | .for tg it body,σ=>bnd (evI Γ it σ) λw=>loop w.l (λx σ=>bnd (zas tg x σ) λσ'=>exs Γ body σ') w.xs σ
 | .ret e,σ=>bnd (ev Γ e σ) λr=>ok (.ret r,σ)
 | .retN,σ=>ok (.ret (.d .non),σ)
 | .brk,σ=>ok (.brk,σ)
 | .cnt,σ=>ok (.cnt,σ)
 | .whl c b,σ=>zeC (tv Γ c) (exs Γ b) zby σ
 | .rai _ _,_=>λ_=>none
 | .tryc f es c i d,σ=>bnd (evs Γ es σ) λrs h=>match Γ f rs h with
  | some (_,h1)=>some ((.nx,σ),h1)
  | none=>match Γ (xof f) rs h with
   | some (r,h1)=>if zkB c r then some ((.nx,σ.set i (some (.d d))),h1) else none
   | none=>none
 | .stuck,_=>λ_=>none
noncomputable def exs (Γ:Calls):List S->Env->M (Fl×Env)
 | [],σ=>ok (.nx,σ)
 | s::r,σ=>bnd (ex Γ s σ) λp=>match p.1 with
  | .nx=>exs Γ r p.2
  | _=>ok p
end
noncomputable def zc8 (l:Option Nat) (f:Ite->Env->M (Fl×Env)) (g:Ite->Env->M R):List Ite->Env->M R
 | [],_=>λ_=>none
 | x::xs,σ=>λh=>match f x σ h with
  | some ((fl,σ1),h1)=>match fl with
   | .nx=>if zaE l h h1 then zc8 l f g xs σ1 h1 else none
   | .cnt=>if zaE l h h1 then zc8 l f g xs σ1 h1 else none
   | _=>none
  | none=>g x σ h
mutual
noncomputable def exX (Γ:Calls):S->Env->M R
 | .rai c es,σ=>bnd (evs Γ es σ) λ_=>ok (.d (.int c))
 | .asg _ e,σ=>match e with
  | .call f es=>bnd (evs Γ es σ) λrs=>Γ (xof f) rs
  | _=>λ_=>none
 | .ife c a b,σ=>bnd (tv Γ c σ) λt=>if t then exXs Γ a σ else exXs Γ b σ
 | .for tg it body,σ=>bnd (evI Γ it σ) λw=>zc8 w.l (λx σ=>bnd (zas tg x σ) λσ'=>exs Γ body σ') (λx σ=>bnd (zas tg x σ) λσ'=>exXs Γ body σ') w.xs σ
 | .setI _ _ _,_=>λ_=>none
 | .setF _ _ _,_=>λ_=>none
 | .setN _ _ _ _,_=>λ_=>none
 | .exp _,_=>λ_=>none
 | .ret _,_=>λ_=>none
 | .retN,_=>λ_=>none
 | .brk,_=>λ_=>none
 | .cnt,_=>λ_=>none
 | .whl _ _,_=>λ_=>none
 | .tryc _ _ _ _ _,_=>λ_=>none
 | .stuck,_=>λ_=>none
noncomputable def exXs (Γ:Calls):List S->Env->M R
 | [],_=>λ_=>none
 | s::r,σ=>λh=>match ex Γ s σ h with
  | some ((fl,σ1),h1)=>match fl with
   | .nx=>exXs Γ r σ1 h1
   | _=>none
  | none=>exX Γ s σ h
end
structure F where
 np:Nat
 ns:Nat
 body:List S
 keep:Bool
 dfl:List D
 all:Bool:=false
noncomputable def zau (np:Nat) (dfl:List D) (rs:List R):List R:=if rs.length+dfl.length<np then rs else rs++(dfl.drop (rs.length+dfl.length-np)).map R.d
noncomputable def R.same:R->R->Bool
 | .d x,y=>match y with
  | .d z=>D.same x z
  | _=>false
 | .loc l,y=>match y with
  | .loc k=>l==k
  | _=>false
noncomputable def zdE:List (Str×R)->List (Str×R)->Bool
  | [],ys=>ys.isEmpty
  | (f,x)::r,ys=>match ys with
    | (g,y)::t=>f==g&&x.same y&&zdE r t
    | []=>false
noncomputable def objs:Sto->Sto->Bool
 | [],_=>true
 | o::h,h1=>match h1 with
  | []=>false
  | o1::t=>(match o,o1 with
   | .ins c fs,.ins c1 fs1=>c==c1&&zdE fs fs1
   | .ols a,.ols b=>a==b
   | .dfr a,.dfr b=>zcC a b
   | .lst _,.lst _=>true
   | .lst _,.fro _=>true
   | .fro _,.lst _=>true
   | .fro _,.fro _=>true
   | _,_=>false)&&objs h t
noncomputable def fin0 (n0:Nat) (keep:Bool) (r:R) (h1:Sto):Option (R×Sto):=match r with
 | .d x=>some (.d x,h1.take n0)
 | .loc l=>if l<n0 then some (.loc l,h1.take n0) else match h1[l]? with
  | some (.lst xs)=>if keep then some (.loc n0,h1.take n0++[.lst xs]) else some (.d (.lst xs),h1.take n0)
  | some (.fro xs)=>some (.d (.lst xs),h1.take n0)
  | _=>none
noncomputable def fin (h:Sto) (all keep:Bool) (r:R) (h1:Sto):Option (R×Sto):=if all then some (r,h1) else if objs h h1 then fin0 h.length keep r h1 else none
noncomputable def finX (h:Sto) (all keep:Bool) (r:R) (h1:Sto):Option (R×Sto):=match r with
 | .d (.int c)=>fin h all keep (.d (.int c)) h1
 | _=>none
noncomputable def zaf (P:List F):Nat->Calls
 | 0,_,_=>λ_=>none
 | n + 1,f,rs=>λh=>match P[f]? with
  | some F=>if (zau F.np F.dfl rs).length=F.np then match exs (zaf P n) F.body ((zau F.np F.dfl rs).map some++List.replicate (F.ns-F.np) none) h with
    | some ((.ret r,_),h1)=>fin h F.all F.keep r h1
    | some ((.nx,_),h1)=>fin h F.all F.keep (.d .non) h1
    | _=>none
   else none
  | none=>match P[f-1000]? with
   | some F=>if (zau F.np F.dfl rs).length=F.np then match exXs (zaf P n) F.body ((zau F.np F.dfl rs).map some++List.replicate (F.ns-F.np) none) h with
     | some (r,h1)=>finX h F.all F.keep r h1
     | none=>none
    else none
   | none=>none
theorem za3 (P:List F) (n f:Nat) (rs:List R) (h:Sto):zaf P (n+1) f rs h=match P[f]? with
  | some F=>if (zau F.np F.dfl rs).length=F.np then match exs (zaf P n) F.body ((zau F.np F.dfl rs).map some++List.replicate (F.ns-F.np) none) h with
    | some ((.ret r,_),h1)=>fin h F.all F.keep r h1
    | some ((.nx,_),h1)=>fin h F.all F.keep (.d .non) h1
    | _=>none
   else none
  | none=>match P[f-1000]? with
   | some F=>if (zau F.np F.dfl rs).length=F.np then match exXs (zaf P n) F.body ((zau F.np F.dfl rs).map some++List.replicate (F.ns-F.np) none) h with
     | some (r,h1)=>finX h F.all F.keep r h1
     | none=>none
    else none
   | none=>none:=rfl
theorem zek {P:List F} {n f:Nat} {rs:List R} {h:Sto} {F:F} (hP:P.length<=1000) (e:P[f]?=some F):zaf P (n+1) (xof f) rs h=if (zau F.np F.dfl rs).length=F.np then match exXs (zaf P n) F.body ((zau F.np F.dfl rs).map some++List.replicate (F.ns-F.np) none) h with
  | some (r,h1)=>finX h F.all F.keep r h1
  | none=>none
 else none:=by
 rw [za3]
 have e1:P[xof f]?=none:=List.getElem?_eq_none (by unfold xof;omega)
 have e2:xof f-1000=f:=by unfold xof;omega
 simp only [e1,e2,e]
end IT
namespace IT
open PySem
noncomputable def zaj (x:List Nat):Str:=⟨x.toArray⟩
theorem zay (x:List Nat):(zaj x).length=x.length:=by simp [zaj,Str.length]
theorem zdH (h:zaj x=zaj y):x=y:=by
 have:=congrArg (λs:Str=>s.cps.toList) h
 simpa [zaj] using this
theorem zlM (x y:List Nat):zaj x++zaj y=zaj (x++y):=by
 show Str.append _ _=_;simp [zaj,Str.append]
mutual
noncomputable def KAt (h:Heap):D->Value->Prop
 | .int i,u=>∃ t,u=.int i t
 | .str x,u=>∃ t,u=.str (zaj x) t
 | .tup xs,u=>∃ a its,u=.ref a/\h.IsTuple a its/\KAts h xs its.toList
 | .non,_=>False
 | .bl _,_=>False
 | .lst _,_=>False
noncomputable def KAts (h:Heap):List D->List Value->Prop
 | [],us=>us=[]
 | x::xs,us=>∃ u r,us=u::r/\KAt h x u/\KAts h xs r
end
mutual
noncomputable def zlN (w:World):D->Int
 | .int i=>hashInt i
 | .str x=>hashStr w (zaj x)
 | .tup xs=>reduceHash (Builtin.Tuple.tupleHashOf (kHashs w xs))
 | .non=>0
 | .bl _=>0
 | .lst _=>0
noncomputable def kHashs (w:World):List D->List Int
 | []=>[]
 | x::xs=>zlN w x::kHashs w xs
end
mutual
noncomputable def zh4:D->Nat
 | .tup xs=>kDrawss xs+1
 | .int _=>1
 | .str _=>1
 | .non=>1
 | .bl _=>1
 | .lst _=>1
noncomputable def kDrawss:List D->Nat
 | []=>0
 | x::xs=>zh4 x+kDrawss xs
end
theorem zfF:∀ xs ys:List D,kDrawss (xs++ys)=kDrawss xs+kDrawss ys
 | [],ys=>by simp [kDrawss]
 | x::xs,ys=>by simp only [List.cons_append,kDrawss,zfF xs ys];omega
theorem zgd (w:World):∀ xs ys:List D,kHashs w (xs++ys)=kHashs w xs++kHashs w ys
 | [],ys=>rfl
 | x::xs,ys=>by simp only [List.cons_append,kHashs,zgd w xs ys]
mutual
theorem KAt.keep (k:∀ a its,h.IsTuple a its->h'.IsTuple a its):∀ (x:D) (u:Value),KAt h x u->KAt h' x u
 | .int _,_,q=>by simp only [KAt] at q ⊢;exact q
 | .str _,_,q=>by simp only [KAt] at q ⊢;exact q
 | .tup xs,_,q=>by
  simp only [KAt] at q ⊢;obtain ⟨a,its,e,t,r⟩:=q;exact ⟨a,its,e,k a its t,KAts.keep k xs _ r⟩
 | .non,_,q=>by simp only [KAt] at q
 | .bl _,_,q=>by simp only [KAt] at q
 | .lst _,_,q=>by simp only [KAt] at q
theorem KAts.keep (k:∀ a its,h.IsTuple a its->h'.IsTuple a its):∀ (x:List D) (u:List Value),KAts h x u->KAts h' x u
 | [],_,q=>by simp only [KAts] at q ⊢;exact q
 | x::xs,_,q=>by
  simp only [KAts] at q ⊢;obtain ⟨u,r,e,q1,q2⟩:=q;exact ⟨u,r,e,KAt.keep k x u q1,KAts.keep k xs r q2⟩
end
theorem zgf {h:Heap} (p:h.IsTuple a xs) (q:h.IsTuple a ys):xs=ys:=by
 obtain ⟨o,e,_,n,d⟩:=p;obtain ⟨o',e',_,n',d'⟩:=q
 rw [e] at e';cases e';rw [d] at d';cases d';rfl
mutual
theorem KAt.inj {h:Heap}:∀ (x y:D) (u:Value),KAt h x u->KAt h y u->x=y
 | .int a,y,u,p,q=>by
  simp only [KAt] at p;obtain ⟨t,rfl⟩:=p
  cases y<;>simp [KAt] at q
  rw [q]
 | .str a,y,u,p,q=>by
  simp only [KAt] at p;obtain ⟨t,rfl⟩:=p
  cases y<;>simp [KAt] at q
  rw [zdH q]
 | .tup a,y,u,p,q=>by
  simp only [KAt] at p;obtain ⟨c,its,rfl,t,r⟩:=p
  cases y with
  | tup b=>
   simp only [KAt] at q;obtain ⟨c',its',e,t',r'⟩:=q;cases e
   have:=zgf t t'
   subst this;rw [KAts.inj a b _ r r']
  | _=>simp [KAt] at q
 | .non,_,_,p,_=>by simp only [KAt] at p
 | .bl _,_,_,p,_=>by simp only [KAt] at p
 | .lst _,_,_,p,_=>by simp only [KAt] at p
theorem KAts.inj:∀ (x y:List D) (u:List Value),KAts h x u->KAts h y u->x=y
 | [],[],_,_,_=>rfl
 | [],_::_,_,p,q=>by
  simp only [KAts] at p q;subst p;obtain ⟨_,_,e,_⟩:=q;cases e
 | _::_,[],_,p,q=>by
  simp only [KAts] at p q;subst q;obtain ⟨_,_,e,_⟩:=p;cases e
 | x::xs,y::ys,_,p,q=>by
  simp only [KAts] at p q;obtain ⟨u,r,rfl,p1,p2⟩:=p;obtain ⟨u',r',e,q1,q2⟩:=q;cases e;rw [KAt.inj x y u p1 q1,KAts.inj xs ys r p2 q2]
end
theorem KAts.length:∀ {x:List D} {u:List Value},KAts h x u->x.length=u.length
 | [],_,q=>by simp only [KAts] at q;subst q;rfl
 | x::xs,_,q=>by
  simp only [KAts] at q;obtain ⟨u,r,rfl,_,q⟩:=q;simp only [List.length_cons,KAts.length q]
theorem KAts.at:∀ {x:List D} {u:List Value},KAts h x u->∀ (j:Nat) (d:D),x[j]?=some d->∃ v,u[j]?=some v/\KAt h d v
 | [],_,_,j,d,e=>by simp at e
 | x::xs,_,q,j,d,e=>by
  simp only [KAts] at q;obtain ⟨u,r,rfl,q1,q2⟩:=q
  cases j with
  | zero=>simp at e;subst e;exact ⟨u,rfl,q1⟩
  | succ j=>simp at e;simpa using KAts.at q2 j d e
theorem zjl:∀ {xs:List D} {x:D} {i:Nat},xs[i]?=some x->x.dep<=D.deps xs
 | [],x,i,e=>by simp at e
 | y::xs,x,i,e=>by
  cases i with
  | zero=>simp at e;subst e;simp only [D.deps];omega
  | succ i=>simp at e;have:=zjl e;simp only [D.deps];omega
noncomputable def zfq (xs ys:List D) (j:Nat):Bool:=match xs[j]?,ys[j]? with
 | some x,some y=>x.same y
 | _,_=>false
theorem zhn:∀ xs ys:List D,((List.range (min xs.length ys.length)).all (zfq xs ys)&&xs.length==ys.length)=D.sames xs ys
 | [],[]=>rfl
 | [],_::_=>by simp [D.sames]
 | _::_,[]=>by simp [D.sames]
 | x::xs,y::ys=>by
  have ih:=zhn xs ys
  have e:min (x::xs).length (y::ys).length=min xs.length ys.length+1:=by simp only [List.length_cons];omega
  rw [e,List.range_succ_eq_map,List.all_cons,List.all_map,D.sames,<-ih]
  have e2:(zfq (x::xs) (y::ys)∘Nat.succ)=zfq xs ys:=by funext j;rfl
  rw [e2];show (x.same y&&_&&_)=_;rw [Bool.and_assoc]
  congr 2
  simp
theorem zo7 {x y:D} (h:x≠y):x.same y=false:=by
 cases e:x.same y
 ·rfl
 ·exact absurd (D.same_eq x y e) h
open SeqAt in
theorem kEq {s:Shared}:∀ (n:Nat) (x y:D) (A:Around) (u v:Value),x.dep<=n->KAt s.heap x u->KAt s.heap y v->A.units+n<cLine->EqAt A s u v (x.same y)
 | n,.int a,y,A,u,v,hn,p,q,hu=>by
  simp only [KAt] at p;obtain ⟨t,rfl⟩:=p
  cases y with
  | int b=>simp only [KAt] at q;obtain ⟨t',rfl⟩:=q;exact EqAt.int_int a t b t'
  | str b=>simp only [KAt] at q;obtain ⟨t',rfl⟩:=q;exact EqAt.int_str a t _ t'
  | tup b=>simp only [KAt] at q;obtain ⟨c,its,rfl,t',_⟩:=q;exact EqAt.int_tuple a t t' (by omega)
  | _=>simp [KAt] at q
 | n, .str a,y,A,u,v,hn,p,q,hu=>by
  simp only [KAt] at p;obtain ⟨t,rfl⟩:=p
  cases y with
  | int b=>simp only [KAt] at q;obtain ⟨t',rfl⟩:=q;exact EqAt.str_int _ t b t'
  | str b=>
   simp only [KAt] at q;obtain ⟨t',rfl⟩:=q
   have z:=EqAt.str_str (A:=A) (s:=s) (zaj a) t (zaj b) t'
   have e:(zaj a==zaj b)=(D.str a).same (D.str b):=by
    show _=(a==b)
    by_cases h:a=b
    ·subst h;simp
    ·rw [beq_eq_false_iff_ne.mpr h,beq_eq_false_iff_ne.mpr λz=>h (zdH z)]
   rw [e] at z;exact z
  | tup b=>simp only [KAt] at q;obtain ⟨c,its,rfl,t',_⟩:=q;exact EqAt.str_tuple _ t t' (by omega)
  | _=>simp [KAt] at q
 | n, .tup a,y,A,u,v,hn,p,q,hu=>by
  simp only [KAt] at p;obtain ⟨c,its,rfl,t,r⟩:=p
  cases y with
  | int b=>simp only [KAt] at q;obtain ⟨t',rfl⟩:=q;exact EqAt.tuple_int b t' t (by omega)
  | str b=>simp only [KAt] at q;obtain ⟨t',rfl⟩:=q;exact EqAt.tuple_str _ t' t (by omega)
  | tup b=>
   simp only [KAt] at q;obtain ⟨c',its',rfl,t',r'⟩:=q
   by_cases hc:c=c'
   ·subst hc
    have e1:=zgf t t';subst e1;have e2:=KAts.inj a b _ r r';subst e2;exact (show D.same (.tup a) (.tup a)=true from D.same_refl _)▸EqAt.same _
   ·refine EqAt.of_refs hc ?_
    match n,hn with
    | 0,hn=>simp only [D.dep] at hn;omega
    | n + 1,hn=>
     have l1:=r.length;have l2:=r'.length
     have z:=RcAt.tuples (A:=A) (e:=zfq a b) t t' (by omega) (λj h1 h2=>by
      have j1:j<a.length:=by rw [l1];simpa using h1
      have j2:j<b.length:=by rw [l2];simpa using h2
      obtain ⟨w,e3,k3⟩:=r.at j _ (List.getElem?_eq_getElem j1);obtain ⟨w',e4,k4⟩:=r'.at j _ (List.getElem?_eq_getElem j2);have hd:=zjl (List.getElem?_eq_getElem j1)
      have ih:=kEq n (a[j]) (b[j]) A.in1 w w' (by simp only [D.dep] at hn;omega) k3 k4 (by show A.units+1+n<cLine;omega)
      have e5:zfq a b j=(a[j]).same (b[j]):=by simp [zfq,List.getElem?_eq_getElem j1,List.getElem?_eq_getElem j2]
      rw [e5]
      have e6:its[j]=w:=by
       have:=List.getElem?_eq_some_iff.mp e3
       obtain ⟨_,e⟩:=this
       simpa using e
      have e7:its'[j]=w':=by
       obtain ⟨_,e⟩:=List.getElem?_eq_some_iff.mp e4
       simpa using e
      rw [e6,e7]
      exact ih)
     have e8:((List.range (min its.size its'.size)).all (zfq a b)&&its.size==its'.size)=D.sames a b:=by
      rw [<-zhn,l1,l2];simp
     rw [e8] at z;exact z
  | _=>simp [KAt] at q
 | _,.non,_,_,_,_,_,p,_,_=>by simp only [KAt] at p
 | _,.bl _,_,_,_,_,_,p,_,_=>by simp only [KAt] at p
 | _,.lst _,_,_,_,_,_,p,_,_=>by simp only [KAt] at p
theorem zgk {s:Shared} (t:s.heap.IsTuple a its):s.TypeIs (.ref a) "tuple":=let ⟨o,e,c,_⟩:=t;⟨o,e,c⟩
section
variable {prog:Program} {w:World} {E:Value->Shared->Prop}
theorem zkf:∀ (n:Nat) (x:D) (A:Around) (s:Shared) (u:Value) (Q:Int->Shared->Prop),x.dep<=n->KAt s.heap x u->A.units+n<cLine->Q (zlN w x) { s with toks:=s.toks+zh4 x } →
  wpAny (model prog w) A (pyHash u) Q E s
 | n,.int a,A,s,u,Q,hn,p,hu,q=>by
  simp only [KAt] at p;obtain ⟨t,rfl⟩:=p;exact wpAny_pyHash_int q
 | n,.str a,A,s,u,Q,hn,p,hu,q=>by
  simp only [KAt] at p;obtain ⟨t,rfl⟩:=p;exact wpAny_pyHash_str q
 | 0,.tup a,A,s,u,Q,hn,p,hu,q=>by simp only [D.dep] at hn;omega
 | n + 1,.tup a,A,s,u,Q,hn,p,hu,q=>by
  simp only [KAt] at p;obtain ⟨c,its,rfl,t,r⟩:=p;have T:=zgk t;obtain ⟨o,ho,_,m,hd⟩:=t
  have hdep:D.deps a<=n:=by simp only [D.dep] at hn;omega
  unfold pyHash
  first | unfold pyHashByItsType | skip
  first | refine wpAny_bind (wpAny_cRoomFor_or (.inr (show A.units<cLine by omega)) ?_) | skip
  refine wpAny_bind (wpAny_specialOf T F.slot_tuple_hash.lookup ?_);show wpAny _ _ (if (some (Value.builtin "tuple.__hash__")==some Value.none)=true then _ else _) Q E _
  rw [if_neg (by rw [beq_builtin_none];exact Bool.false_ne_true)]
  refine wpAny_bind (wpAny_specialOf T F.slot_tuple_hash.lookup ?_);show wpAny _ _ (callSpecialIfBoundUnlessNone? (.ref c) "__hash__" _ >>= _) Q E _;refine wpAny_bind (wpAny_callSpecialIfBoundUnlessNone?_slot T F.slot_tuple_hash (wpAny_call_entry F.slot_tuple_hash T F.entry_tuple_hash ?_ (F.args_tuple_hash_1 _)));show wpAny _ A.in1 (Builtin.Tuple.tupleItemsOf (.ref c) >>= _) _ _ _;refine wpAny_bind (wpAny_tupleItemsOf ho hd (wpAny_bind ?_));rw [<-Array.forIn_toList];refine wpAny_forIn_list _ (λrest (b:Array Int) s1=>∃ done left,a=done++left/\KAts s.heap left rest/\b.toList=kHashs w done/\s1={ s with toks:=s.toks+kDrawss done }) _ ?_ ?_ _ _ ⟨[],a,rfl,r,rfl,rfl⟩
  ·rintro v rest b s1 ⟨done,left,rfl,hl,hb,rfl⟩
   cases left with
   | nil=>simp only [KAts] at hl;cases hl
   | cons k ks=>
    simp only [KAts] at hl;obtain ⟨v',rest',ez,k1,k2⟩:=hl;cases ez
    have hk:k.dep<=n:=by
     have:=zjl (xs:=done++k::ks) (x:=k) (i:=done.length) (by simp)
     omega
    refine wpAny_bind (zkf n k A.in1 _ v _ hk k1 (by show A.units+1+n<cLine;omega) ?_)
    have fin:∃ d2 l2,done++k::ks=d2++l2/\KAts s.heap l2 rest/\(b.push (zlN w k)).toList=kHashs w d2/\({ s with toks:=s.toks+kDrawss done+zh4 k }:Shared)={ s with toks:=s.toks+kDrawss d2 }:=
     ⟨done++[k],ks,by simp,k2,by simp [hb,zgd,kHashs],by simp [zfF,kDrawss,Nat.add_assoc]⟩
    first | exact wpAny_pure fin | exact wpAny_bind (wpAny_pure (wpAny_pure fin))
  ·rintro b s1 ⟨done,left,rfl,hl,hb,rfl⟩
   cases left with
   | cons k ks=>simp only [KAts] at hl;obtain ⟨_,_,ez,_⟩:=hl;cases ez
   | nil=>
    rw [List.append_nil] at q;show wpAny _ _ (retInt (Builtin.Tuple.tupleHashOf b.toList)) _ _ _;rw [hb];refine wpAny_ret_mkInt ?_
    have q2:Q (reduceHash (Builtin.Tuple.tupleHashOf (kHashs w done))) { s with toks:=s.toks+(kDrawss done+1) }:=by
     simp only [zlN,zh4] at q;exact q
    clear q;unfold reduceHash at q2;generalize Builtin.Tuple.tupleHashOf (kHashs w done)=z at q2 ⊢;show wpAny _ _ (if (decide (-(2:Int) ^ 63<=z)&&decide (z<2 ^ 63))=true then _ else _) Q E _
    by_cases hr:(decide (-(2:Int) ^ 63<=z)&&decide (z<2 ^ 63))=true
    ·rw [if_pos hr] at q2 ⊢
     exact wpAny_pure (by simpa [Nat.add_assoc] using q2)
    ·rw [if_neg hr] at q2 ⊢
     exact wpAny_bind (wpAny_rule (wpAny_pure (by simpa [Nat.add_assoc] using q2)))
 | _,.non,_,_,_,_,_,p,_,_=>by simp only [KAt] at p
 | _,.bl _,_,_,_,_,_,p,_,_=>by simp only [KAt] at p
 | _,.lst _,_,_,_,_,_,p,_,_=>by simp only [KAt] at p
theorem zpF:∀ (n:Nat) (x:D) (A:Around) (s:Shared) (u:Value) (Q:Bool->Shared->Prop),x.dep<=n->KAt s.heap x u->Q true s->wpAny (model prog w) A (eqIsQuiet n u) Q E s
 | n,.int a,A,s,u,Q,hn,p,q=>by
  simp only [KAt] at p;obtain ⟨t,rfl⟩:=p;rw [eqIsQuiet_byValue n rfl];exact wpAny_pure q
 | n,.str a,A,s,u,Q,hn,p,q=>by
  simp only [KAt] at p;obtain ⟨t,rfl⟩:=p;rw [eqIsQuiet_byValue n rfl];exact wpAny_pure q
 | 0,.tup a,A,s,u,Q,hn,p,q=>by simp only [D.dep] at hn;omega
 | n + 1,.tup a,A,s,u,Q,hn,p,q=>by
  simp only [KAt] at p;obtain ⟨c,its,rfl,t,r⟩:=p;have T:=zgk t;obtain ⟨o,ho,_,m,hd⟩:=t
  have hdep:D.deps a<=n:=by simp only [D.dep] at hn;omega
  unfold eqIsQuiet;refine wpAny_bind (wpAny_specialOf T F.slot_tuple_eq.lookup ?_);show wpAny _ _ (isInstance (.ref c) (.type "tuple") >>= _) _ _ _;refine wpAny_bind (wpAny_isInstance T isSubtype_tuple_tuple ?_);simp only [Bool.not_true,Bool.false_eq_true,if_false];refine wpAny_bind (wpAny_seqItems ho hd (wpAny_bind ?_));show wpAny _ _ (forIn its _ _) _ _ _;rw [<-Array.forIn_toList];refine wpAny_forIn_list _ (λrest r s1=>r.1=none/\s1=s/\∃ left,D.deps left<=n/\KAts s.heap left rest) _ ?_ ?_ _ _ ⟨rfl,rfl,a,hdep,r⟩
  ·rintro v rest r s1 ⟨hr,rfl,left,hl,hk⟩
   cases left with
   | nil=>simp only [KAts] at hk;cases hk
   | cons k ks=>
    simp only [KAts] at hk;obtain ⟨v',rest',ez,k1,k2⟩:=hk;cases ez;simp only [D.deps] at hl;refine wpAny_bind (zpF n k A _ v _ (by omega) k1 ?_);simp only [Bool.not_true,Bool.false_eq_true,if_false];exact wpAny_pure ⟨rfl,rfl,ks,by omega,k2⟩
  ·rintro ⟨r1,r2⟩ s1 ⟨hr,rfl,_⟩
   simp only at hr;subst hr;exact wpAny_pure q
 | _,.non,_,_,_,_,_,p,_=>by simp only [KAt] at p
 | _,.bl _,_,_,_,_,_,p,_=>by simp only [KAt] at p
 | _,.lst _,_,_,_,_,_,p,_=>by simp only [KAt] at p
end
noncomputable instance:DecidableEq D:=λx y=>if h:x.same y=true then isTrue (D.same_eq x y h) else isFalse λe=>h (e▸D.same_refl x)
theorem ziN (x y:D):x.same y=decide (x=y):=by
 by_cases h:x=y
 ·subst h;rw [D.same_refl,decide_eq_true rfl]
 ·rw [zo7 h,decide_eq_false h]
theorem znl (ho:h.get? d=some o) (hd:o.data=.dict es ep) (hs:Heap.SameBut d h h') (a:Addr) (its:Array Value) (t:h.IsTuple a its):h'.IsTuple a its:=by
 obtain ⟨o',e,c,n,dt⟩:=t
 have ne:a≠d:=by
  rintro rfl
  rw [ho] at e;cases e
  rw [hd] at dt;cases dt
 exact ⟨o',(hs.2 a ne).trans e,c,n,dt⟩
noncomputable def dKind (prog:Program) (w:World):HeapKind prog w D where
 is:=λh x a=>x.dep<=8/\KAt h x (.ref a)
 hash:=zlN w
 draws:=zh4
 room:=λA=>A.units+8<cLine
 inj:=λhx hy=>KAt.inj _ _ _ hx.2 hy.2
 keeps:=λx ho hd hs=>⟨x.1,KAt.keep (znl ho hd hs) _ _ x.2⟩
 pyHash:=λhu hk q=>zkf 8 _ _ _ _ _ hk.1 hk.2 hu q
 eqBool:=λhu hx hy q=>kEq 8 _ _ _ _ _ hx.1 hx.2 hy.2 hu _ _ _ _ (by rw [ziN];exact q)
 quiet:=λhk q=>zpF 8 _ _ _ _ _ hk.1 hk.2 q
end IT
namespace L2
open PySem PySem.Spec PyProof.Rows
noncomputable abbrev Key:=Sum Int Str
noncomputable def zt5:Key->Value->Bool
 | .inl k,v=>Value.isInt k v
 | .inr x,v=>Value.isStrOf x v
noncomputable def keyH (w:World):Key->Int
 | .inl k=>hashInt k
 | .inr x=>hashStr w x
theorem zaz:∀ {k:Key} {v:Value},zt5 k v=true->(∃ i t,k=Sum.inl i/\v=Value.int i t)\/(∃ x t,k=Sum.inr x/\v=Value.str x t)
 | .inl i,v,h=>by
  obtain ⟨t,e⟩:=Value.isInt_shape (k:=i) (v:=v) h;exact .inl ⟨i,t,rfl,e⟩
 | .inr x,v,h=>by
  obtain ⟨t,e⟩:=Value.isStrOf_shape (x:=x) (v:=v) h;exact .inr ⟨x,t,rfl,e⟩
theorem zsn (a b:Int):decide ((Sum.inl a:Key)=Sum.inl b)=(a==b):=by
 by_cases e:a=b
 ·subst e;simp
 ·have h:¬ (Sum.inl a:Key)=Sum.inl b:=λq=>e (Sum.inl.inj q)
  rw [decide_eq_false h];exact (beq_eq_false_iff_ne.mpr e).symm
theorem zsG (a b:Str):decide ((Sum.inr a:Key)=Sum.inr b)=decide (a=b):=by
 by_cases e:a=b
 ·subst e;simp
 ·have h:¬ (Sum.inr a:Key)=Sum.inr b:=λq=>e (Sum.inr.inj q)
  rw [decide_eq_false h,decide_eq_false e]
theorem zsx (a:Int) (b:Str):decide ((Sum.inl a:Key)=Sum.inr b)=false:=decide_eq_false (λq=>nomatch q)
theorem zue (a:Str) (b:Int):decide ((Sum.inr a:Key)=Sum.inl b)=false:=decide_eq_false (λq=>nomatch q)
noncomputable def zmt (prog:Program) (w:World):PySem.KeyKind prog w Key where
 is:=zt5
 hash:=keyH w
 inj:=λv a b ha hb=>by
  rcases zaz ha with ⟨i,t,rfl,rfl⟩ | ⟨x,t,rfl,rfl⟩
  ·rcases zaz hb with ⟨j,u,rfl,e⟩ | ⟨y,u,rfl,e⟩
   ·injection e with e1 _;rw [e1]
   ·exact nomatch e
  ·rcases zaz hb with ⟨j,u,rfl,e⟩ | ⟨y,u,rfl,e⟩
   ·exact nomatch e
   ·injection e with e1 _;rw [e1]
 byValue:=λk v h=>by
  rcases zaz h with ⟨i,t,rfl,rfl⟩ | ⟨x,t,rfl,rfl⟩<;>rfl
 pyHash:=λhv h=>by
  rcases zaz hv with ⟨i,t,rfl,rfl⟩ | ⟨x,t,rfl,rfl⟩
  ·exact wpAny_pyHash_int h
  ·exact wpAny_pyHash_str h
 eqBool:=λhu hv h=>by
  rcases zaz hu with ⟨i,t,rfl,rfl⟩ | ⟨x,t,rfl,rfl⟩
  ·rcases zaz hv with ⟨j,u,rfl,rfl⟩ | ⟨y,u,rfl,rfl⟩
   ·rw [zsn] at h;exact wpAny_eqBool_int h
   ·rw [zsx] at h;exact SeqAt.EqAt.int_str i t y u _ _ _ _ h
  ·rcases zaz hv with ⟨j,u,rfl,rfl⟩ | ⟨y,u,rfl,rfl⟩
   ·rw [zue] at h;exact SeqAt.EqAt.str_int x t j u _ _ _ _ h
   ·rw [zsG] at h;exact wpAny_eqBool_str h
 «strs»:=λk x t v h=>by
  rcases zaz h with ⟨i,u,rfl,e⟩ | ⟨y,u,rfl,e⟩
  ·exact nomatch e
  ·injection e with e1 _
   subst e1
   cases v<;>rfl
inductive V where
 | non | bl (b:Bool) | int (i:Int) | str (x:Str) | byt (b:Array UInt8) | flt (b:UInt64) | ref (a:Addr) | ty (n:String)
 deriving DecidableEq
noncomputable def RelV:V->Value->Prop
 | .non,u=>u=Value.none
 | .bl b,u=>u=Value.bool b
 | .int i,u=>∃ t,u=Value.int i t
 | .str x,u=>∃ t,u=Value.str x t
 | .byt b,u=>∃ t,u=Value.bytes b t
 | .flt b,u=>∃ t,u=Value.float b t
 | .ref a,u=>u=Value.ref a
 | .ty n,u=>u=Value.type n
noncomputable abbrev Vals:List V->List Value->Prop:=Paired RelV
theorem Vals.length {xs:List V} {us:List Value} (r:Vals xs us):xs.length=us.length:=Paired.length r
theorem Vals.get:∀ {xs:List V} {us:List Value} {i:Nat} {x:V},Vals xs us->xs[i]?=some x->∃ u,us[i]?=some u/\RelV x u
 | _,_,_,_,.nil,e=>by simp at e
 | _,_,0,_,.cons r _,e=>by simp at e;subst e;exact ⟨_,rfl,r⟩
 | _,_,i+1,x,.cons _ t,e=>by
  obtain ⟨u,h1,h2⟩:=Vals.get (i:=i) (x:=x) t (by simpa using e);exact ⟨u,by simpa using h1,h2⟩
theorem Vals.set {x:V} {u:Value} (r:RelV x u):∀ {xs:List V} {us:List Value} (i:Nat),Vals xs us->Vals (xs.set i x) (us.set i u)
 | _,_,_,.nil=>.nil
 | _,_,0,.cons _ t=>.cons r t
 | _,_,i+1,.cons q t=>.cons q (Vals.set r i t)
theorem Vals.append:∀ {xs ys:List V} {us ws:List Value},Vals xs us->Vals ys ws->Vals (xs++ys) (us++ws)
 | _,_,_,_,.nil,s=>s
 | _,_,_,_,.cons r t,s=>.cons r (Vals.append t s)
theorem Vals.take:∀ {xs:List V} {us:List Value} (n:Nat),Vals xs us->Vals (xs.take n) (us.take n)
 | _,_,0,_=>.nil
 | _,_,_+1,.nil=>.nil
 | _,_,n+1,.cons r t=>.cons r (Vals.take n t)
theorem Vals.drop:∀ {xs:List V} {us:List Value} (n:Nat),Vals xs us->Vals (xs.drop n) (us.drop n)
 | _,_,0,r=>r
 | _,_,_+1,.nil=>.nil
 | _,_,n+1,.cons _ t=>Vals.drop n t
theorem Vals.none_of:∀ {xs:List V} {us:List Value} {i:Nat},Vals xs us->xs[i]?=none->us[i]?=none:=λ{xs us i} r e=>by
 have h1:=r.length;have h2:xs.length<=i:=List.getElem?_eq_none_iff.mp e;exact List.getElem?_eq_none_iff.mpr (by omega)
noncomputable def RelO:Option V->Option Value->Prop
 | some v,some u=>RelV v u
 | none,none=>True
 | _,_=>False
noncomputable def KV {κ:Type}:List (κ×V)->List (κ×Value)->Prop:=Paired λ(p:κ×V) (q:κ×Value)=>p.1=q.1/\RelV p.2 q.2
noncomputable def kV:Key->V
 | .inl i=>.int i
 | .inr x=>.str x
inductive HO where
 | lst (xs:List V)
 | tup (xs:List V)
 | dK (kvs:List (Key×V)) | dT (kvs:List (IT.D×Addr×V))
 | set (S:Int->Bool) (n:Nat)
 | ins (C dx:Addr) (fs:List (Str×V))
 | own (x:Addr)
 | xd (fs:List (Str×V))
 | met (f x:Addr)
 | rng (lo hi:Int)
 | frz (o:Obj) (u:HO)
 | tbl (ps:Array Value)
 | ext (φ:Heap->Prop)
noncomputable abbrev Hp:=Addr->Option HO
noncomputable def upd (H:Hp) (a:Addr) (o:HO):Hp:=λb=>if b=a then some o else H b
theorem zao {H:Hp} {a:Addr} {o:HO}:upd H a o a=some o:=by unfold upd;rw [if_pos rfl]
theorem zam {H:Hp} {a b:Addr} {o:HO} (h:b≠a):upd H a o b=H b:=by unfold upd;rw [if_neg h]
theorem zar {H:Hp} {a b:Addr} {o:HO} (h:H a=some o) (h':H b=none):a≠b:=by
 intro e;subst e;rw [h] at h';cases h'
section
variable (P:Program) (w:World)
noncomputable def zdT (h:Heap) (a:Addr) (items:Array Value):Prop:=IsTup h a items/\∀ o,h.get? a=some o->o.dict=none
theorem zdT.new (h:Heap) (items:Array Value):zdT (h.push { cls:=.type "tuple",data:=.seq items }) h.objs.size items:=⟨IsTup.new h items,λo e=>by rw [Heap.get?_push_size _ rfl] at e;cases e;rfl⟩
noncomputable def zb2 (H:Hp) (h:Heap) (a:Addr):HO->Prop
 | .lst xs=>xs.length<=sizeLine/\∃ (its:List Value) (n:Nat),Vals xs its/\h.get? a=some { cls:=.type "list",data:=.seq its.toArray n }
 | .tup xs=>xs.length<=sizeLine/\∃ its:List Value,Vals xs its/\zdT h a its.toArray
 | .dK kvs=>kvs.length<=sizeLine/\(a==sysModules)=false/\∃ vs,KV kvs vs/\h.DictOf (zmt P w) a vs
 | .dT kvs=>kvs.length<=sizeLine/\(a==sysModules)=false/\∃ xs:List (IT.D×Addr×Value),Paired (λ(p:IT.D×Addr×V) (q:IT.D×Addr×Value)=>p.1=q.1/\p.2.1=q.2.1/\RelV p.2.2 q.2.2) kvs xs ∧
   ∃ o es ep,h.get? a=some o/\o.ExactDict/\o.data=.dict es ep/\es.toList=xs.map (entryOfKey (IT.dKind P w))/\(xs.map (·.1)).Nodup
 | .set S n=>h.SetOf (intKind P w) a S n
 | .ins C dx fs=>H dx=some (.own a)/\fs.length<=1000/\dx≠a/\h.get? a=some (PySem.W.instObj C dx) ∧
   ∃ mA,h.Ns1 dx mA/\(∀ f,RelO (fs.lookup f) (mA f))/\PySem.Within mA (fs.map (·.1))
 | .own _=>∃ o,h.get? a=some o
 | .xd fs=>∃ mA,h.Ns1 a mA/\∀ f,RelO (fs.lookup f) (mA f)
 | .rng lo hi=>∃ t u v,h.get? a=some { cls:=.type "range",data:=.fields #[.int lo t,.int hi u,.int 1 v] }
 | .frz o u=>h.get? a=some o/\zb2 H h a u
 | .tbl ps=>h.get? a=some { cls:=.none,data:=.fields ps }
 | .met f x=>h.get? a=some (PySem.W.methodObj (.ref f) (.ref x))
 | .ext φ=>φ h/\(∃ o,h.get? a=some o)/\∀ h1 h2:Heap,φ h1->(∀ o,h1.get? a=some o->h2.get? a=some o)->φ h2
noncomputable def HOk (H:Hp) (h:Heap):Prop:=∀ a o,H a=some o->zb2 P w H h a o
end
section
variable {P:Program} {w:World} {H H':Hp} {h h':Heap} {a:Addr} {o:HO}
theorem zb2.lt (x:zb2 P w H h a o):a<h.objs.size:=by
 cases o with
 | lst xs=>obtain ⟨_,_,_,_,e⟩:=x;exact Heap.lt_size e
 | tup xs=>obtain ⟨_,_,_,p⟩:=x;exact p.1.lt
 | dK kvs=>obtain ⟨_,_,_,_,o,_,_,e,_⟩:=x;exact Heap.lt_size e
 | dT kvs=>obtain ⟨_,_,_,_,o,_,_,e,_⟩:=x;exact Heap.lt_size e
 | set S n=>obtain ⟨o,_,_,_,e,_⟩:=x;exact Heap.lt_size e
 | ins C dx fs=>obtain ⟨_,_,_,e,_⟩:=x;exact Heap.lt_size e
 | own y=>obtain ⟨_,e⟩:=x;exact Heap.lt_size e
 | xd fs=>obtain ⟨_,⟨_,_,_,e,_⟩,_⟩:=x;exact Heap.lt_size e
 | rng lo hi=>obtain ⟨_,_,_,e⟩:=x;exact Heap.lt_size e
 | frz ob u=>obtain ⟨e,_⟩:=x;exact Heap.lt_size e
 | tbl ps=>exact Heap.lt_size (show h.get? a=some _ from x)
 | met f y=>exact Heap.lt_size (show h.get? a=some _ from x)
 | ext φ=>obtain ⟨_,⟨_,e⟩,_⟩:=x;exact Heap.lt_size e
theorem Paired.mapP {α β:Type} {F G:α->β->Prop}:∀ {l₁:List α} {l₂:List β},Paired F l₁ l₂->(∀ a b,F a b->G a b)->Paired G l₁ l₂
 | _,_,.nil,_=>.nil
 | _,_,.cons r t,f=>.cons (f _ _ r) (Paired.mapP t f)
theorem zb2.stay (x:zb2 P w H h a o) (k:∀ b u,(b=a\/H b=some (.own a))->h.get? b=some u->h'.get? b=some u)
  (ho:∀ b,H b=some (.own a)->H' b=some (.own a)) (ht:∀ b xs,H b=some (.tup xs)->H' b=some (.tup xs)):zb2 P w H' h' a o:=by
 induction o with
 | lst xs=>obtain ⟨z,its,n,r,e⟩:=x;exact ⟨z,its,n,r,k _ _ (.inl rfl) e⟩
 | tup xs=>obtain ⟨z,its,r,⟨ob,e,c⟩,dd⟩:=x;exact ⟨z,its,r,⟨ob,k _ _ (.inl rfl) e,c⟩,λo2 e2=>by rw [k _ _ (.inl rfl) e] at e2;cases e2;exact dd _ e⟩
 | dK kvs=>obtain ⟨z,y,vs,r,ob,es,ep,e,c⟩:=x;exact ⟨z,y,vs,r,ob,es,ep,k _ _ (.inl rfl) e,c⟩
 | dT kvs=>
  obtain ⟨z,y,xs,r,ob,es,ep,e,c⟩:=x;exact ⟨z,y,xs,r,ob,es,ep,k _ _ (.inl rfl) e,c⟩
 | set S n=>obtain ⟨ob,es,ep,t,e,c⟩:=x;exact ⟨ob,es,ep,t,k _ _ (.inl rfl) e,c⟩
 | ins C dx fs=>
  obtain ⟨d,z,ne,e,mA,⟨od,es,ep,e2,c⟩,r⟩:=x;exact ⟨ho _ d,z,ne,k _ _ (.inl rfl) e,mA,⟨od,es,ep,k _ _ (.inr d) e2,c⟩,r⟩
 | own y=>obtain ⟨ob,e⟩:=x;exact ⟨ob,k _ _ (.inl rfl) e⟩
 | xd fs=>obtain ⟨mA,⟨od,es,ep,e,c⟩,r⟩:=x;exact ⟨mA,⟨od,es,ep,k _ _ (.inl rfl) e,c⟩,r⟩
 | rng lo hi=>obtain ⟨t,u,v,e⟩:=x;exact ⟨t,u,v,k _ _ (.inl rfl) e⟩
 | frz ob u ih=>obtain ⟨e,q⟩:=x;exact ⟨k _ _ (.inl rfl) e,ih q⟩
 | tbl ps=>
  have e:h.get? a=some { cls:=.none,data:=.fields ps }:=x;show h'.get? a=some { cls:=.none,data:=.fields ps };exact k a _ (.inl rfl) e
 | met f y=>
  have e:h.get? a=some (PySem.W.methodObj (.ref f) (.ref y)):=x;show h'.get? a=some (PySem.W.methodObj (.ref f) (.ref y));exact k a _ (.inl rfl) e
 | ext φ=>obtain ⟨p,⟨o,e⟩,st⟩:=x;exact ⟨st _ _ p λo q=>k _ _ (.inl rfl) q,⟨o,k _ _ (.inl rfl) e⟩,st⟩
theorem HOk.lt (x:HOk P w H h) (e:H a=some o):a<h.objs.size:=(x a o e).lt
theorem HOk.fresh (x:HOk P w H h) (e:h.objs.size<=a):H a=none:=by
 cases q:H a with
 | none=>rfl
 | some u=>exact absurd (Nat.lt_of_lt_of_le (x.lt q) e) (Nat.lt_irrefl _)
theorem HOk.kept (x:HOk P w H h) (k:∀ b u,h.get? b=some u->h'.get? b=some u):HOk P w H h':=λa o e=>
 (x a o e).stay (λb u _ q=>k b u q) (λ_ q=>q) λ_ _ q=>q
theorem HOk.laid (x:HOk P w H h) (k:∀ b u,h.get? b=some u->h'.get? b=some u) (hp:h.objs.size<=a) (new:zb2 P w (upd H a o) h' a o):HOk P w (upd H a o) h':=λb u e=>by
 have hn:=x.fresh hp
 by_cases hb:b=a
 ·subst hb;rw [zao] at e;cases e;exact new
 ·rw [zam hb] at e
  exact (x b u e).stay (λc v _ q=>k c v q) (λc q=>by rw [zam (zar q hn)];exact q) λc xs q=>by rw [zam (zar q hn)];exact q
end
noncomputable def Rd (H:Hp) (a:Addr) (u:HO):Prop:=H a=some u\/∃ o,H a=some (.frz o u)
theorem Rd.of {H:Hp} {a:Addr} {u:HO} (h:H a=some u):Rd H a u:=.inl h
theorem Rd.ok {P:Program} {w:World} {H:Hp} {h:Heap} {a:Addr} {u:HO} (r:Rd H a u) (x:HOk P w H h):zb2 P w H h a u:=by
 rcases r with r | ⟨o,r⟩
 ·exact x a u r
 ·obtain ⟨_,q⟩:=x a _ r
  exact q
noncomputable def Mut:Option HO->Prop
 | some (.lst _)=>True
 | some (.dK _)=>True
 | some (.dT _)=>True
 | some (.set _ _)=>True
 | some (.ins _ _ _)=>True
 | some (.ext _)=>True
 | _=>False
section
variable {P:Program} {w:World} {H:Hp} {h h':Heap} {x e:Addr} {o':HO}
theorem HOk.write (ok:HOk P w H h) (mu:Mut (H x)) (he:e=x\/H e=some (.own x)) (k:∀ b u,b≠e->h.get? b=some u->h'.get? b=some u) (heo:∃ u,h'.get? e=some u)
  (new:zb2 P w (upd H x o') h' x o'):HOk P w (upd H x o') h':=λb u q=>by
 have nown:∀ c y,H c=some (.own y)->c≠x:=λc y r z=>by subst z;rw [r] at mu;exact mu
 have ntup:∀ c xs,H c=some (.tup xs)->c≠x:=λc xs r z=>by subst z;rw [r] at mu;exact mu
 by_cases hb:b=x
 ·subst hb;rw [zao] at q;cases q;exact new
 ·rw [zam hb] at q
  by_cases hbe:b=e
  ·have q':H b=some (.own x):=by
    rcases he with z | z
    ·exact absurd (hbe.trans z) hb
    ·rw [hbe];exact z
   rw [q] at q';cases q'
   obtain ⟨v,hv⟩:=heo
   exact ⟨v,by rw [hbe];exact hv⟩
  ·refine (ok b u q).stay (λc v hc r=>k c v ?_ r) (λc r=>by rw [zam (nown c b r)];exact r) λc xs r=>by rw [zam (ntup c xs r)];exact r
   rcases hc with rfl | hc
   ·exact hbe
   ·rintro rfl
    rcases he with z | z
    ·exact nown c b hc z
    ·rw [hc] at z;cases z;exact hb rfl
end
structure Un (fs ex:List Addr) (H H':Hp) (h h':Heap):Prop where
 keep:∀ b o,h.get? b=some o->H b=none->b ∉ fs->b ∉ ex->h'.get? b=some o
 slot:∀ b o,h.get? b=some o->H b=none->b∈fs->b ∉ ex->∃ sl,h'.get? b=some { o with slots:=sl }
 free:∀ b o,h.get? b=some o->H b=none->b ∉ ex->H' b=none
 there:∀ b o,h.get? b=some o->b ∉ ex->∃ o',h'.get? b=some o'
 tups:∀ b xs,H b=some (.tup xs)->H' b=some (.tup xs)
 frzs:∀ b o u,H b=some (.frz o u)->H' b=some (.frz o u)
 tbls:∀ b ps,H b=some (.tbl ps)->∃ more,H' b=some (.tbl (ps++more))
section
variable {fs fs' ex ex':List Addr} {H H1 H2:Hp} {h h1 h2 h':Heap} {a x e:Addr} {o:HO}
theorem Un.any (u:Un fs ex H H1 h h1) {b:Addr} {ob:Obj} (q:h.get? b=some ob) (n:H b=none) (hx:b ∉ ex):∃ sl,h1.get? b=some { ob with slots:=sl }:=by
 by_cases hb:b∈fs
 ·exact u.slot b ob q n hb hx
 ·exact ⟨ob.slots,u.keep b ob q n hb hx⟩
theorem Un.trans (a:Un fs ex H H1 h h1) (b:Un fs ex H1 H2 h1 h2):Un fs ex H H2 h h2 where
 keep:=λc ob q n hc hx=>b.keep c ob (a.keep c ob q n hc hx) (a.free c ob q n hx) hc hx
 slot:=λc ob q n hc hx=>by
  obtain ⟨sl,e1⟩:=a.slot c ob q n hc hx;obtain ⟨sl',e2⟩:=b.slot c _ e1 (a.free c ob q n hx) hc hx;exact ⟨sl',e2⟩
 free:=λc ob q n hx=>by
  obtain ⟨o',e1⟩:=a.there c ob q hx;exact b.free c o' e1 (a.free c ob q n hx) hx
 there:=λc ob q hx=>by
  obtain ⟨o',e1⟩:=a.there c ob q hx;exact b.there c o' e1 hx
 tups:=λc xs q=>b.tups c xs (a.tups c xs q)
 frzs:=λc ob xs q=>b.frzs c ob xs (a.frzs c ob xs q)
 tbls:=λc ps q=>by
  obtain ⟨m1,e1⟩:=a.tbls c ps q;obtain ⟨m2,e2⟩:=b.tbls c _ e1;exact ⟨m1++m2,by rw [e2,Array.append_assoc]⟩
theorem Un.kept (k:∀ b u,h.get? b=some u->h'.get? b=some u):Un fs ex H H h h':=
 ⟨λb ob q _ _ _=>k b ob q,λb ob q _ _ _=>⟨ob.slots,k b ob q⟩,λ_ _ _ n _=>n,λb ob q _=>⟨ob,k b ob q⟩,λ_ _ q=>q,λ_ _ _ q=>q,λ_ ps q=>⟨#[],by rw [q];simp⟩⟩
theorem Un.refl:Un fs ex H H h h:=Un.kept λ_ _ q=>q
theorem Un.laid (k:∀ b u,h.get? b=some u->h'.get? b=some u) (hp:h.objs.size<=a) (hn:H a=none):Un fs ex H (upd H a o) h h' where
 keep:=λb u q _ _ _=>k b u q
 slot:=λb u q _ _ _=>⟨u.slots,k b u q⟩
 free:=λb u q n _=>by rw [zam (Nat.ne_of_lt (Nat.lt_of_lt_of_le (Heap.lt_size q) hp))];exact n
 there:=λb u q _=>⟨u,k b u q⟩
 tups:=λb xs q=>by rw [zam (zar q hn)];exact q
 frzs:=λb u xs q=>by rw [zam (zar q hn)];exact q
 tbls:=λb ps q=>⟨#[],by rw [zam (zar q hn),q];simp⟩
theorem Un.write (mu:Mut (H x)) (he:e=x\/H e=some (.own x)) (k:∀ b u,b≠e->h.get? b=some u->h'.get? b=some u) (heo:∃ u,h'.get? e=some u):Un fs ex H (upd H x o) h h':=by
 have hx:∀ b,H b=none->b≠x:=λb n z=>by subst z;rw [n] at mu;exact mu
 have hb:∀ b,H b=none->b≠e:=λb n z=>by
  subst z
  rcases he with r | r
  ·exact hx b n r
  ·rw [n] at r;cases r
 have hm:∀ b u,H b=some u->¬ Mut (some u)->b≠x:=λb u q nm z=>by subst z;rw [q] at mu;exact nm mu
 refine ⟨λb u q n _ _=>k b u (hb b n) q,λb u q n _ _=>⟨u.slots,k b u (hb b n) q⟩,λb u q n _=>by rw [zam (hx b n)];exact n,λb u q _=>?_,
  fun b xs q=>by rw [zam (hm b _ q λz=>z)];exact q,λb u xs q=>by rw [zam (hm b _ q λz=>z)];exact q,λb ps q=>⟨#[],by rw [zam (hm b _ q λz=>z),q];simp⟩⟩
 by_cases hbe:b=e
 ·subst hbe;exact heo
 ·exact ⟨u,k b u hbe q⟩
theorem Un.mono (u:Un fs ex H H1 h h1) (hs:∀ b∈fs,b∈fs') (hx:∀ b∈ex,b∈ex'):Un fs' ex' H H1 h h1:=
 ⟨λb ob q n hb he=>u.keep b ob q n (λz=>hb (hs b z)) λz=>he (hx b z),λ_ _ q n _ he=>u.any q n λz=>he (hx _ z),λb ob q n he=>u.free b ob q n λz=>he (hx b z),λb ob q he=>u.there b ob q λz=>he (hx b z),u.tups,u.frzs,u.tbls⟩
end
noncomputable def trk (h:Heap) (H:Hp):List Addr:=(List.range h.objs.size).filter λa=>(H a).isSome
noncomputable def hidT (h:Heap) (H:Hp):Heap:=PySem.W.hideAll h (trk h H)
theorem znu (h:Heap) (H:Hp):(hidT h H).objs.size=h.objs.size:=PySem.W.hideAll_size _ _
theorem zpp {h:Heap} {H:Hp} {b:Addr} {o:Obj} (e:h.get? b=some o) (n:H b=none):(hidT h H).get? b=some o:=
 PySem.W.hideAll_get _ e λhm=>by
  have q:(H b).isSome=true:=(List.mem_filter.mp hm).2
  rw [n] at q;simp at q
theorem zr2 {h:Heap} {H:Hp} {b:Addr} {o:Obj} (e:(hidT h H).get? b=some o):h.get? b=some o/\H b=none:=by
 have e':h.get? b=some o:=PySem.W.of_hideAll (trk h H) e;refine ⟨e',?_⟩
 cases q:H b with
 | none=>rfl
 | some x=>
  have hm:b∈trk h H:=List.mem_filter.mpr ⟨List.mem_range.mpr (Heap.lt_size e'),by simp [q]⟩;have z:(hidT h H).get? b=none:=PySem.W.hideAll_none (trk h H) hm
  rw [z] at e;cases e
noncomputable def zq8 (g h:Heap) (L:Addr):List (Addr×Obj):=(List.range h.objs.size).filterMap λa=>if a=L\/(g.get? a).isSome=true then none else (h.get? a).map λo=>(a,o)
noncomputable def rest (g h:Heap) (L d:Addr):List (Addr×Obj):=(zq8 g h L).filter λp=>decide (p.1≠d)
structure Mod (K:PySem.W.Frag) (mg:Str->Option Value) (base:Heap):Prop where
 kin:K.In base
 glob:base.Ns mainGlobals mg
 blt:∃ mb,base.Ns builtinsNs mb/\∀ x:Str,x ≠ "__name__"->mb x=bootBuiltins x
 nolimit:base.NoLimit
structure Cx where
 prog:Program
 w:World
 K:PySem.W.Frag
 mg:Str->Option Value
 base:Heap
 A:Around
 N:List Str
 s₀:Shared
 H₀:Hp
 env:Env
 outer:List Env
 stack:List Env
 ex:List Addr
 fn:Str->Bool
 calm:Bool
 pn:List (Addr×Obj)
 xe:Value->Shared->Prop
noncomputable def frs (l:List Env):List Addr:=l.filterMap (·.frame)
noncomputable abbrev Cx.fs (X:Cx):List Addr:=frs X.outer
noncomputable def Vis (sc:Scope) (x:Str):Prop:=sc.names.lookup x=some .local\/sc.names.lookup x=some .cell\/sc.names.lookup x=some .free
noncomputable def Loc (sc:Scope) (x:Str):Prop:=sc.names.lookup x=some .local\/sc.names.lookup x=some .cell
noncomputable def Look (env:Env) (h:Heap) (m:Str->Option Value) (x:Str) (u:Value):Prop:=
 (env.kindOf x=some .local/\m x=some u)\/((env.kindOf x=some .cell\/env.kindOf x=some .free)/\∃ c,env.cells.lookup x=some c/\h.IsCell c (some u))
structure Cx.Ok (X:Cx):Prop where
 mod:Mod X.K X.mg X.base
 kind:X.env.scope.kind=.function
 glob:X.env.globals=mainGlobals
 blt:X.env.builtins=builtinsNs
 above:X.s₀.heap.objs.size<=X.env.locals
 inj:∀ x y c,X.env.cells.lookup x=some c->X.env.cells.lookup y=some c->x=y
 has:∀ x,(X.env.kindOf x=some .cell\/X.env.kindOf x=some .free)->∃ c,X.env.cells.lookup x=some c
 cab:∀ x c,X.fn x=true->X.env.cells.lookup x=some c->X.s₀.heap.objs.size<=c
 hd:X.calm=true->X.A.handled=none
 frames:X.A.frames=some X.stack
 stk:X.stack=X.outer\/(X.stack=X.env::X.outer/\X.env.frame=some X.env.locals)
 exf:∀ b∈X.ex,b≠X.env.locals/\∀ x c,X.env.cells.lookup x=some c->c≠b
 bs:∀ b o,X.base.get? b=some o->X.s₀.heap.get? b=some o/\X.H₀ b=none
 bsz:X.base.objs.size<=X.s₀.heap.objs.size
 noex:∀ b o,X.base.get? b=some o->b ∉ X.ex
 exfs:∀ b∈X.ex,b ∉ X.fs
 funs:X.s₀.heap.FunFrames X.base X.outer
 frf:∀ b∈X.fs,X.H₀ b=none
structure Inv (X:Cx) (pins:List (Addr×Obj)) (σ:List (Option V)) (H:Hp) (s:Shared):Prop where
 ok:X.Ok
 os:s.os=X.s₀.os
 bare:AllBare s.gens
 base:Un X.fs X.ex X.H₀ H X.s₀.heap s.heap
 loc:∃ m,s.heap.Ns X.env.locals m/\∀ (i:Nat) (x:Str) (v:V),X.N[i]?=some x->σ[i]?=some (some v)->Vis X.env.scope x->∃ u,RelV v u/\Look X.env s.heap m x u
 cell:∀ x c,X.env.cells.lookup x=some c->∃ v,s.heap.IsCell c v
 free:H X.env.locals=none
 freeC:∀ x c,X.env.cells.lookup x=some c->H c=none
 pin:∀ p∈X.pn++pins,s.heap.get? p.1=some p.2/\H p.1=none/\p.1≠X.env.locals/\p.1 ∉ X.fs/\∀ v,p.2.data≠.cell v
 hok:HOk X.prog X.w H s.heap
 len:σ.length=X.N.length
section
variable {X:Cx} {pins:List (Addr×Obj)} {σ:List (Option V)} {H H':Hp} {s:Shared} {h':Heap}
theorem Cx.Ok.nofr (ok:X.Ok) {b:Addr} {o:Obj} (e:X.base.get? b=some o):b ∉ X.fs:=λhb=>by
 have:=(ok.funs.mem hb).1
 rw [e] at this;cases this
theorem Inv.bs (I:Inv X pins σ H s):∀ b o,X.base.get? b=some o->s.heap.get? b=some o/\H b=none:=λb o e=>
 ⟨I.base.keep b o (I.ok.bs b o e).1 (I.ok.bs b o e).2 (I.ok.nofr e) (I.ok.noex b o e),I.base.free b o (I.ok.bs b o e).1 (I.ok.bs b o e).2 (I.ok.noex b o e)⟩
theorem Inv.bk (I:Inv X pins σ H s):∀ b o,X.base.get? b=some o->s.heap.get? b=some o:=λb o e=>(I.bs b o e).1
theorem Inv.mod (I:Inv X pins σ H s):Mod X.K X.mg X.base:=I.ok.mod
theorem Inv.kIn (I:Inv X pins σ H s):X.K.In s.heap:=I.ok.mod.kin.keeps I.bk
theorem Inv.nolimit (I:Inv X pins σ H s):s.heap.NoLimit:=I.ok.mod.nolimit.keeps I.bk
theorem Inv.fr (I:Inv X pins σ H s):∃ m,Fr X.base X.env.locals s.heap m:=
 let ⟨m,hn,_⟩:=I.loc
 ⟨m,hn,I.bk,Nat.le_trans I.ok.bsz I.ok.above⟩
theorem Inv.lt (I:Inv X pins σ H s):X.env.locals<s.heap.objs.size:=let ⟨_,hn,_⟩:=I.loc;hn.lt
theorem Inv.sz (I:Inv X pins σ H s):X.s₀.heap.objs.size<=s.heap.objs.size:=Nat.le_trans I.ok.above (Nat.le_of_lt I.lt)
theorem Inv.nofs (I:Inv X pins σ H s) {a:Addr} (h:s.heap.objs.size<=a):a ∉ X.fs:=λhb=>by
 obtain ⟨_,o,ho,_⟩:=I.ok.funs.mem hb;exact absurd (Nat.lt_of_lt_of_le (Heap.lt_size ho) (Nat.le_trans I.sz h)) (Nat.lt_irrefl _)
theorem Inv.cne (I:Inv X pins σ H s):∀ x c,X.env.cells.lookup x=some c->c≠X.env.locals:=λx c e z=>by
 obtain ⟨v,o,ho,hd⟩:=I.cell x c e;obtain ⟨m,⟨o',es,ep,ho',hd',_⟩,_⟩:=I.loc
 rw [z,ho'] at ho;cases ho;rw [hd'] at hd;cases hd
theorem Inv.funs (I:Inv X pins σ H s):s.heap.FunFrames X.base X.outer:=by
 have all:∀ (l:List Env),(∀ b∈frs l,b∈X.fs)->X.s₀.heap.FunFrames X.base l->s.heap.FunFrames X.base l:=by
  intro l
  induction l with
  | nil=>intro _ _;trivial
  | cons env r ih=>
   intro hs hl;obtain ⟨hk,⟨L,o,hf,hn,ho,hd⟩,hr⟩:=hl
   have hL:L∈X.fs:=hs L (by unfold frs;rw [List.filterMap_cons,hf];exact List.mem_cons_self)
   obtain ⟨sl,e⟩:=I.base.slot L o ho (I.ok.frf L hL) hL λz=>I.ok.exfs L z hL
   exact ⟨hk,⟨L,_,hf,hn,e,hd⟩,ih (λb hb=>hs b (by unfold frs;rw [List.filterMap_cons,hf];exact List.mem_cons_of_mem _ hb)) hr⟩
 exact all X.outer (λ_ hb=>hb) I.ok.funs
theorem Inv.stack (I:Inv X pins σ H s):s.heap.FunFrames X.base X.stack:=by
 rcases I.ok.stk with e | ⟨e,hf⟩
 ·rw [e];exact I.funs
 ·rw [e]
  obtain ⟨m,hn,_⟩:=I.loc
  refine .cons (by rw [I.ok.kind];decide) hf hn ?_ I.funs
  exact Heap.get?_none_of_le (Nat.le_trans I.ok.bsz I.ok.above)
theorem Inv.stkSub (I:Inv X pins σ H s):∀ b∈frs X.stack,b∈X.env.locals::X.fs:=λb hb=>by
 rcases I.ok.stk with e | ⟨e,hf⟩
 ·rw [e] at hb;exact List.mem_cons_of_mem _ hb
 ·rw [e] at hb
  unfold frs at hb;rw [List.filterMap_cons,hf] at hb;exact hb
theorem Inv.stkFree (I:Inv X pins σ H s):∀ b∈frs X.stack,H b=none:=λb hb=>by
 rcases List.mem_cons.mp (I.stkSub b hb) with e | hb
 ·rw [e];exact I.free
 ·obtain ⟨_,o,ho,_⟩:=I.ok.funs.mem hb
  exact I.base.free b o ho (I.ok.frf b hb) λz=>I.ok.exfs b z hb
theorem Inv.step {g':Array GenState} {t':Nat} {d':Drawn} {ch:List Addr} (I:Inv X pins σ H s)
  (hch:∀ b∈ch,(b∈X.ex\/X.s₀.heap.objs.size<=b)/\b≠X.env.locals/\(∀ x c,X.env.cells.lookup x=some c->c≠b)/\∀ p∈X.pn++pins,p.1≠b)
  (keep:∀ b o,b≠X.env.locals->b ∉ X.fs->b ∉ ch->s.heap.get? b=some o->H b=none->h'.get? b=some o)
  (slot:∀ b o,b≠X.env.locals->b∈X.fs->b ∉ ch->s.heap.get? b=some o->H b=none->∃ sl,h'.get? b=some { o with slots:=sl }) (free:∀ b o,b ∉ ch->s.heap.get? b=some o->H b=none->H' b=none)
  (there:∀ b o,b ∉ ch->s.heap.get? b=some o->∃ o',h'.get? b=some o')
  (tups:∀ b xs,H b=some (.tup xs)->H' b=some (.tup xs)) (frzs:∀ b o u,H b=some (.frz o u)->H' b=some (.frz o u)) (tbls:∀ b ps,H b=some (.tbl ps)->∃ more,H' b=some (.tbl (ps++more)))
  (ns:∀ m,s.heap.Ns X.env.locals m->h'.Ns X.env.locals m) (hok:HOk X.prog X.w H' h') (hg:AllBare g') :
  Inv X pins σ H' { s with heap:=h',gens:=g',drawn:=d',toks:=t' }:=by
 have neL:∀ b o,X.s₀.heap.get? b=some o->b≠X.env.locals:=λb o e=>Nat.ne_of_lt (Nat.lt_of_lt_of_le (Heap.lt_size e) I.ok.above)
 have neC:∀ b o,X.s₀.heap.get? b=some o->b ∉ X.ex->b ∉ ch:=λb o e hx hb=>by
  rcases (hch b hb).1 with z | z
  ·exact hx z
  ·exact absurd (Nat.lt_of_lt_of_le (Heap.lt_size e) z) (Nat.lt_irrefl _)
 have cellK:∀ x c,X.env.cells.lookup x=some c->∀ v,s.heap.IsCell c v->h'.IsCell c v:=λx c e v ⟨o,ho,hd⟩=>by
  have nch:c ∉ ch:=λz=>(hch c z).2.2.1 x c e rfl
  by_cases hc:c∈X.fs
  ·obtain ⟨sl,q⟩:=slot c o (I.cne x c e) hc nch ho (I.freeC x c e)
   exact ⟨_,q,hd⟩
  ·exact ⟨o,keep c o (I.cne x c e) hc nch ho (I.freeC x c e),hd⟩
 refine ⟨I.ok,I.os,hg,⟨λb o e n hb hx=>?_,λb o e n hb hx=>?_,λb o e n hx=>?_,λb o e hx=>?_,λb xs e=>tups b xs (I.base.tups b xs e),λb o xs e=>frzs b o xs (I.base.frzs b o xs e),λb ps e=>?_⟩,?_,λx c e=>?_,?_,λx c e=>?_,λp hp=>?_,hok,I.len⟩
 ·exact keep b o (neL b o e) hb (neC b o e hx) (I.base.keep b o e n hb hx) (I.base.free b o e n hx)
 ·obtain ⟨sl,e1⟩:=I.base.slot b o e n hb hx
  obtain ⟨sl',e2⟩:=slot b _ (neL b o e) hb (neC b o e hx) e1 (I.base.free b o e n hx);exact ⟨sl',e2⟩
 ·obtain ⟨o',e1⟩:=I.base.there b o e hx
  exact free b o' (neC b o e hx) e1 (I.base.free b o e n hx)
 ·obtain ⟨o',e1⟩:=I.base.there b o e hx
  exact there b o' (neC b o e hx) e1
 ·obtain ⟨m1,e1⟩:=I.base.tbls b ps e
  obtain ⟨m2,e2⟩:=tbls b _ e1;exact ⟨m1++m2,by rw [e2,Array.append_assoc]⟩
 ·obtain ⟨m,hn,hl⟩:=I.loc
  refine ⟨m,ns m hn,λi x v e1 e2 e3=>?_⟩;obtain ⟨u,r,l⟩:=hl i x v e1 e2 e3;refine ⟨u,r,?_⟩
  rcases l with l | ⟨k,c,e,z⟩
  ·exact .inl l
  ·exact .inr ⟨k,c,e,cellK x c e _ z⟩
 ·obtain ⟨v,z⟩:=I.cell x c e
  exact ⟨v,cellK x c e v z⟩
 ·obtain ⟨m,⟨o,_,_,ho,_⟩,_⟩:=I.loc
  exact free _ o (λz=>(hch _ z).2.1 rfl) ho I.free
 ·obtain ⟨v,o,ho,hd⟩:=I.cell x c e
  exact free c o (λz=>(hch c z).2.2.1 x c e rfl) ho (I.freeC x c e)
 ·obtain ⟨e,n,ne,nf,d⟩:=I.pin p hp
  have nch:p.1 ∉ ch:=λz=>(hch p.1 z).2.2.2 p hp rfl;exact ⟨keep p.1 p.2 ne nf nch e n,free p.1 p.2 nch e n,ne,nf,d⟩
theorem Inv.un {t':Nat} (I:Inv X pins σ H s) (u:Un X.fs [] H H' s.heap h') (hok:HOk X.prog X.w H' h'):Inv X pins σ H' { s with heap:=h',toks:=t' }:=by
 obtain ⟨m,⟨o,es,ep,ho,r⟩,_⟩:=id I.loc;obtain ⟨sl,hL⟩:=u.any ho I.free (by simp)
 exact I.step (g':=s.gens) (d':=s.drawn) (ch:=[]) (λ_ z=>nomatch z) (λb o _ hb _ e n=>u.keep b o e n hb (by simp)) (λb o _ hb _ e n=>u.slot b o e n hb (by simp)) (λb o _ e n=>u.free b o e n (by simp)) (λb o _ e=>u.there b o e (by simp)) u.tups u.frzs u.tbls (λm' hm=>by
  obtain ⟨o',es',ep',ho',r'⟩:=hm
  rw [ho] at ho';cases ho'
  exact ⟨_,es',ep',hL,r'⟩) hok I.bare
theorem Inv.call {g':Array GenState} {t':Nat} {d':Drawn} {ch:List Addr} (I:Inv X pins σ H s) (u:Un (frs X.stack) ch H H' s.heap h') (hok:HOk X.prog X.w H' h') (hg:AllBare g')
  (hch:∀ b∈ch,(b∈X.ex\/X.s₀.heap.objs.size<=b)/\b≠X.env.locals/\(∀ x c,X.env.cells.lookup x=some c->c≠b)/\∀ p∈X.pn++pins,p.1≠b) :
  Inv X pins σ H' { s with heap:=h',gens:=g',drawn:=d',toks:=t' }:=by
 obtain ⟨m,⟨o,es,ep,ho,r⟩,_⟩:=id I.loc;obtain ⟨sl,hL⟩:=u.any ho I.free λz=>(hch _ z).2.1 rfl
 exact I.step (ch:=ch) hch (λb o hL hb hc e n=>u.keep b o e n (λz=>(List.mem_cons.mp (I.stkSub b z)).elim hL hb) hc) (λb o _ _ hc e n=>u.any e n hc) (λb o hc e n=>u.free b o e n hc) (λb o hc e=>u.there b o e hc) u.tups u.frzs u.tbls (λm' hm=>by
  obtain ⟨o',es',ep',ho',r'⟩:=hm
  rw [ho] at ho';cases ho'
  exact ⟨_,es',ep',hL,r'⟩) hok hg
theorem Inv.turned {t':Nat} {it:Addr} (I:Inv X pins σ H s) (k:∀ b o,b≠it->s.heap.get? b=some o->h'.get? b=some o) (hn:H it=none) (hL:it≠X.env.locals)
  (h1:it∈X.ex\/X.s₀.heap.objs.size<=it) (h2:∀ x c,X.env.cells.lookup x=some c->c≠it) (h3:∀ p∈X.pn++pins,p.1≠it):Inv X pins σ H { s with heap:=h',toks:=t' }:=by
 have nit:∀ b u,H b=some u->b≠it:=λb u e z=>by rw [z,hn] at e;cases e
 refine I.step (g':=s.gens) (d':=s.drawn) (ch:=[it]) (λb hb=>?_) (λb o _ _ hc e _=>k b o (λz=>hc (by simp [z])) e) (λb o _ _ hc e _=>⟨o.slots,k b o (λz=>hc (by simp [z])) e⟩) (λ_ _ _ _ n=>n)
  (λb o hc e=>⟨o,k b o (λz=>hc (by simp [z])) e⟩) (λ_ _ e=>e) (λ_ _ _ e=>e) (λb ps e=>⟨#[],by rw [e];simp⟩) (λm hm=>?_) (λb u e=>?_) I.bare
 ·have e:b=it:=by simpa using hb
  subst e;exact ⟨h1,hL,h2,h3⟩
 ·obtain ⟨o,es,ep,ho,r⟩:=hm
  exact ⟨o,es,ep,k _ o (Ne.symm hL) ho,r⟩
 ·refine (I.hok b u e).stay (λc v hc q=>k c v ?_ q) (λ_ q=>q) λ_ _ q=>q
  rcases hc with z | z
  ·rw [z];exact nit b u e
  ·exact nit c _ z
theorem Inv.tok (I:Inv X pins σ H s) (t:Nat):Inv X pins σ H { s with toks:=t }:=I.un (h':=s.heap) (t':=t) Un.refl I.hok
theorem Inv.kept {t':Nat} (I:Inv X pins σ H s) (k:∀ b u,s.heap.get? b=some u->h'.get? b=some u):Inv X pins σ H { s with heap:=h',toks:=t' }:=I.un (Un.kept k) (I.hok.kept k)
theorem Inv.laid {a:Addr} {o:HO} {t':Nat} (I:Inv X pins σ H s) (k:∀ b u,s.heap.get? b=some u->h'.get? b=some u) (hp:s.heap.objs.size<=a) (new:zb2 X.prog X.w (upd H a o) h' a o) :
  Inv X pins σ (upd H a o) { s with heap:=h',toks:=t' }:=I.un (Un.laid k hp (I.hok.fresh hp)) (I.hok.laid k hp new)
theorem Inv.write {x e:Addr} {o:HO} {t':Nat} (I:Inv X pins σ H s) (mu:Mut (H x)) (he:e=x\/H e=some (.own x)) (k:∀ b u,b≠e->s.heap.get? b=some u->h'.get? b=some u) (heo:∃ u,h'.get? e=some u)
  (new:zb2 X.prog X.w (upd H x o) h' x o):Inv X pins σ (upd H x o) { s with heap:=h',toks:=t' }:=I.un (Un.write mu he k heo) (I.hok.write mu he k heo new)
theorem Inv.pins_of {pins':List (Addr×Obj)} (I:Inv X pins σ H s) (h:∀ p∈pins',s.heap.get? p.1=some p.2/\H p.1=none/\p.1≠X.env.locals/\p.1 ∉ X.fs/\∀ v,p.2.data≠.cell v):Inv X pins' σ H s:=
 ⟨I.ok,I.os,I.bare,I.base,I.loc,I.cell,I.free,I.freeC,λp hp=>(List.mem_append.mp hp).elim (λz=>I.pin p (List.mem_append_left _ z)) (h p),I.hok,I.len⟩
theorem zjC {N:List Str} (hN:N.Nodup) {i j:Nat} {x:Str} (a:N[i]?=some x) (b:N[j]?=some x):i=j:=by
 obtain ⟨h1,e1⟩:=List.getElem?_eq_some_iff.mp a;obtain ⟨h2,e2⟩:=List.getElem?_eq_some_iff.mp b;exact (List.getElem_inj hN).mp (e1.trans e2.symm)
theorem zll {M:Model} {A:Around} {E:Value->Shared->Prop} {i:Nat} {x:Str} {v:V} {u:Value} {Q:Unit->Shared->Prop} (I:Inv X pins σ H s) (hN:X.N.Nodup) (hi:X.N[i]?=some x) (hx:Loc X.env.scope x) (r:RelV v u)
    (h:∀ s',Inv X pins (σ.set i (some v)) H s'->(∃ a,Heap.SameBut a s.heap s'.heap/\(a=X.env.locals\/X.env.cells.lookup x=some a))->Q () s') (hf:X.fn x=true\/X.env.scope.names.lookup x=some .local:=by first | exact .inl rfl | exact .inr rfl | assumption):wpAny M A (storeName X.env x u) Q E s:=by
  obtain ⟨m,hn,hl⟩:=id I.loc
  have hcls:(X.env.scope.kind==.class||(X.env.scope.kind==.module&&X.env.locals != X.env.globals))=false:=by rw [I.ok.kind];rfl
  have hiσ:i<σ.length:=by rw [I.len];exact (List.getElem?_eq_some_iff.mp hi).1
  have cne:=I.cne
  have tracked:∀ {a:Addr} {h':Heap},(∃ o,s.heap.get? a=some o/\H a=none)->Heap.SameBut a s.heap h'->HOk X.prog X.w H h':=λ{a h'} ha hs b ob e=>by
    obtain ⟨_,_,hfree⟩:=ha;refine (I.hok b ob e).stay (λc w' hc q=>(hs.2 c ?_).trans q) (λ_ q=>q) λ_ _ q=>q
    rintro rfl
    rcases hc with rfl | hc
    · rw [hfree] at e;cases e
    · rw [hfree] at hc;cases hc
  rcases hx with hk | hk
  · refine wpAny_storeName_local hk hn (λh' hn' hs=>?_) hcls
    obtain ⟨oL,_,_,hoL,_⟩:=id hn;refine h _ ⟨I.ok,I.os,I.bare,⟨λb o e n hb hx=>?_,λb o e n hb hx=>?_,I.base.free,λb o e hx=>?_,I.base.tups,I.base.frzs,I.base.tbls⟩,⟨_,hn',λj y v' e1 e2 e3=>?_⟩,λy c e=>?_,I.free,I.freeC,λp hp=>?_,tracked ⟨oL,hoL,I.free⟩ hs,by simpa using I.len⟩ ⟨_,hs,.inl rfl⟩
    · exact (hs.2 b (Nat.ne_of_lt (Nat.lt_of_lt_of_le (Heap.lt_size e) I.ok.above))).trans (I.base.keep b o e n hb hx)
    · obtain ⟨sl,e1⟩:=I.base.slot b o e n hb hx
      exact ⟨sl,(hs.2 b (Nat.ne_of_lt (Nat.lt_of_lt_of_le (Heap.lt_size e) I.ok.above))).trans e1⟩
    · obtain ⟨o',e1⟩:=I.base.there b o e hx
      exact ⟨o',(hs.2 b (Nat.ne_of_lt (Nat.lt_of_lt_of_le (Heap.lt_size e) I.ok.above))).trans e1⟩
    · by_cases hj:j=i
      · subst hj
        rw [hi] at e1;cases e1
        rw [List.getElem?_set_self hiσ] at e2;cases e2;exact ⟨u,r,.inl ⟨hk,by simp⟩⟩
      · rw [List.getElem?_set_ne (Ne.symm hj)] at e2
        obtain ⟨u',r',q⟩:=hl j y v' e1 e2 e3;refine ⟨u',r',?_⟩
        rcases q with ⟨k,e⟩ | ⟨k,c,e,z⟩
        · refine .inl ⟨k,?_⟩
          have:y≠x:=λe=>hj (zjC hN e1 (e▸hi))
          simp [this,e]
        · exact .inr ⟨k,c,e,z.sameBut hs (cne y c e)⟩
    · obtain ⟨w',z⟩:=I.cell y c e
      exact ⟨w',z.sameBut hs (cne y c e)⟩
    · obtain ⟨e,n,ne,nf,d⟩:=I.pin p hp
      exact ⟨(hs.2 p.1 ne).trans e,n,ne,nf,d⟩
  · have hfn:X.fn x=true:=by
      rcases hf with z | z
      · exact z
      · rw [z] at hk;cases hk
    obtain ⟨c,hc⟩:=I.ok.has x (.inl hk);obtain ⟨w',z⟩:=I.cell x c hc;refine wpAny_storeName_cell I.ok.kind hk hc z (λh' hc' hs=>?_);obtain ⟨oc,hoc,hocd⟩:=id z;refine h { s with heap:=h' } ⟨I.ok,I.os,I.bare,⟨λb o e n hb hx=>?_,λb o e n hb hx=>?_,I.base.free,λb o e hx=>?_,I.base.tups,I.base.frzs,I.base.tbls⟩,⟨m,hn.sameBut hs (Ne.symm (cne x c hc)),λj y v' e1 e2 e3=>?_⟩,λy c' e=>?_,I.free,I.freeC,λp hp=>?_,tracked ⟨oc,hoc,I.freeC x c hc⟩ hs,by simpa using I.len⟩ ⟨c,hs,.inr hc⟩
    · exact (hs.2 b (Nat.ne_of_lt (Nat.lt_of_lt_of_le (Heap.lt_size e) (I.ok.cab x c hfn hc)))).trans (I.base.keep b o e n hb hx)
    · obtain ⟨sl,e1⟩:=I.base.slot b o e n hb hx
      exact ⟨sl,(hs.2 b (Nat.ne_of_lt (Nat.lt_of_lt_of_le (Heap.lt_size e) (I.ok.cab x c hfn hc)))).trans e1⟩
    · obtain ⟨o',e1⟩:=I.base.there b o e hx
      exact ⟨o',(hs.2 b (Nat.ne_of_lt (Nat.lt_of_lt_of_le (Heap.lt_size e) (I.ok.cab x c hfn hc)))).trans e1⟩
    · by_cases hj:j=i
      · subst hj
        rw [hi] at e1;cases e1
        rw [List.getElem?_set_self hiσ] at e2;cases e2;exact ⟨u,r,.inr ⟨.inl hk,c,hc,hc'⟩⟩
      · rw [List.getElem?_set_ne (Ne.symm hj)] at e2
        obtain ⟨u',r',q⟩:=hl j y v' e1 e2 e3;refine ⟨u',r',?_⟩
        rcases q with q | ⟨k,c',e,z'⟩
        · exact .inl q
        · refine .inr ⟨k,c',e,z'.sameBut hs ?_⟩
          rintro rfl
          exact hj (zjC hN e1 (I.ok.inj _ _ _ e hc▸hi))
    · by_cases hcc:c'=c
      · subst hcc;exact ⟨_,hc'⟩
      · obtain ⟨w2,z2⟩:=I.cell y c' e
        exact ⟨w2,z2.sameBut hs hcc⟩
    · obtain ⟨e,n,ne,nf,d⟩:=I.pin p hp
      refine ⟨(hs.2 p.1 ?_).trans e,n,ne,nf,d⟩;intro q;rw [q,hoc] at e;have q':oc=p.2:=Option.some.inj e
      exact d w' (by rw [<-q'];exact hocd)
theorem zki {M:Model} {A:Around} {E:Value->Shared->Prop} {i:Nat} {x:Str} {v:V} {u:Value} {Q:Unit->Shared->Prop} (I:Inv X pins σ H s) (hN:X.N.Nodup) (hi:X.N[i]?=some x) (hx:Loc X.env.scope x) (r:RelV v u)
  (h:∀ s',Inv X pins (σ.set i (some v)) H s'->Q () s') (hf:X.fn x=true\/X.env.scope.names.lookup x=some .local:=by first | exact .inl rfl | exact .inr rfl | assumption):wpAny M A (storeName X.env x u) Q E s:=
 zll I hN hi hx r (λs' I' _=>h s' I') hf
theorem Inv.call' {s':Shared} {ch:List Addr} (I:Inv X pins σ H s) (ho:s'.os=s.os) (u:Un (frs X.stack) ch H H' s.heap s'.heap) (hok:HOk X.prog X.w H' s'.heap) (hg:AllBare s'.gens)
  (hch:∀ b∈ch,(b∈X.ex\/X.s₀.heap.objs.size<=b)/\b≠X.env.locals/\(∀ x c,X.env.cells.lookup x=some c->c≠b)/\∀ p∈X.pn++pins,p.1≠b):Inv X pins σ H' s':=by
 obtain ⟨h',g',d',t',o'⟩:=s';have e:o'=s.os:=ho;subst e;exact I.call (g':=g') (t':=t') (d':=d') u hok hg hch
end
noncomputable abbrev XK:=Value->Option Addr->Hp->Prop
noncomputable abbrev St:=List (Option V)
noncomputable abbrev VK:=V->Hp->Prop
noncomputable abbrev TE:=St->Hp->VK->Prop
noncomputable abbrev TT:=St->Hp->(Bool->Hp->Prop)->Prop
noncomputable abbrev TA:=St->Hp->(List V->Hp->Prop)->Prop
structure Ends where
 nx:St->Hp->Prop
 rt:VK
 bk:St->Hp->Prop:=λ_ _=>False
 ct:St->Hp->Prop:=λ_ _=>False
noncomputable abbrev TS:=Ends->St->Hp->Prop
inductive EP (X:Cx) (pins:List (Addr×Obj)) (σ:St) (Q:VK) (u:Value) (s':Shared):Prop where
 | mk (v:V) (H':Hp) (I:Inv X pins σ H' s') (r:RelV v u) (q:Q v H')
inductive TP (X:Cx) (pins:List (Addr×Obj)) (σ:St) (Q:Bool->Hp->Prop) (b:Bool) (s':Shared):Prop where
 | mk (H':Hp) (I:Inv X pins σ H' s') (q:Q b H')
inductive AP (X:Cx) (pins:List (Addr×Obj)) (σ:St) (Q:List V->Hp->Prop) (us:List Value) (s':Shared):Prop where
 | mk (vs:List V) (H':Hp) (I:Inv X pins σ H' s') (r:Vals vs us) (q:Q vs H')
noncomputable def SP (X:Cx) (pins:List (Addr×Obj)) (D:Ends) (f:Flow) (s':Shared):Prop:=
 match f with
 | .next=>∃ σ' H',Inv X pins σ' H' s'/\D.nx σ' H'
 | .brk=>∃ σ' H',Inv X pins σ' H' s'/\D.bk σ' H'
 | .cont=>∃ σ' H',Inv X pins σ' H' s'/\D.ct σ' H'
 | .ret u=>∃ v σ' H',Inv X pins σ' H' s'/\RelV v u/\D.rt v H'
noncomputable def PE (X:Cx) (e:Expr) (t:TE):Prop:=
 ∀ (pins:List (Addr×Obj)) (s:Shared) (σ:St) (H:Hp) (Q:VK),Inv X pins σ H s->t σ H Q->wpAny (model X.prog X.w) X.A (eval e X.env) (EP X pins σ Q) X.xe s
noncomputable def PT (X:Cx) (e:Expr) (t:TT):Prop:=
 ∀ (pins:List (Addr×Obj)) (s:Shared) (σ:St) (H:Hp) (Q:Bool->Hp->Prop),Inv X pins σ H s->t σ H Q->wpAny (model X.prog X.w) X.A (isTrue e X.env (eval e X.env)) (TP X pins σ Q) X.xe s
noncomputable def PW (X:Cx) (e:Expr) (t:TT):Prop:=
 ∀ (whole:Sem Value) (pins:List (Addr×Obj)) (s:Shared) (σ:St) (H:Hp) (Q:Bool->Hp->Prop),Inv X pins σ H s->t σ H Q->wpAny (model X.prog X.w) X.A (isTrue e X.env whole) (TP X pins σ Q) X.xe s
theorem PW.pt {X:Cx} {e:Expr} {t:TT} (h:PW X e t):PT X e t:=h _
noncomputable def PA (X:Cx) (es:List Expr) (t:TA):Prop:=
 ∀ (pos:Pos) (pins:List (Addr×Obj)) (s:Shared) (σ:St) (H:Hp) (Q:List V->Hp->Prop),Inv X pins σ H s->t σ H Q->wpAny (model X.prog X.w) X.A (spliced (backTo pos (starEach es X.env))) (AP X pins σ Q) X.xe s
noncomputable def PS (X:Cx) (st:Stmt) (t:TS):Prop:=
 ∀ (pins:List (Addr×Obj)) (s:Shared) (σ:St) (H:Hp) (D:Ends),Inv X pins σ H s->t D σ H->wpAny (model X.prog X.w) X.A (exec st X.env) (SP X pins D) X.xe s
noncomputable def PSs (X:Cx) (st:List Stmt) (t:TS):Prop:=
 ∀ (pins:List (Addr×Obj)) (s:Shared) (σ:St) (H:Hp) (D:Ends),Inv X pins σ H s->t D σ H->wpAny (model X.prog X.w) X.A (execs st X.env) (SP X pins D) X.xe s
theorem thn {α:Type} {t:Sem α} {Q Q':α->Shared->Prop} {M:Model} {A:Around} {E:Value->Shared->Prop} {s:Shared} (h:wpAny M A t Q E s) (hQ:∀ a s,Q a s->Q' a s):wpAny M A t Q' E s:=wpAny_mono h hQ λ_ _ x=>x
section
variable {X:Cx}
theorem bin {a b:Expr} {ta tb:TE} (ha:PE X a ta) (hb:PE X b tb) {pins:List (Addr×Obj)} {s:Shared} {σ:St} {H:Hp} {R:V->V->Hp->Prop} (I:Inv X pins σ H s) (h:ta σ H λx H1=>tb σ H1 λy H2=>R x y H2)
  {α:Type} {Q:α->Shared->Prop} {f:Value->Value->Sem α}
  (hf:∀ v u s2 x y H2,Inv X pins σ H2 s2->RelV x v->RelV y u->R x y H2->wpAny (model X.prog X.w) X.A (f v u) Q X.xe s2) :
  wpAny (model X.prog X.w) X.A (eval a X.env) (λv s₁=>wpAny (model X.prog X.w) X.A (eval b X.env) (λu s₂=>wpAny (model X.prog X.w) X.A (f v u) Q X.xe s₂) X.xe s₁) X.xe s:=by
 refine thn (ha pins s σ H _ I h) λv s1 q_=>?_;obtain ⟨x,H1,I1,r1,q1⟩:=q_;refine thn (hb pins s1 σ H1 _ I1 q1) λu s2 q_=>?_;obtain ⟨y,H2,I2,r2,q2⟩:=q_;exact hf v u s2 x y H2 I2 r1 r2 q2
noncomputable def tVar (i:Nat):TE:=λσ H Q=>∃ v,σ[i]?=some (some v)/\Q v H
noncomputable def tC (v:V):TE:=λ_ H Q=>Q v H
theorem zta {i:Nat} {x:Str} {pos:Pos} (hN:X.N[i]?=some x) (hv:Vis X.env.scope x) (hd:(x==("__debug__":Str))=false:=by decide) (hcd:(x==("__classdict__":Str))=false:=by decide):PE X (.Name x pos) (tVar i):=by
 intro pins s σ H Q I h;obtain ⟨v,e,h⟩:=h;obtain ⟨m,hn,hl⟩:=I.loc;obtain ⟨u,r,l⟩:=hl i x v hN e hv;have fin:EP X pins σ Q u s:=⟨v,H,I,r,h⟩
 rcases l with ⟨hk,hm⟩ | ⟨hk,c,hc,hcell⟩
 ·exact wpAny_Name (wpAny_loadName_local I.ok.kind hk hn hm fin) hd
 ·rcases hk with hk | hk
  ·exact wpAny_Name (wpAny_loadName_cell I.ok.kind hk hc hcell fin) hd
  ·exact wpAny_Name (wpAny_loadName_free I.ok.kind hk hc hcell fin hcd) hd
theorem zss {i j pos}:PE X (.Constant (.int i) j pos) (tC (.int i)):=λ_ _ _ H _ I h=>wpAny_Constant_int ⟨.int i,H,I.tok _,⟨_,rfl⟩,h⟩
theorem zvu {b j pos}:PE X (.Constant (.bool b) j pos) (tC (.bl b)):=λ_ _ _ H _ I h=>Constant_bool ⟨.bl b,H,I,rfl,h⟩
theorem ztT {j pos}:PE X (.Constant .none j pos) (tC .non):=λ_ _ _ H _ I h=>Constant_none ⟨.non,H,I,rfl,h⟩
theorem zso {x j pos}:PE X (.Constant (.str x) j pos) (tC (.str x)):=λ_ _ _ H _ I h=>Calls.Constant_str ⟨.str x,H,I.tok _,⟨_,rfl⟩,h⟩
noncomputable def Gl (X:Cx) (x:Str):Prop:=X.env.kindOf x=some .globalImplicit
theorem zep {E:Value->Shared->Prop} {pins:List (Addr×Obj)} {s:Shared} {σ:St} {H:Hp} {x:Str} {u:Value} {pos:Pos} {Q:Value->Shared->Prop} (I:Inv X pins σ H s) (hg:Gl X x) (hm:X.mg x=some u) (h:Q u s)
  (hd:(x==("__debug__":Str))=false:=by decide):wpAny (model X.prog X.w) X.A (eval (.Name x pos) X.env) Q E s:=
 Calls.Name_function_global I.ok.kind hg (Calls.loadGlobal_global (by rw [I.ok.glob];exact I.mod.glob.keeps I.bk) hm h) hd
theorem zie {E:Value->Shared->Prop} {pins:List (Addr×Obj)} {s:Shared} {σ:St} {H:Hp} {x:Str} {u:Value} {pos:Pos} {Q:Value->Shared->Prop} (I:Inv X pins σ H s) (hg:Gl X x) (hm:X.mg x=none) (hv:bootBuiltins x=some u) (h:Q u s)
  (hn:x ≠ "__name__":=by decide) (hd:(x==("__debug__":Str))=false:=by decide):wpAny (model X.prog X.w) X.A (eval (.Name x pos) X.env) Q E s:=by
 obtain ⟨mb,h1,h2⟩:=I.mod.blt
 exact Calls.Name_function_global I.ok.kind hg (Calls.loadGlobal_builtin (by rw [I.ok.glob];exact I.mod.glob.keeps I.bk) hm (by rw [I.ok.blt];exact h1.keeps I.bk) ((h2 x hn).trans hv) h) hd
theorem zq5 {x:Str} {v:V} {u:Value} {pos:Pos} (hg:Gl X x) (hm:X.mg x=some u) (r:RelV v u) (hd:(x==("__debug__":Str))=false:=by decide):PE X (.Name x pos) (tC v):=
 fun _ _ _ H _ I h=>zep I hg hm ⟨v,H,I,r,h⟩ hd
theorem zre {x:Str} {v:V} {u:Value} {pos:Pos} (hg:Gl X x) (hm:X.mg x=none) (hv:bootBuiltins x=some u) (r:RelV v u) (hn:x ≠ "__name__":=by decide) (hd:(x==("__debug__":Str))=false:=by decide):PE X (.Name x pos) (tC v):=
 fun _ _ _ H _ I h=>zie I hg hm hv ⟨v,H,I,r,h⟩ hn hd
noncomputable def t2I (ta tb:TE) (k:Int->Int->Hp->Prop):St->Hp->Prop:=λσ H=>ta σ H λx H1=>tb σ H1 λy H2=>∃ i j,x=.int i/\y=.int j/\k i j H2
variable {a b:Expr} {ta tb:TE} {pos:Pos}
noncomputable def tCmp (p:Int->Int->Bool) (ta tb:TE):TE:=λσ H Q=>t2I ta tb (λi j H2=>Q (.bl (p i j)) H2) σ H
noncomputable abbrev tGe:TE->TE->TE:=tCmp λi j=>decide (j<=i)
noncomputable def tB (t:TE):TT:=λσ H Q=>t σ H λx H1=>∃ c,x=.bl c/\Q c H1
variable {tA tB':TT} {rest:List Expr}
noncomputable def tAnd (t u:TT):TT:=λσ H Q=>t σ H λc H1=>if c=true then u σ H1 Q else Q false H1
noncomputable def tOr (t u:TT):TT:=λσ H Q=>t σ H λc H1=>if c=true then Q true H1 else u σ H1 Q
noncomputable def tNot (t:TT):TT:=λσ H Q=>t σ H λc H1=>Q (!c) H1
theorem zqk (ha:PT X a tA):PW X (.BoolOp .And [a] pos) tA:=by
 intro wh pins s σ H Q I h;refine isTrue_and (thn (ha pins s σ H Q I h) λc s1 e=>?_)
 cases c with
 | true=>exact isTrue_and_nil e
 | false=>exact e
theorem ztB (ha:PT X a tA):PW X (.BoolOp .Or [a] pos) tA:=by
 intro wh pins s σ H Q I h;refine isTrue_or (thn (ha pins s σ H Q I h) λc s1 e=>?_)
 cases c with
 | false=>exact isTrue_or_nil e
 | true=>exact e
theorem zt9 (ha:PT X a tA) (hb:PW X (.BoolOp .And (b::rest) pos) tB'):PW X (.BoolOp .And (a::b::rest) pos) (tAnd tA tB'):=by
 intro wh pins s σ H Q I h;refine isTrue_and (thn (ha pins s σ H _ I h) λc s1 q_=>?_);obtain ⟨H1,I1,q1⟩:=q_
 cases c with
 | true=>exact hb wh pins s1 σ H1 Q I1 q1
 | false=>exact ⟨H1,I1,q1⟩
theorem zvH (ha:PT X a tA) (hb:PW X (.BoolOp .Or (b::rest) pos) tB'):PW X (.BoolOp .Or (a::b::rest) pos) (tOr tA tB'):=by
 intro wh pins s σ H Q I h;refine isTrue_or (thn (ha pins s σ H _ I h) λc s1 q_=>?_);obtain ⟨H1,I1,q1⟩:=q_
 cases c with
 | true=>exact ⟨H1,I1,q1⟩
 | false=>exact hb wh pins s1 σ H1 Q I1 q1
theorem zs3 (ha:PT X a tA):PT X (.UnaryOp .Not a pos) (tNot tA):=by
 intro pins s σ H Q I h;exact isTrue_not (thn (ha pins s σ H (λc H1=>Q (!c) H1) I h) λ_ _ ⟨H1,I1,q1⟩=>⟨H1,I1,q1⟩)
noncomputable def zvg (ta tb:TE):TE:=λσ H Q=>ta σ H λx H1=>∃ c,x=.bl c/\if c=true then tb σ H1 Q else Q (.bl false) H1
noncomputable def tOrV (ta tb:TE):TE:=λσ H Q=>ta σ H λx H1=>∃ c,x=.bl c/\if c=true then Q (.bl true) H1 else tb σ H1 Q
theorem zpG {op} {t:TE} (h:PE X a t):PE X (.BoolOp op [a] pos) t:=λpins s σ H Q I hw=>BoolOp_one (h pins s σ H Q I hw)
theorem zur (ha:PE X a ta) (hb:PE X (.BoolOp .And (b::rest) pos) tb):PE X (.BoolOp .And (a::b::rest) pos) (zvg ta tb):=by
 intro pins s σ H Q I h;refine BoolOp_and (thn (ha pins s σ H _ I h) λv s1 q_=>?_);obtain ⟨x,H1,I1,r1,q1⟩:=q_;obtain ⟨c,rfl,q1⟩:=q1;cases r1;refine wpAny_truthy_bool ?_
 cases c with
 | true=>exact hb pins s1 σ H1 Q I1 q1
 | false=>exact ⟨.bl false,H1,I1,rfl,q1⟩
theorem zvz (ha:PE X a ta) (hb:PE X (.BoolOp .Or (b::rest) pos) tb):PE X (.BoolOp .Or (a::b::rest) pos) (tOrV ta tb):=by
 intro pins s σ H Q I h;refine BoolOp_or (thn (ha pins s σ H _ I h) λv s1 q_=>?_);obtain ⟨x,H1,I1,r1,q1⟩:=q_;obtain ⟨c,rfl,q1⟩:=q1;cases r1;refine wpAny_truthy_bool ?_
 cases c with
 | false=>exact hb pins s1 σ H1 Q I1 q1
 | true=>exact ⟨.bl true,H1,I1,rfl,q1⟩
noncomputable def tIf (t:TT) (ta tb:TE):TE:=λσ H Q=>t σ H λc H1=>if c=true then ta σ H1 Q else tb σ H1 Q
theorem zn6 {c:Expr} (hc:PT X c tA) (ha:PE X a ta) (hb:PE X b tb):PE X (.IfExp c a b pos) (tIf tA ta tb):=by
 intro pins s σ H Q I h;refine wpAny_IfExp (thn (hc pins s σ H _ I h) λd s1 q_=>?_);obtain ⟨H1,I1,q1⟩:=q_
 cases d with
 | true=>exact ha pins s1 σ H1 Q I1 q1
 | false=>exact hb pins s1 σ H1 Q I1 q1
end
noncomputable def SqL (K:PySem.W.Frag) (H:Hp) (a:Addr) (xs:List V):Prop:=
 Rd H a (.lst xs) ∨
  ∃ (o:Obj) (its:Array Value) (n:Nat),K.lookup a=some o/\o.cls=.type "list"/\o.dict=none/\o.data=.seq its n/\its.size<=sizeLine/\Vals xs its.toList
noncomputable def SqT (K:PySem.W.Frag) (H:Hp) (a:Addr) (xs:List V):Prop:=
 Rd H a (.tup xs) ∨
  ∃ (o:Obj) (its:Array Value) (n:Nat),K.lookup a=some o/\o.cls=.type "tuple"/\o.dict=none/\o.data=.seq its n/\its.size<=sizeLine/\Vals xs its.toList
noncomputable def absV:Value->Option V
 | .none=>some .non
 | .bool b=>some (.bl b)
 | .int i _=>some (.int i)
 | .str x _=>some (.str x)
 | .bytes b _=>some (.byt b)
 | .float b _=>some (.flt b)
 | .ref a=>some (.ref a)
 | .type n=>some (.ty n)
 | _=>none
theorem RelV.abs {x:V} {u:Value} (r:RelV x u):absV u=some x:=by
 cases x with
 | non=>cases r;rfl
 | bl _=>cases r;rfl
 | int _=>obtain ⟨t,rfl⟩:=r;rfl
 | str _=>obtain ⟨t,rfl⟩:=r;rfl
 | byt _=>obtain ⟨t,rfl⟩:=r;rfl
 | flt _=>obtain ⟨t,rfl⟩:=r;rfl
 | ref _=>cases r;rfl
 | ty _=>cases r;rfl
theorem RelV.inj {x y:V} {u:Value} (r:RelV x u) (q:RelV y u):x=y:=Option.some.inj (r.abs.symm.trans q.abs)
theorem Vals.inj:∀ {xs ys:List V} {us:List Value},Vals xs us->Vals ys us->xs=ys
 | _,_,_,.nil,.nil=>rfl
 | _,_,_,.cons r t,.cons r' t'=>by rw [r.inj r',Vals.inj t t']
section
variable {X:Cx} {pins:List (Addr×Obj)} {σ:St} {H:Hp} {s:Shared} {a:Addr} {xs ys:List V}
theorem SqL.of {K:PySem.W.Frag} (h:H a=some (.lst xs)):SqL K H a xs:=.inl (.inl h)
theorem SqT.of {K:PySem.W.Frag} (h:H a=some (.tup xs)):SqT K H a xs:=.inl (.inl h)
theorem Inv.list (I:Inv X pins σ H s) (h:SqL X.K H a xs):∃ its:List Value,Vals xs its/\PlainL s.heap a its.toArray/\xs.length<=sizeLine:=by
 rcases h with h | ⟨o,its,n,hk,hc,hd,hs,hz,r⟩
 ·obtain ⟨z,its,n,r,e⟩:=h.ok I.hok
  exact ⟨its,r,⟨_,n,e,rfl,rfl,rfl⟩,z⟩
 ·refine ⟨its.toList,r,⟨o,n,I.kIn a o hk,hc,hd,by simpa using hs⟩,?_⟩
  have e:=r.length;simp only [Array.length_toList] at e;omega
theorem Inv.tuple (I:Inv X pins σ H s) (h:SqT X.K H a xs):∃ its:List Value,Vals xs its/\IsTup s.heap a its.toArray/\xs.length<=sizeLine:=by
 rcases h with h | ⟨o,its,n,hk,hc,_,hs,hz,r⟩
 ·obtain ⟨z,its,r,p⟩:=h.ok I.hok
  exact ⟨its,r,p.1,z⟩
 ·refine ⟨its.toList,r,⟨o,I.kIn a o hk,hc,n,by simpa using hs⟩,?_⟩
  have e:=r.length;simp only [Array.length_toList] at e;omega
theorem Inv.tupleB (I:Inv X pins σ H s) (h:SqT X.K H a xs):∀ o,s.heap.get? a=some o->o.dict=none:=by
 rcases h with h | ⟨o,its,n,hk,hc,hd,hs,hz,r⟩
 ·obtain ⟨z,its,r,p⟩:=h.ok I.hok
  exact p.2
 ·intro o2 e2
  rw [I.kIn a o hk] at e2;cases e2;exact hd
theorem Inv.list_inj (I:Inv X pins σ H s) (h:SqL X.K H a xs) (h':SqL X.K H a ys):xs=ys:=by
 obtain ⟨its,r,⟨o,n,e,_,_,d⟩,_⟩:=I.list h;obtain ⟨its',r',⟨o',n',e',_,_,d'⟩,_⟩:=I.list h'
 rw [e] at e';cases e'
 rw [d] at d';injection d' with d1 _
 have:its=its':=by simpa using congrArg Array.toList d1
 subst this;exact r.inj r'
theorem Inv.tuple_inj (I:Inv X pins σ H s) (h:SqT X.K H a xs) (h':SqT X.K H a ys):xs=ys:=by
 obtain ⟨its,r,⟨o,e,_,n,d⟩,_⟩:=I.tuple h;obtain ⟨its',r',⟨o',e',_,n',d'⟩,_⟩:=I.tuple h'
 rw [e] at e';cases e'
 rw [d] at d';injection d' with d1 _
 have:its=its':=by simpa using congrArg Array.toList d1
 subst this;exact r.inj r'
end
noncomputable abbrev Cx.wish (X:Cx) (E:Value->Shared->Prop):Cx:={ X with xe:=E }
noncomputable abbrev Cx.nox (X:Cx):Cx:=X.wish λ_ _=>False
theorem Cx.Ok.wish {X:Cx} (ok:X.Ok) (E:Value->Shared->Prop):(X.wish E).Ok:=
 ⟨ok.mod,ok.kind,ok.glob,ok.blt,ok.above,ok.inj,ok.has,ok.cab,ok.hd,ok.frames,ok.stk,ok.exf,ok.bs,ok.bsz,ok.noex,ok.exfs,ok.funs,ok.frf⟩
theorem Cx.Ok.unwish {X:Cx} {E:Value->Shared->Prop} (ok:(X.wish E).Ok):X.Ok:=
 ⟨ok.mod,ok.kind,ok.glob,ok.blt,ok.above,ok.inj,ok.has,ok.cab,ok.hd,ok.frames,ok.stk,ok.exf,ok.bs,ok.bsz,ok.noex,ok.exfs,ok.funs,ok.frf⟩
section
variable {X:Cx} {pins:List (Addr×Obj)} {σ:St} {H:Hp} {s:Shared} {E:Value->Shared->Prop}
theorem Inv.wish (I:Inv X pins σ H s) (E:Value->Shared->Prop):Inv (X.wish E) pins σ H s:=⟨I.ok.wish E,I.os,I.bare,I.base,I.loc,I.cell,I.free,I.freeC,I.pin,I.hok,I.len⟩
theorem Inv.unwish (I:Inv (X.wish E) pins σ H s):Inv X pins σ H s:=⟨I.ok.unwish,I.os,I.bare,I.base,I.loc,I.cell,I.free,I.freeC,I.pin,I.hok,I.len⟩
theorem SP.unwish {D:Ends} {f:Flow} {s':Shared} (h:SP (X.wish E) pins D f s'):SP X pins D f s':=by
 cases f with
 | next=>obtain ⟨σ',H',I,q⟩:=h;exact ⟨σ',H',I.unwish,q⟩
 | brk=>obtain ⟨σ',H',I,q⟩:=h;exact ⟨σ',H',I.unwish,q⟩
 | cont=>obtain ⟨σ',H',I,q⟩:=h;exact ⟨σ',H',I.unwish,q⟩
 | ret u=>obtain ⟨v,σ',H',I,r,q⟩:=h;exact ⟨v,σ',H',I.unwish,r,q⟩
theorem PE.nox {e:Expr} {t:TE} (h:PE X.nox e t):PE X e t:=λpins s σ H Q I hw=>
 wpAny_mono (h pins s σ H Q (I.wish _) hw) (λ_ _ ⟨v,H',I',r,q⟩=>⟨v,H',I'.unwish,r,q⟩) λ_ _ z=>False.elim z
theorem PT.nox {e:Expr} {t:TT} (h:PT X.nox e t):PT X e t:=λpins s σ H Q I hw=>
 wpAny_mono (h pins s σ H Q (I.wish _) hw) (λ_ _ ⟨H',I',q⟩=>⟨H',I'.unwish,q⟩) λ_ _ z=>False.elim z
theorem PSs.nox {st:List Stmt} {t:TS} (h:PSs X.nox st t):PSs X st t:=λpins s σ H D I hw=>
 wpAny_mono (h pins s σ H D (I.wish _) hw) (λ_ _ q=>q.unwish) λ_ _ z=>False.elim z
end
section
variable {X:Cx} {st:Stmt} {rest:List Stmt} {t u:TS} {e:Expr} {te:TE} {pos:Pos}
noncomputable def zu2:TS:=λD σ H=>D.nx σ H
noncomputable def tSeq (t u:TS):TS:=λD σ H=>t { D with nx:=u D } σ H
theorem zql:PSs X [] zu2:=λ_ _ σ H _ I h=>wpAny_execs_nil ⟨σ,H,I,h⟩
theorem zpb (h1:PS X st t) (h2:PSs X rest u):PSs X (st::rest) (tSeq t u):=by
 intro pins s σ H D I h;refine wpAny_execs_cons (thn (h1 pins s σ H { D with nx:=u D } I h) λf s1 q=>?_)
 cases f with
 | next=>
  obtain ⟨σ',H',I',q⟩:=q;exact h2 pins s1 σ' H' D I' q
 | ret v=>exact q
 | brk=>exact q
 | cont=>exact q
theorem znh (h1:PS X st t):PSs X [st] t:=by
 intro pins s σ H D I h;refine wpAny_execs_cons (thn (h1 pins s σ H D I h) λf s1 q=>?_)
 cases f with
 | next=>exact wpAny_execs_nil q
 | ret v=>exact q
 | brk=>exact q
 | cont=>exact q
theorem Inv.quiet {pins:List (Addr×Obj)} {σ:St} {H:Hp} {s:Shared} (I:Inv X pins σ H s):interactive X.env=false:=by simp [interactive,I.ok.kind]
noncomputable def zvj (te:TE):TS:=λD σ H=>te σ H λ_ H1=>D.nx σ H1
theorem zrL (he:PE X e te) (hs:swapsWith e none pos.line X.env=pure false:=by rfl):PS X (.Expr e pos) (zvj te):=by
 intro pins s σ H D I h;exact wpAny_Expr_any (thn (he pins s σ H _ I h) λv s1 ⟨x,H1,I1,r1,q1⟩=>⟨σ,H1,I1,q1⟩) I.quiet hs
noncomputable def tRet (te:TE):TS:=λD σ H=>te σ H D.rt
theorem zsu (he:PE X e te):PS X (.Return (some e) pos) (tRet te):=by
 intro pins s σ H D I h;exact wpAny_Return_some (thn (he pins s σ H _ I h) λv s1 ⟨x,H1,I1,r1,q1⟩=>⟨x,σ,H1,I1,r1,q1⟩)
noncomputable def zuW:TS:=λD _ H=>D.rt .non H
theorem zrZ:PS X (.Return none pos) zuW:=λ_ _ σ H _ I h=>wpAny_Return_none ⟨.non,σ,H,I,rfl,h⟩
noncomputable def tIfS (c:TT) (t u:TS):TS:=λD σ H=>c σ H λb H1=>if b=true then t D σ H1 else u D σ H1
theorem zvd {c:Expr} {a b:List Stmt} {tc:TT} (hc:PT X c tc) (ha:PSs X a t) (hb:PSs X b u):PS X (.If c a b pos) (tIfS tc t u):=by
 intro pins s σ H D I h;refine wpAny_If (thn (hc pins s σ H _ I h) λd s1 q_=>?_);obtain ⟨H1,I1,q1⟩:=q_
 cases d with
 | true=>exact ha pins s1 σ H1 D I1 q1
 | false=>exact hb pins s1 σ H1 D I1 q1
end
noncomputable abbrev TG:=V->St->Hp->(St->Hp->Prop)->Prop
noncomputable abbrev TGs:=List V->St->Hp->(St->Hp->Prop)->Prop
noncomputable def PG (X:Cx) (target:Expr) (t:TG):Prop:=
 ∀ (pins:List (Addr×Obj)) (s:Shared) (σ:St) (H:Hp) (v:V) (u:Value) (Q:St->Hp->Prop),Inv X pins σ H s->RelV v u->t v σ H Q →
  wpAny (model X.prog X.w) X.A (assign target X.env u) (λ_ s'=>∃ σ' H',Inv X pins σ' H' s'/\Q σ' H') X.xe s
noncomputable def PGs (X:Cx) (ts:List Expr) (t:TGs):Prop:=
 ∀ (pins:List (Addr×Obj)) (s:Shared) (σ:St) (H:Hp) (vs:List V) (us:List Value) (Q:St->Hp->Prop),Inv X pins σ H s->Vals vs us->t vs σ H Q →
  wpAny (model X.prog X.w) X.A (assignInOrder ((assignEach ts X.env).map (·.2)) us) (λ_ s'=>∃ σ' H',Inv X pins σ' H' s'/\Q σ' H') X.xe s
noncomputable abbrev TSet:=V->V->V->Hp->(Hp->Prop)->Prop
noncomputable def PSet (X:Cx) (t:TSet):Prop:=
 ∀ (pins:List (Addr×Obj)) (s:Shared) (σ:St) (H:Hp) (o i v:V) (ov iv u:Value) (Q:Hp->Prop),Inv X pins σ H s->RelV o ov->RelV i iv->RelV v u->t o i v H Q →
  wpAny (model X.prog X.w) X.A (setItem ov iv u) (λ_ s'=>∃ H',Inv X pins σ H' s'/\Q H') X.xe s
section
variable {X:Cx} {pos:Pos}
noncomputable def zlE (i:Nat):TG:=λv σ H Q=>Q (σ.set i (some v)) H
theorem zmR {i:Nat} {x:Str} (hN:X.N.Nodup) (hi:X.N[i]?=some x) (hx:Loc X.env.scope x) (hf:X.fn x=true\/X.env.scope.names.lookup x=some .local:=by first | exact .inl rfl | exact .inr rfl | assumption):PG X (.Name x pos) (zlE i):=by
 intro pins s σ H v u Q I r h;exact wpAny_assign_Name (zki I hN hi hx r (λs' I'=>⟨_,H,I',h⟩) hf)
noncomputable def gNil:TGs:=λvs σ H Q=>vs=[]/\Q σ H
noncomputable def zvl (t:TG) (u:TGs):TGs:=λvs σ H Q=>∃ v r,vs=v::r/\t v σ H λσ' H'=>u r σ' H' Q
theorem zmG:PGs X [] gNil:=by
 intro pins s σ H vs us Q I r h;obtain ⟨e,h⟩:=h;subst e;cases r;exact assignInOrder_nil ⟨σ,H,I,h⟩
theorem zgU {e:Expr} {es:List Expr} {t:TG} {u:TGs} (h1:PG X e t) (h2:PGs X es u)
  (hs:(assignEach (e::es) X.env).map (·.2)=assign e X.env::(assignEach es X.env).map (·.2):=by rfl):PGs X (e::es) (zvl t u):=by
 intro pins s σ H vs us Q I r h;obtain ⟨v,vr,e1,h⟩:=h;subst e1
 cases r with
 | cons r rr=>
  rw [hs];refine assignInOrder_cons (thn (h1 pins s σ H _ _ _ I r h) λ_ s1 q_=>?_);obtain ⟨σ1,H1,I1,q1⟩:=q_;exact h2 pins s1 σ1 H1 _ _ Q I1 rr q1
noncomputable def gTup (K:PySem.W.Frag) (n:Nat) (t:TGs):TG:=λv σ H Q=>∃ a xs,v=.ref a/\SqT K H a xs/\xs.length=n/\t xs σ H Q
theorem zpL {es:List Expr} {k:Nat} {t:TGs} {n:Nat} (hc:X.calm=true) (h:PGs X es t)
  (hn:(assignEach es X.env).length=n:=by rfl) (hst:(assignEach es X.env).findIdx? (·.1)=none:=by rfl):PG X (.Tuple es k pos) (gTup X.K n t):=by
 intro pins s σ H v u Q I r hw;obtain ⟨a,xs,e1,hq,hl,hw⟩:=hw;subst e1;cases r;obtain ⟨its,rv,ht,hz⟩:=I.tuple hq;refine assign_Tuple_tuple (I.ok.hd hc) ht (by simp [hn,<-hl,rv.length]) hst λh' hx=>?_;have I1:Inv X pins σ H { s with heap:=h' }:=I.kept (t':=s.toks) λb o e=>hx b o (Nat.ne_of_lt (Heap.lt_size e)) e;exact h pins _ σ H xs _ Q I1 (by simpa using rv) hw
noncomputable def gSub (to ti:TE) (t:TSet):TG:=λv σ H Q=>to σ H λo H1=>ti σ H1 λi H2=>t o i v H2 λH3=>Q σ H3
theorem zsL {o i:Expr} {to ti:TE} {t:TSet} (ho:PE X o to) (hi:PE X i ti) (hs:PSet X t)
  (ha:∀ v,assign (.Subscript o i pos) X.env v=(do
   let ov<-holding [v] (eval o X.env)
   let iv<-holding [v,ov] (eval i X.env)
   standAt pos
   holding [v,ov,iv] (setItem ov iv v)
   release [v,ov,iv] []):=by intro _;rfl):PG X (.Subscript o i pos) (gSub to ti t):=by
 intro pins s σ H v u Q I r h;rw [ha];refine wpAny_bind (wpAny_holding (thn (ho pins s σ H _ I h) λov s1 q_=>?_));obtain ⟨x,H1,I1,r1,q1⟩:=q_;refine wpAny_bind (wpAny_holding (thn (hi pins s1 σ H1 _ I1 q1) λiv s2 q_=>?_));obtain ⟨y,H2,I2,r2,q2⟩:=q_;refine wpAny_bind (wpAny_standAt (wpAny_bind (wpAny_holding (thn (hs pins s2 σ H2 x y v ov iv u _ I2 r1 r2 r q2) λ_ s3 q_=>?_))));obtain ⟨H3,I3,q3⟩:=q_;exact wpAny_release ⟨σ,H3,I3,q3⟩
noncomputable def tAsg (te:TE) (g:TG):TS:=λD σ H=>te σ H λx H1=>g x σ H1 D.nx
theorem znD {tg e:Expr} {te:TE} {g:TG} (he:PE X e te) (hg:PG X tg g) (hs:swapsWithSole [tg] e pos.line X.env=pure false:=by rfl) (hw:swappedStores [tg] e X.env=pure none:=by rfl)
  (h1:(assignEach [tg] X.env).map (·.2)=[assign tg X.env]:=by rfl):PS X (.Assign [tg] e pos) (tAsg te g):=by
 intro pins s σ H D I h;refine wpAny_Assign_stores (thn (he pins s σ H _ I h) λv s1 q_=>?_) hs hw;obtain ⟨x,H1,I1,r1,q1⟩:=q_;rw [h1];exact thn (hg pins s1 σ H1 x v _ I1 r1 q1) λ_ s2 q=>q
theorem zuo {i:Nat} {x:Str} {e:Expr} {te:TE} {pos':Pos} (hN:X.N.Nodup) (hi:X.N[i]?=some x) (hx:Loc X.env.scope x) (he:PE X e te) (hs:swapsWith e (some (.Name x pos')) pos.line X.env=pure false:=by rfl) (hf:X.fn x=true\/X.env.scope.names.lookup x=some .local:=by first | exact .inl rfl | exact .inr rfl | assumption) :
  PS X (.Assign [.Name x pos'] e pos) (tAsg te (zlE i)):=by
 intro pins s σ H D I h;refine wpAny_Assign_Name (thn (he pins s σ H _ I h) λv s1 q_=>?_) hs;obtain ⟨y,H1,I1,r1,q1⟩:=q_;exact zki I1 hN hi hx r1 (λs2 I2=>⟨_,H1,I2,q1⟩) hf
end
section
variable {X:Cx} {pos:Pos}
noncomputable def zun (c:TT) (tb:TS):TS:=λD σ H=>∃ W:Nat->St->Hp->Prop,(∃ m,W m σ H)/\∀ m σ H,W m σ H →
 c σ H λb H1=>if b=true then ∃ N:St->Hp->Prop,(∀ σ' H',N σ' H'->∃ m',m'<m/\W m' σ' H')/\tb { D with nx:=N,ct:=N,bk:=D.nx } σ H1 else D.nx σ H1
theorem zoC {c:Expr} {body:List Stmt} {tc:TT} {tb:TS} (hp:PassesOwn (model X.prog X.w) X.A X.env X.xe) (hc:PT X c tc) (hb:PSs X body tb):PS X (.While c body [] pos) (zun tc tb):=by
 intro pins s σ H D I h;obtain ⟨W,⟨m0,w0⟩,turn⟩:=h;refine wpAny_While (codeAny_whileLoop (λn s'=>∃ σ' H',Inv X pins σ' H' s'/\W n σ' H') ?_ m0 ⟨σ,H,I,w0⟩)
 rintro n s1 ⟨σ1,H1,I1,w1⟩
 refine wpAny_passesOwn hp (thn (hc pins s1 σ1 H1 _ I1 (turn n σ1 H1 w1)) λb s2 q_=>?_);obtain ⟨H2,I2,q2⟩:=q_
 cases b with
 | true=>
  obtain ⟨N,hN,q2⟩:=q2;rw [if_pos rfl];refine wpAny_passesOwn hp (thn (hb pins s2 σ1 H2 _ I2 q2) λf s3 q3=>?_)
  cases f with
  | next=>
   obtain ⟨σ3,H3,I3,n3⟩:=q3;obtain ⟨m',hm,w3⟩:=hN σ3 H3 n3;exact ⟨m',hm,σ3,H3,I3,w3⟩
  | cont=>
   obtain ⟨σ3,H3,I3,n3⟩:=q3;obtain ⟨m',hm,w3⟩:=hN σ3 H3 n3;exact ⟨m',hm,σ3,H3,I3,w3⟩
  | brk=>exact q3
  | ret v=>exact q3
 | false=>
  rw [if_neg Bool.false_ne_true];exact wpAny_execs_nil ⟨σ1,H2,I2,q2⟩
end
structure It where
 go:Nat->Hp->Prop
 yld:Nat->Hp->V->Hp->Prop
 stop:Nat->Hp->Prop
noncomputable def FpOk (X:Cx) (pins:List (Addr×Obj)) (H:Hp) (b:Addr):Prop:=
 H b=none/\b≠X.env.locals/\b ∉ X.fs/\(b∈X.ex\/X.s₀.heap.objs.size<=b)/\(∀ x c,X.env.cells.lookup x=some c->c≠b)/\∀ p∈X.pn++pins,p.1≠b
theorem Inv.fpOk {X:Cx} {pins:List (Addr×Obj)} {σ:St} {H H':Hp} {s:Shared} {b:Addr} (I:Inv X pins σ H s) (hb:s.heap.objs.size<=b) (hn:H' b=none):FpOk X pins H' b:=by
 refine ⟨hn,Nat.ne_of_gt (Nat.lt_of_lt_of_le I.lt hb),I.nofs hb,.inr (Nat.le_trans I.sz hb),λx c e z=>?_,λp hp z=>?_⟩
 ·obtain ⟨v,q⟩:=I.cell x c e
  exact absurd (Nat.lt_of_lt_of_le q.lt (by rw [z];exact hb)) (Nat.lt_irrefl _)
 ·exact absurd (Nat.lt_of_lt_of_le (Heap.lt_size (I.pin p hp).1) (by rw [z];exact hb)) (Nat.lt_irrefl _)
structure Turn (P:Program) (w:World) (K:PySem.W.Frag) (tg:Expr) (J:It) (fp:List Addr) (it:Addr) (tn:Nat->Heap->Prop):Prop where
 mem:it∈fp
 obj:∀ i h,tn i h->∀ b∈fp,∃ o,h.get? b=some o/\∀ v,o.data≠.cell v
 keep:∀ i h h',tn i h->(∀ b∈fp,∀ o,h.get? b=some o->h'.get? b=some o)->tn i h'
 item:∀ (X:Cx),X.prog=P->X.w=w->X.K=K->X.calm=true->∀ (i:Nat) (pins:List (Addr×Obj)) (s:Shared) (σ:St) (H:Hp) (E:Value->Shared->Prop),Inv X pins σ H s->(∀ b∈fp,FpOk X pins H b)->tn i s.heap->J.go i H →
  wpAny (model P w) X.A (pyNext (.ref it)) (λr s1=>∃ u,r=some u ∧
   wpAny (model P w) X.A (letOwnedTupleGo tg (.ref it) u) (λ_ s2=>∃ x H',Inv X pins σ H' s2/\RelV x u/\J.yld i H x H'/\tn (i+1) s2.heap/\∀ b∈fp,H' b=none) E s1) E s
 done:∀ (X:Cx),X.prog=P->X.w=w->X.K=K->X.calm=true->∀ (i:Nat) (pins:List (Addr×Obj)) (s:Shared) (σ:St) (H:Hp) (E:Value->Shared->Prop),Inv X pins σ H s->(∀ b∈fp,FpOk X pins H b)->tn i s.heap->J.stop i H →
  wpAny (model P w) X.A (pyNext (.ref it)) (λr s1=>r=none/\Inv X pins σ H s1) E s
 self:∀ (A:Around) (i:Nat) (s:Shared) (Q:Value->Shared->Prop) (E:Value->Shared->Prop),tn i s.heap->Q (.ref it) s->wpAny (model P w) A (pyIter (.ref it)) Q E s
noncomputable abbrev TI:=St->Hp->(It->Hp->Prop)->Prop
noncomputable def PIE (X:Cx) (pins:List (Addr×Obj)) (σ:St) (tg:Expr) (R:It->Hp->Prop) (itv:Value) (s2:Shared):Prop:=
 ∃ (it:Addr) (fp:List Addr) (tn:Nat->Heap->Prop) (J:It) (H':Hp),itv=.ref it/\Inv X pins σ H' s2/\Turn X.prog X.w X.K tg J fp it tn/\tn 0 s2.heap/\(∀ b∈fp,FpOk X pins H' b)/\R J H'
noncomputable def PI (X:Cx) (tg iter:Expr) (wi:TI):Prop:=
 ∀ (pins:List (Addr×Obj)) (s:Shared) (σ:St) (H:Hp) (R:It->Hp->Prop),Inv X pins σ H s->wi σ H R →
  wpAny (model X.prog X.w) X.A (eval iter X.env) (λv s1=>wpAny (model X.prog X.w) X.A (pyIter v) (PIE X pins σ tg R) X.xe s1) X.xe s
theorem zov {M:Model} {A:Around} {E:Value->Shared->Prop} {s:Shared} {tg:Expr} {it:Addr} {u:Value} {o:Obj} {n:String} {vs:Array Value} {Q:Unit->Shared->Prop} (ho:s.heap.get? it=some o) (hc:o.cls=.type n) (hd:o.data=.fields vs)
    (hn:["enumerate", "zip", "dict_itemiterator", "dict_reverseitemiterator", "odict_iterator", "itertools.zip_longest", "itertools.pairwise"].contains n=false) (hQ:Q () s):wpAny M A (letOwnedTupleGo tg (.ref it) u) Q E s:=by
  unfold letOwnedTupleGo
  cases tg <;> first
    | exact wpAny_pure hQ
    | (cases u<;>first
        | exact wpAny_pure hQ
        | (refine wpAny_bind (wpAny_load ho ?_)
           rw [hc,hd];show wpAny M A (if (["enumerate", "zip", "dict_itemiterator", "dict_reverseitemiterator", "odict_iterator", "itertools.zip_longest", "itertools.pairwise"].contains n&&vs[0]?==some (rawInt _))=true then _ else _) Q E s
           rw [if_neg (by intro h;rw [hn,Bool.false_and] at h;cases h)]
           exact wpAny_pure hQ))
noncomputable def Itl (K:PySem.W.Frag) (a:Addr):It:=
 ⟨λi H=>∃ xs x,SqL K H a xs/\xs[i]?=some x,λi H x H'=>H'=H/\∀ xs,SqL K H a xs->xs[i]?=some x,λi H=>∃ xs,SqL K H a xs/\xs.length<=i⟩
noncomputable def Itt (K:PySem.W.Frag) (a:Addr):It:=
 ⟨λi H=>∃ xs x,SqT K H a xs/\xs[i]?=some x,λi H x H'=>H'=H/\∀ xs,SqT K H a xs->xs[i]?=some x,λi H=>∃ xs,SqT K H a xs/\xs.length<=i⟩
noncomputable def Itr (lo:Int) (n:Nat):It:=⟨λi _=>i<n,λi H x H'=>H'=H/\x=.int (lo+i),λi _=>n<=i⟩
theorem zmQ {P:Program} {w:World} {K:PySem.W.Frag} {tg:Expr} (a it:Addr):Turn P w K tg (Itl K a) [it] it (λi h=>h.IsListIter it a i) where
 mem:=by simp
 obj:=λi h st b hb=>by
  have e:b=it:=by simpa using hb
  subst e;obtain ⟨o,e,c,d⟩:=st
  exact ⟨o,e,λv z=>by rw [d] at z;cases z⟩
 keep:=λi h h' st k=>st.at λo e=>k it (by simp) o e
 item:=by
  intro X hP hw hK hc i pins s σ H E I hf st hg;subst hP hw hK;obtain ⟨xs,x,hq,hx⟩:=hg;obtain ⟨its,rv,p,hz⟩:=I.list hq;obtain ⟨u,hu,ru⟩:=rv.get hx;obtain ⟨f0,f1,f2,f3,f4,f5⟩:=hf it (by simp);refine wpAny_pyNext_list_item st p.isList (x:=u) (by simpa using hu) λh' st' sb=>?_;have I1:Inv X pins σ H { s with heap:=h' }:=I.turned (t':=s.toks) (λb o hb e=>(sb.2 b hb).trans e) f0 f1 f3 f4 f5;obtain ⟨o,e,c,d⟩:=id st'
  exact ⟨u,rfl,zov (s:={ s with heap:=h' }) e c d (by decide) ⟨x,H,I1,ru,⟨rfl,λys hy=>by rw [I.list_inj hy hq];exact hx⟩,st',λb hb=>(hf b hb).1⟩⟩
 done:=by
  intro X hP hw hK hc i pins s σ H E I hf st hg;subst hP hw hK;obtain ⟨xs,hq,hx⟩:=hg;obtain ⟨its,rv,p,hz⟩:=I.list hq;obtain ⟨f0,f1,f2,f3,f4,f5⟩:=hf it (by simp);have hl:=rv.length
  exact wpAny_pyNext_list_end (I.ok.hd hc) st p.isList (by simp;omega) λh' eb=>⟨rfl,I.turned (t':=s.toks) (λb o hb e=>eb b o hb e) f0 f1 f3 f4 f5⟩
 self:=λ_ _ _ _ _ st h=>wpAny_pyIter_listiter st h
theorem zkn {P:Program} {w:World} {K:PySem.W.Frag} {tg:Expr} (a it:Addr):Turn P w K tg (Itt K a) [it] it (λi h=>h.IsTupleIter it a i) where
 mem:=by simp
 obj:=λi h st b hb=>by
  have e:b=it:=by simpa using hb
  subst e;obtain ⟨o,e,c,d⟩:=st
  exact ⟨o,e,λv z=>by rw [d] at z;cases z⟩
 keep:=λi h h' st k=>st.at λo e=>k it (by simp) o e
 item:=by
  intro X hP hw hK hc i pins s σ H E I hf st hg;subst hP hw hK;obtain ⟨xs,x,hq,hx⟩:=hg;obtain ⟨its,rv,p,hz⟩:=I.tuple hq;obtain ⟨u,hu,ru⟩:=rv.get hx;obtain ⟨f0,f1,f2,f3,f4,f5⟩:=hf it (by simp);refine wpAny_pyNext_tuple_item st (show s.heap.IsTuple a its.toArray from p) (x:=u) (by simpa using hu) λh' st' sb=>?_;have I1:Inv X pins σ H { s with heap:=h' }:=I.turned (t':=s.toks) (λb o hb e=>(sb.2 b hb).trans e) f0 f1 f3 f4 f5;obtain ⟨o,e,c,d⟩:=id st'
  exact ⟨u,rfl,zov (s:={ s with heap:=h' }) e c d (by decide) ⟨x,H,I1,ru,⟨rfl,λys hy=>by rw [I.tuple_inj hy hq];exact hx⟩,st',λb hb=>(hf b hb).1⟩⟩
 done:=by
  intro X hP hw hK hc i pins s σ H E I hf st hg;subst hP hw hK;obtain ⟨xs,hq,hx⟩:=hg;obtain ⟨its,rv,p,hz⟩:=I.tuple hq;obtain ⟨f0,f1,f2,f3,f4,f5⟩:=hf it (by simp);have hl:=rv.length
  exact wpAny_pyNext_tuple_end (I.ok.hd hc) st (show s.heap.IsTuple a its.toArray from p) (by simp;omega) λh' eb=>⟨rfl,I.turned (t':=s.toks) (λb o hb e=>eb b o hb e) f0 f1 f3 f4 f5⟩
 self:=λ_ _ _ _ _ st h=>wpAny_pyIter_tupleiter st h
theorem zkM {P:Program} {w:World} {K:PySem.W.Frag} {tg:Expr} (it:Addr) (lo:Int) (n:Nat):Turn P w K tg (Itr lo n) [it] it (λi h=>IsRangeIter h it (lo+(i:Nat)*1) ((n:Int)-(i:Nat)) 1) where
 mem:=by simp
 obj:=λi h st b hb=>by
  have e:b=it:=by simpa using hb
  subst e
  exact ⟨_,st,λv z=>by
   have z':Data.fields _=Data.cell v:=z
   cases z'⟩
 keep:=λi h h' st k=>k it (by simp) _ st
 item:=by
  intro X hP hw hK hc i pins s σ H E I hf st hg;subst hP hw hK;obtain ⟨f0,f1,f2,f3,f4,f5⟩:=hf it (by simp);have W:=Walks.range (prog:=X.prog) (w:=X.w) (I.ok.hd hc) it lo 1 n;refine W.item i s _ _ hg st λv h' tk hv st' kk=>?_;obtain ⟨t,rfl⟩:=hv;have I1:Inv X pins σ H { s with heap:=h',toks:=tk }:=I.turned (λb o hb e=>kk b o (by simpa using hb) e) f0 f1 f3 f4 f5;refine ⟨_,rfl,zov (s:={ s with heap:=h',toks:=tk }) (n:="range_iterator") st' rfl rfl (by decide) ⟨.int (lo+i),H,I1,⟨t,?_⟩,⟨rfl,rfl⟩,st',λb hb=>(hf b hb).1⟩⟩;rw [Int.mul_one]
 done:=by
  intro X hP hw hK hc i pins s σ H E I hf st hg;subst hP hw hK;obtain ⟨f0,f1,f2,f3,f4,f5⟩:=hf it (by simp)
  exact wpAny_pyNext_range_end (I.ok.hd hc) st (by have:n<=i:=hg;omega) λh' eb=>⟨rfl,I.turned (t':=s.toks) (λb o hb e=>eb b o hb e) f0 f1 f3 f4 f5⟩
 self:=λ_ _ _ _ _ st h=>wpAny_pyIter_rangeiter st h
section
variable {X:Cx} {tg:Expr}
theorem zof {pins:List (Addr×Obj)} {σ:St} {H:Hp} {s:Shared} {R:It->Hp->Prop} {E:Value->Shared->Prop} {lo hi:Int} {t u v:Tok} {tk:Nat} (I:Inv X pins σ H s) (h1:-(2 ^ 62)<=lo) (h2:lo<2 ^ 62) (h3:-(2 ^ 62)<=hi) (h4:hi<2 ^ 62)
  (q:R (Itr lo (hi-lo).toNat) H):wpAny (model X.prog X.w) X.A (pyIter (.ref s.heap.objs.size)) (PIE X pins σ tg R) E { s with heap:=s.heap.push { cls:=.type "range",data:=.fields #[.int lo t,.int hi u,.int 1 v] },toks:=tk }:=by
 refine wpAny_pyIter_range (IsRange.new ..) (small_one h1 h2 h3 h4) ?_;have I1:Inv X pins σ H { s with heap:=s.heap.push { cls:=.type "range",data:=.fields #[.int lo t,.int hi u,.int 1 v] },toks:=tk }:=I.kept λb o e=>Heap.get?_push_of_some _ e
 refine ⟨(s.heap.push { cls:=.type "range",data:=.fields #[.int lo t,.int hi u,.int 1 v] }).objs.size,[(s.heap.push { cls:=.type "range",data:=.fields #[.int lo t,.int hi u,.int 1 v] }).objs.size],_,_,H,rfl,
  I1.kept (t':=tk) λb o e=>Heap.get?_push_of_some _ e,zkM _ lo (hi-lo).toNat,?_,λb hb=>?_,q⟩
 ·have e1:lo+((0:Nat):Int)*1=lo:=by simp
  have e2:(((hi-lo).toNat:Nat):Int)-((0:Nat):Int)=Builtin.Range.rangeSize lo hi 1:=by rw [rangeSize_one];split<;>omega
  show IsRangeIter _ _ (lo+((0:Nat):Int)*1) ((((hi-lo).toNat:Nat):Int)-((0:Nat):Int)) 1;rw [e1,e2];exact Heap.get?_push_size _ rfl
 ·have e:b=(s.heap.push { cls:=.type "range",data:=.fields #[.int lo t,.int hi u,.int 1 v] }).objs.size:=by simpa using hb
  subst e;exact I1.fpOk (Nat.le_refl _) (I1.hok.fresh (Nat.le_refl _))
noncomputable def zuQ (ta:TA):TI:=λσ H R=>ta σ H λvs H1=>∃ j:Int,vs=[.int j]/\-(2 ^ 62)<=j/\j<2 ^ 62/\R (Itr 0 j.toNat) H1
theorem zlp {a:Expr} {ta:TA} {p pos:Pos} (hg:Gl X "range") (hm:X.mg "range"=none) (ha:PA X [a] ta) (hs:starEach [a] X.env=[(false,eval a X.env)]:=by rfl):PI X tg (.Call (.Name "range" p) [a] [] pos) (zuQ ta):=by
 intro pins s σ H R I h;refine Call_ (zie I hg hm boot_range (PyProof.Rows.callWith_type1 (thn (ha pos pins s σ H _ I h) λus s1 q_=>?_) hs rfl));obtain ⟨vs,H1,I1,r1,q1⟩:=q_;obtain ⟨j,e,q1,q2,q⟩:=q1;subst e
 cases r1 with
 | cons r rr=>
  cases rr;obtain ⟨t,rfl⟩:=r;exact call_range_1 (zof I1 (by omega) (by omega) q1 q2 (by simpa using q))
noncomputable def tFor (wi:TI) (g:TG) (tb:TS):TS:=λD σ H=>wi σ H λJ H1=>∃ W:Nat->Nat->St->Hp->Prop,(∃ m,W 0 m σ H1)/\∀ i m σ H,W i m σ H →
 (J.stop i H/\D.nx σ H)\/(J.go i H/\∃ N:St->Hp->Prop,(∀ σ' H',N σ' H'->∃ m',m'<m/\W (i+1) m' σ' H')/\∀ x H',J.yld i H x H'->g x σ H' λσ2 H2=>tb { D with nx:=N,ct:=N,bk:=D.nx } σ2 H2)
noncomputable def zht (fp:List Addr) (h:Heap):List (Addr×Obj):=fp.filterMap λb=>(h.get? b).map λo=>(b,o)
theorem zcN {fp:List Addr} {h:Heap} {b:Addr} {o:Obj} (hb:b∈fp) (e:h.get? b=some o):(b,o)∈zht fp h:=List.mem_filterMap.mpr ⟨b,hb,by rw [e];rfl⟩
theorem zl6 {fp:List Addr} {h:Heap} {p:Addr×Obj} (hp:p∈zht fp h):p.1∈fp/\h.get? p.1=some p.2:=by
 obtain ⟨b,hb,e⟩:=List.mem_filterMap.mp hp
 cases q:h.get? b with
 | none=>rw [q] at e;cases e
 | some o=>
  rw [q] at e;have e':(b,o)=p:=Option.some.inj e;subst e';exact ⟨hb,q⟩
theorem Inv.pinned {pins:List (Addr×Obj)} {σ:St} {H:Hp} {s:Shared} {fp:List Addr} (I:Inv X pins σ H s) (hf:∀ b∈fp,FpOk X pins H b) (ho:∀ b∈fp,∃ o,s.heap.get? b=some o/\∀ v,o.data≠.cell v):Inv X (pins++zht fp s.heap) σ H s:=
 I.pins_of λp hp=>(List.mem_append.mp hp).elim (λz=>I.pin p (List.mem_append_right _ z)) λz=>by
  obtain ⟨hb,e⟩:=zl6 z;obtain ⟨f0,f1,f2,_⟩:=hf p.1 hb;obtain ⟨o,e',d⟩:=ho p.1 hb
  rw [e] at e';cases e'
  exact ⟨e,f0,f1,f2,d⟩
theorem Inv.unpinned {pins pl:List (Addr×Obj)} {σ:St} {H:Hp} {s:Shared} (I:Inv X (pins++pl) σ H s):Inv X pins σ H s:=I.pins_of λp hp=>I.pin p (List.mem_append_right _ (List.mem_append_left _ hp))
theorem zqc {iter:Expr} {body:List Stmt} {wi:TI} {g:TG} {tb:TS} {pos:Pos} (hp:PassesOwn (model X.prog X.w) X.A X.env X.xe) (hc:X.calm=true) (hi:PI X tg iter wi) (hg:PG X tg g) (hb:PSs X body tb)
  (hs:∀ x,foldedSetIterable iter X.env x=pure x:=by intro _;rfl):PS X (.For tg iter body [] pos) (tFor wi g tb):=by
 intro pins s σ H D I h;refine wpAny_For (thn (hi pins s σ H _ I h) λv s1 h1=>thn h1 λitv s2 h2=>?_) hs;obtain ⟨it,fp,tn,J,H2,e,I2,T,st2,f2,W,⟨m0,w0⟩,turn⟩:=h2;subst e;have stat:∀ {H':Hp},(∀ b∈fp,H' b=none)->∀ b∈fp,FpOk X pins H' b:=λhn b hb=>⟨hn b hb,(f2 b hb).2⟩;refine codeAny_forLoop_any (λn s'=>∃ i σ' H',Inv X pins σ' H' s'/\tn i s'.heap/\(∀ b∈fp,H' b=none)/\W i n σ' H') ?_ m0 ⟨0,σ,H2,I2,st2,λb hb=>(f2 b hb).1,w0⟩
 rintro n s3 ⟨i,σ3,H3,I3,st3,fr3,w3⟩
 rcases turn i n σ3 H3 w3 with ⟨stop,qn⟩ | ⟨go,N,hN,step⟩
 ·refine wpAny_passesOwn hp (thn (T.done X rfl rfl rfl hc i pins s3 σ3 H3 X.xe I3 (stat fr3) st3 stop) λr s4 q_=>?_)
  obtain ⟨hr,I4⟩:=q_;subst hr;exact wpAny_execs_nil ⟨σ3,H3,I4,qn⟩
 ·refine wpAny_passesOwn hp (thn (T.item X rfl rfl rfl hc i pins s3 σ3 H3 X.xe I3 (stat fr3) st3 go) λr s4 q_=>?_)
  obtain ⟨u,hr,h4⟩:=q_;subst hr;refine wpAny_passesOwn hp (thn h4 λ_ s5 q_=>?_);obtain ⟨x,H5,I5,r5,y5,st5,fr5⟩:=q_;have I5':=I5.pinned (stat fr5) (T.obj _ _ st5);refine wpAny_passesOwn hp (thn (hg _ s5 σ3 H5 x u _ I5' r5 (step x H5 y5)) λ_ s6 q_=>?_);obtain ⟨σ6,H6,I6,q6⟩:=q_;refine wpAny_passesOwn hp (thn (hb _ s6 σ6 H6 _ I6 q6) λf s7 q7=>?_)
  have again:∀ {σ7:St} {H7:Hp},Inv X (pins++zht fp s5.heap) σ7 H7 s7->N σ7 H7->∃ m,m<n/\∃ i σ' H',Inv X pins σ' H' s7/\tn i s7.heap/\(∀ b∈fp,H' b=none)/\W i m σ' H':=λ{σ7 H7} I7 n7=>by
   obtain ⟨m',hm,w7⟩:=hN σ7 H7 n7;refine ⟨m',hm,i+1,σ7,H7,I7.unpinned,T.keep _ _ _ st5 λb hb o e=>(I7.pin (b,o) (List.mem_append_right _ (List.mem_append_right _ (zcN hb e)))).1,λb hb=>?_,w7⟩;obtain ⟨o,e,d⟩:=T.obj _ _ st5 b hb;exact (I7.pin (b,o) (List.mem_append_right _ (List.mem_append_right _ (zcN hb e)))).2.1
  cases f with
  | next=>obtain ⟨σ7,H7,I7,n7⟩:=q7;exact again I7 n7
  | cont=>obtain ⟨σ7,H7,I7,n7⟩:=q7;exact again I7 n7
  | brk=>obtain ⟨σ7,H7,I7,q7⟩:=q7;exact ⟨σ7,H7,I7.unpinned,q7⟩
  | ret v=>obtain ⟨x7,σ7,H7,I7,r7,q7⟩:=q7;exact ⟨x7,σ7,H7,I7.unpinned,r7,q7⟩
end
noncomputable abbrev R2:=V->V->Hp->VK->Prop
noncomputable def OpR (X:Cx) (f:Value->Value->Sem Value) (r:R2):Prop:=
 ∀ (pins:List (Addr×Obj)) (s:Shared) (σ:St) (H:Hp) (x y:V) (v u:Value) (Q:VK),Inv X pins σ H s->RelV x v->RelV y u->r x y H Q →
  wpAny (model X.prog X.w) X.A (f v u) (EP X pins σ Q) X.xe s
noncomputable def UnR (X:Cx) (f:Value->Sem Value) (r:V->Hp->VK->Prop):Prop:=
 ∀ (pins:List (Addr×Obj)) (s:Shared) (σ:St) (H:Hp) (x:V) (v:Value) (Q:VK),Inv X pins σ H s->RelV x v->r x H Q →
  wpAny (model X.prog X.w) X.A (f v) (EP X pins σ Q) X.xe s
noncomputable def zdX (X:Cx) (f:Value) (r:List V->Hp->VK->Prop):Prop:=
 ∀ (pins:List (Addr×Obj)) (s:Shared) (σ:St) (H:Hp) (xs:List V) (us:List Value) (Q:VK),Inv X pins σ H s->Vals xs us->r xs H Q →
  wpAny (model X.prog X.w) X.A (call f us) (EP X pins σ Q) X.xe s
noncomputable def TruR (X:Cx) (r:V->Hp->(Bool->Hp->Prop)->Prop):Prop:=
 ∀ (pins:List (Addr×Obj)) (s:Shared) (σ:St) (H:Hp) (x:V) (v:Value) (Q:Bool->Hp->Prop),Inv X pins σ H s->RelV x v->r x H Q →
  wpAny (model X.prog X.w) X.A (truthy v) (TP X pins σ Q) X.xe s
noncomputable def tOp (r:R2) (ta tb:TE):TE:=λσ H Q=>ta σ H λx H1=>tb σ H1 λy H2=>r x y H2 Q
noncomputable def tUn (r:V->Hp->VK->Prop) (ta:TE):TE:=λσ H Q=>ta σ H λx H1=>r x H1 Q
noncomputable def rI (C:Int->Int->Prop) (g:Int->Int->V):R2:=λx y H Q=>∃ i j,x=.int i/\y=.int j/\C i j/\Q (g i j) H
noncomputable def rI0 (g:Int->Int->V):R2:=λx y H Q=>∃ i j,x=.int i/\y=.int j/\Q (g i j) H
noncomputable def rU (g:Int->V):V->Hp->VK->Prop:=λx H Q=>∃ i,x=.int i/\Q (g i) H
section
variable {X:Cx} {a b c:Expr} {ta tb tc:TE} {pos:Pos}
theorem binT (ha:PE X a ta) (hb:PE X b tb) {pins:List (Addr×Obj)} {s:Shared} {σ:St} {H:Hp} {R:V->V->Hp->Prop} (I:Inv X pins σ H s)
  (h:ta σ H λx H1=>tb σ H1 λy H2=>R x y H2) {Q:Value->Shared->Prop} {f:Value->Value->Sem Value}
  (hf:∀ v u s2 x y H2,Inv X pins σ H2 s2->RelV x v->RelV y u->R x y H2->wpAny (model X.prog X.w) X.A (f v u) Q X.xe s2) :
  wpAny (model X.prog X.w) X.A (eval a X.env) (λv s₁=>wpAny (model X.prog X.w) X.A (eval b X.env) (λu s₂=>wpAny (model X.prog X.w) X.A (f v u) Q X.xe s₂) X.xe s₁) X.xe s:=by
 refine thn (ha pins s σ H _ I h) λv s1 q_=>?_;obtain ⟨x,H1,I1,r1,q1⟩:=q_;refine thn (hb pins s1 σ H1 _ I1 q1) λu s2 q_=>?_;obtain ⟨y,H2,I2,r2,q2⟩:=q_;exact hf v u s2 x y H2 I2 r1 r2 q2
theorem ztR {op:Operator} {r:R2} (ho:OpR X (binaryOp op) r) (ha:PE X a ta) (hb:PE X b tb):PE X (.BinOp a op b pos) (tOp r ta tb):=by
 intro pins s σ H Q I h;exact wpAny_BinOp (binT ha hb I h λv u s2 x y H2 I2 rx ry q=>ho pins s2 σ H2 x y v u Q I2 rx ry q)
theorem zvE {op:UnaryOp} {r:V->Hp->VK->Prop} (ho:UnR X (unaryOp op) r) (ha:PE X a ta):PE X (.UnaryOp op a pos) (tUn r ta):=by
 intro pins s σ H Q I h;exact UnaryOp_ (thn (ha pins s σ H _ I h) λv s1 ⟨x,H1,I1,r1,q1⟩=>ho pins s1 σ H1 x v Q I1 r1 q1)
theorem opI {f:Value->Value->Sem Value} {C:Int->Int->Prop} {g:Int->Int->Int}
  (rule:∀ (i j:Int) (t u:Tok) (s:Shared) (Q:Value->Shared->Prop) (E:Value->Shared->Prop),C i j->Q (.int (g i j) s.toks) { s with toks:=s.toks+1 }->wpAny (model X.prog X.w) X.A (f (.int i t) (.int j u)) Q E s) :
  OpR X f (rI C λi j=>.int (g i j)):=by
 intro pins s σ H x y v u Q I rx ry h;obtain ⟨i,j,rfl,rfl,hc,q⟩:=h;obtain ⟨t,rfl⟩:=rx;obtain ⟨t',rfl⟩:=ry;exact rule i j t t' s _ _ hc ⟨.int (g i j),H,I.tok _,⟨_,rfl⟩,q⟩
theorem opI0 {f:Value->Value->Sem Value} {g:Int->Int->Int}
  (rule:∀ (i j:Int) (t u:Tok) (s:Shared) (Q:Value->Shared->Prop) (E:Value->Shared->Prop),Q (.int (g i j) s.toks) { s with toks:=s.toks+1 }->wpAny (model X.prog X.w) X.A (f (.int i t) (.int j u)) Q E s) :
  OpR X f (rI0 λi j=>.int (g i j)):=by
 intro pins s σ H x y v u Q I rx ry h;obtain ⟨i,j,rfl,rfl,q⟩:=h;obtain ⟨t,rfl⟩:=rx;obtain ⟨t',rfl⟩:=ry;exact rule i j t t' s _ _ ⟨.int (g i j),H,I.tok _,⟨_,rfl⟩,q⟩
theorem opB0 {f:Value->Value->Sem Value} {g:Int->Int->Bool}
  (rule:∀ (i j:Int) (t u:Tok) (s:Shared) (Q:Value->Shared->Prop) (E:Value->Shared->Prop),Q (.bool (g i j)) s->wpAny (model X.prog X.w) X.A (f (.int i t) (.int j u)) Q E s) :
  OpR X f (rI0 λi j=>.bl (g i j)):=by
 intro pins s σ H x y v u Q I rx ry h;obtain ⟨i,j,rfl,rfl,q⟩:=h;obtain ⟨t,rfl⟩:=rx;obtain ⟨t',rfl⟩:=ry;exact rule i j t t' s _ _ ⟨.bl (g i j),H,I,rfl,q⟩
noncomputable def CPow (i j:Int):Prop:=0<=j/\j<=1000000/\i.natAbs<2 ^ 64
noncomputable def CMul (i j:Int):Prop:=(-(2 ^ 64)<i/\i<2 ^ 64)\/(-(2 ^ 64)<j/\j<2 ^ 64)
theorem CMul.ok {i j:Int} (h:CMul i j):IntMulOk i j:=by
 rcases h with ⟨h1,h2⟩ | ⟨h1,h2⟩
 ·exact .of_left (intBits_le_64 h1 h2)
 ·exact .of_right (intBits_le_64 h1 h2)
theorem zud:OpR X (binaryOp .Add) (rI0 λi j=>.int (i+j)):=opI0 λ_ _ _ _ _ _ _ q=>add_int q
theorem zsh:OpR X (binaryOp .Sub) (rI0 λi j=>.int (i-j)):=opI0 λ_ _ _ _ _ _ _ q=>sub_int q
theorem zsq:OpR X (binaryOp .Mult) (rI CMul λi j=>.int (i*j)):=opI λ_ _ _ _ _ _ _ hc q=>mul_int q hc.ok
theorem zup:OpR X (binaryOp .Mod) (rI (λ_ j=>0<j) λi j=>.int (i % j)):=opI λi j _ _ _ _ _ hc q=>by
 have h1:(0:Int)<j:=hc
 exact mod_int' (by omega) (by rw [Int.fmod_eq_emod_of_nonneg i (by omega)];exact q)
theorem ztA:OpR X (binaryOp .Pow) (rI CPow λi j=>.int (i ^ j.toNat)):=opI λ_ _ _ _ _ _ _ hc q=>pow_int_small hc.1 hc.2.1 hc.2.2 q
theorem zsC:OpR X (binaryOp .BitAnd) (rI0 λi j=>.int (Builtin.bitAnd i j)):=opI0 λ_ _ _ _ _ _ _ q=>and_int q
theorem zvk:OpR X (binaryOp .BitOr) (rI0 λi j=>.int (Builtin.bitOr i j)):=opI0 λ_ _ _ _ _ _ _ q=>or_int q
theorem unI {f:Value->Sem Value} {g:Int->Int}
  (rule:∀ (i:Int) (t:Tok) (s:Shared) (Q:Value->Shared->Prop) (E:Value->Shared->Prop),Q (.int (g i) s.toks) { s with toks:=s.toks+1 }->wpAny (model X.prog X.w) X.A (f (.int i t)) Q E s) :
  UnR X f (rU λi=>.int (g i)):=by
 intro pins s σ H x v Q I rx h;obtain ⟨i,rfl,q⟩:=h;obtain ⟨t,rfl⟩:=rx;exact rule i t s _ _ ⟨.int (g i),H,I.tok _,⟨_,rfl⟩,q⟩
theorem zsw:UnR X (unaryOp .USub) (rU λi=>.int (-i)):=unI λ_ _ _ _ _ q=>neg_int q
end
section
variable {X:Cx} {a b c:Expr} {ta tb tc:TE} {pos:Pos}
theorem zjT {pins:List (Addr×Obj)} {σ:St} {H:Hp} {s:Shared} {Q:VK} {k k':Bool} (I:Inv X pins σ H s) (q:Q (.bl k) H) (e:k=k'):EP X pins σ Q (.bool k') s:=by
 subst e;exact ⟨.bl k,H,I,rfl,q⟩
theorem zu6:OpR X (compareOp .Lt) (rI0 λi j=>.bl (decide (i<j))):=opB0 λ_ _ _ _ _ _ _ q=>lt_int q
theorem zvv:OpR X (compareOp .LtE) (rI0 λi j=>.bl (decide (i<=j))):=opB0 λ_ _ _ _ _ _ _ q=>le_int q
theorem zvo:OpR X (compareOp .Gt) (rI0 λi j=>.bl (decide (j<i))):=opB0 λ_ _ _ _ _ _ _ q=>gt_int q
theorem zvt:OpR X (compareOp .GtE) (rI0 λi j=>.bl (decide (j<=i))):=opB0 λ_ _ _ _ _ _ _ q=>ge_int q
theorem zmr:OpR X (compareOp .In) (λx y H Q=>∃ i j,x=.str i/\y=.str j/\Q (.bl (!(Builtin.Str.occurrences j i 0 j.length 1).isEmpty)) H):=by
 intro pins s σ H x y v u Q I rx ry h;obtain ⟨i,j,rfl,rfl,q⟩:=h;obtain ⟨t,rfl⟩:=rx;obtain ⟨t',rfl⟩:=ry;exact in_str (zjT I q rfl)
theorem zsB:OpR X (compareOp .Is) (λx y H Q=>y=.non/\Q (.bl (decide (x=.non))) H):=by
 intro pins s σ H x y v u Q I rx ry h;obtain ⟨rfl,q⟩:=h;cases ry;refine is_none_gen (zjT I q ?_)
 cases x<;>first
  | (cases rx;rfl)
  | (obtain ⟨t,rfl⟩:=rx;rfl)
theorem zqA:OpR X (compareOp .IsNot) (λx y H Q=>y=.non/\Q (.bl (!decide (x=.non))) H):=by
 intro pins s σ H x y v u Q I rx ry h;obtain ⟨rfl,q⟩:=h;cases ry;refine isnot_none_gen (zjT I q ?_)
 cases x<;>first
  | (cases rx;rfl)
  | (obtain ⟨t,rfl⟩:=rx;rfl)
theorem zhG:OpR X (compareOp .NotIn) (λx y H Q=>∃ i j,x=.str i/\y=.str j/\Q (.bl (!(!(Builtin.Str.occurrences j i 0 j.length 1).isEmpty))) H):=by
 intro pins s σ H x y v u Q I rx ry h;obtain ⟨i,j,rfl,rfl,q⟩:=h;obtain ⟨t,rfl⟩:=rx;obtain ⟨t',rfl⟩:=ry;exact notIn_str (zjT I q rfl)
theorem OpR.or {f:Value->Value->Sem Value} {r r':R2} (h:OpR X f r) (h':OpR X f r'):OpR X f (λx y H Q=>r x y H Q\/r' x y H Q):=by
 intro pins s σ H x y v u Q I rx ry q
 rcases q with q | q
 ·exact h pins s σ H x y v u Q I rx ry q
 ·exact h' pins s σ H x y v u Q I rx ry q
theorem zvL (b:Expr) {op:CmpOp} (h:op≠.In:=by decide) (h2:op≠.NotIn:=by decide):behindInMarks op b=false:=by
 have e1:(op==CmpOp.In)=false:=by cases op<;>first | rfl | exact absurd rfl h
 have e2:(op==CmpOp.NotIn)=false:=by cases op<;>first | rfl | exact absurd rfl h2
 cases b<;>simp [behindInMarks,e1,e2]
theorem zqL {op:CmpOp} {r:R2} (ho:OpR X (compareOp op) r) (ha:PE X a ta) (hb:PE X b tb) (hm:behindInMarks op b=false):PE X (.Compare a [op] [b] pos) (tOp r ta tb):=by
 intro pins s σ H Q I h;exact wpAny_Compare1 (binT ha hb I h λv u s2 x y H2 I2 rx ry q=>ho pins s2 σ H2 x y v u Q I2 rx ry q) hm
noncomputable def zva (t:TE):TT:=λσ H Q=>t σ H λx H'=>∃ k,x=.bl k/\Q k H'
theorem zqF {op:CmpOp} {r:R2} (ho:OpR X (compareOp op) r) (ha:PE X a ta) (hb:PE X b tb) (hm:behindInMarks op b=false):PT X (.Compare a [op] [b] pos) (zva (tOp r ta tb)):=by
 intro pins s σ H Q I h
 refine wpAny_isTrue_Compare1 (thn (ha pins s σ H _ I h) λv s1 ⟨x,H1,I1,r1,q1⟩=>thn (hb pins s1 σ H1 _ I1 q1) λu s2 ⟨y,H2,I2,r2,q2⟩=>
  thn (ho pins s2 σ H2 x y v u _ I2 r1 r2 q2) λc s3 ⟨z,H3,I3,r3,k,e,q3⟩=>?_) hm
 subst e;cases r3;exact wpAny_truthy_bool ⟨H3,I3,q3⟩
noncomputable def TruV (K:PySem.W.Frag) (x:V) (H:Hp) (k:Bool):Prop:=
 match x with
 | .non=>k=false
 | .bl b=>k=b
 | .int i=>k=(i != 0)
 | .str y=>y.length<=sizeLine/\k=((y.length:Int) != 0)
 | .byt y=>y.size<=sizeLine/\k=((y.size:Int) != 0)
 | .ref p=>(∃ xs,SqL K H p xs/\k=!xs.isEmpty)\/(∃ xs,SqT K H p xs/\k=!xs.isEmpty)\/∃ kvs,H p=some (.dK kvs)/\k=!kvs.isEmpty
 | _=>False
theorem zk5 {κ:Type} {kvs:List (κ×V)} {vs:List (κ×Value)} (r:KV kvs vs):(!vs.isEmpty)=!kvs.isEmpty:=by
 cases r<;>rfl
theorem zcO {xs:List V} {its:List Value} (r:Vals xs its):(!its.toArray.isEmpty)=!xs.isEmpty:=by
 cases r<;>simp
theorem zfS:(sizeLine:Nat)<2 ^ 63:=by rw [sizeLine_eq];decide
theorem zsp:TruR X (λx H Q=>∃ k,TruV X.K x H k/\Q k H):=by
 intro pins s σ H x v Q I rx h;obtain ⟨k,e,q⟩:=h;have hl:=zfS;have hs:sizeLine=16777216:=sizeLine_eq
 cases x with
 | non=>
  cases rx;have e':k=false:=e;subst e';exact truthy_none ⟨H,I,q⟩
 | bl b=>
  cases rx;have e':k=b:=e;subst e';exact wpAny_truthy_bool ⟨H,I,q⟩
 | int i=>
  obtain ⟨t,rfl⟩:=rx;have e':k=(i != 0):=e;subst e';exact PySem.P.truthy_int ⟨H,I,q⟩
 | str y=>
  obtain ⟨t,rfl⟩:=rx;obtain ⟨hy,e'⟩:y.length<=sizeLine/\k=((y.length:Int) != 0):=e;subst e';exact PySem.P.truthy_str (by omega) ⟨H,I.tok _,q⟩
 | byt y=>
  obtain ⟨t,rfl⟩:=rx;obtain ⟨hy,e'⟩:y.size<=sizeLine/\k=((y.size:Int) != 0):=e;subst e';exact PySem.W.truthy_bytes (by omega) ⟨H,I.tok _,q⟩
 | ref p=>
  cases rx;have e':(∃ xs,SqL X.K H p xs/\k=!xs.isEmpty)\/(∃ xs,SqT X.K H p xs/\k=!xs.isEmpty)\/∃ kvs,H p=some (.dK kvs)/\k=!kvs.isEmpty:=e
  rcases e' with ⟨xs,hx,e'⟩ | ⟨xs,hx,e'⟩ | ⟨kvs,hx,e'⟩
  ·subst e'
   obtain ⟨its,r,pl,hz⟩:=I.list hx;have hlen:=r.length
   exact wpAny_truthy_list pl.isList (by simp only [List.size_toArray];omega) ⟨H,I.tok _,by rw [zcO r];exact q⟩
  ·subst e'
   obtain ⟨its,r,pl,hz⟩:=I.tuple hx;have hlen:=r.length
   exact truthy_tuple pl (by simp only [List.size_toArray];omega) ⟨H,I.tok _,by rw [zcO r];exact q⟩
  ·subst e'
   obtain ⟨hz,hS,vs,r,m⟩:kvs.length<=sizeLine/\(p==sysModules)=false/\∃ vs,KV kvs vs/\s.heap.DictOf (zmt X.prog X.w) p vs:=I.hok p _ hx;have hlen:kvs.length=vs.length:=Paired.length r
   exact wpAny_truthy_dict hS m (by omega) ⟨H,I.tok _,by rw [zk5 r];exact q⟩
 | _=>exact (show False from e).elim
theorem zoP (ha:PE X a ta) (he:∀ whole,isTrue a X.env whole=(do let v<-whole;standAt a.pos;holding [v] (truthy v))) :
  PT X a (λσ H Q=>ta σ H λx H'=>∃ k,TruV X.K x H' k/\Q k H'):=by
 intro pins s σ H Q I h;exact isTrue_plain (thn (ha pins s σ H _ I h) λv s1 ⟨x,H1,I1,r1,q1⟩=>zsp pins s1 σ H1 x v Q I1 r1 q1) (he _)
theorem zk9:OpR X (binaryOp .Add) (λx y H Q=>∃ i j,x=.str i/\y=.str j/\i.length+j.length<=sizeLine/\Q (.str (i++j)) H):=by
 intro pins s σ H x y v u Q I rx ry h;obtain ⟨i,j,rfl,rfl,hz,q⟩:=h;obtain ⟨t,rfl⟩:=rx;obtain ⟨t',rfl⟩:=ry;exact add_str (λt' tk=>⟨.str (i++j),H,I.tok _,⟨_,rfl⟩,q⟩) hz
theorem zhm {x:V} {us:List Value} (r:Vals [x] us):∃ u,us=[u]/\RelV x u:=by
 cases r with
 | cons r1 r2=>cases r2;exact ⟨_,rfl,r1⟩
theorem zh5:zdX X (.type "int") (λxs H Q=>(∃ i,xs=[.int i]/\Q (.int i) H)\/∃ k,xs=[.bl k]/\Q (.int (if k then 1 else 0)) H):=by
 intro pins s σ H xs us Q I r h
 rcases h with ⟨i,rfl,q⟩ | ⟨k,rfl,q⟩
 ·obtain ⟨u,rfl,t,rfl⟩:=zhm r
  exact call_int_int ⟨.int i,H,I,⟨_,rfl⟩,q⟩
 ·obtain ⟨u,rfl,r1⟩:=zhm r
  cases r1;exact call_int_bool ⟨.int (if k then 1 else 0),H,I.tok _,⟨_,rfl⟩,q⟩
noncomputable def LenV (K:PySem.W.Frag) (x:V) (H:Hp) (n:Nat):Prop:=
 match x with
 | .str y=>y.length<=sizeLine/\n=y.length
 | .byt y=>y.size<=sizeLine/\n=y.size
 | .ref p=>(∃ xs,SqL K H p xs/\n=xs.length)\/∃ xs,SqT K H p xs/\n=xs.length
 | _=>False
theorem zeJ:zdX X (.builtin "len") (λxs H Q=>∃ x n,xs=[x]/\LenV X.K x H n/\Q (.int n) H):=by
 intro pins s σ H xs us Q I r h;obtain ⟨x,n,rfl,e,q⟩:=h;obtain ⟨u,rfl,rx⟩:=zhm r;have hl:=zfS;have hs:sizeLine=16777216:=sizeLine_eq
 cases x with
 | str y=>
  obtain ⟨t,rfl⟩:=rx;obtain ⟨hy,e'⟩:y.length<=sizeLine/\n=y.length:=e;subst e';exact len_str (by omega) ⟨.int _,H,I.tok _,⟨_,rfl⟩,q⟩
 | byt y=>
  obtain ⟨t,rfl⟩:=rx;obtain ⟨hy,e'⟩:y.size<=sizeLine/\n=y.size:=e;subst e';exact PySem.W.len_bytes (by omega) ⟨.int _,H,I.tok _,⟨_,rfl⟩,q⟩
 | ref p=>
  cases rx;have e':(∃ xs,SqL X.K H p xs/\n=xs.length)\/∃ xs,SqT X.K H p xs/\n=xs.length:=e
  rcases e' with ⟨xs,hx,e'⟩ | ⟨xs,hx,e'⟩
  ·subst e'
   obtain ⟨its,r',pl,hz⟩:=I.list hx;have hlen:=r'.length
   exact Calls.call_len_list pl.isList (by simp only [List.size_toArray];omega) ⟨.int xs.length,H,I.tok _,⟨_,by simp only [List.size_toArray];rw [hlen]⟩,q⟩
  ·subst e'
   obtain ⟨its,r',pl,hz⟩:=I.tuple hx;have hlen:=r'.length
   exact len_tuple pl (by simp only [List.size_toArray];omega) ⟨.int xs.length,H,I.tok _,⟨_,by simp only [List.size_toArray];rw [hlen]⟩,q⟩
 | _=>exact (show False from e).elim
end
structure ObjM (h:Heap) (x dx C:Addr) (mA:Str->Option Value):Prop where
 obj:h.get? x=some (PySem.W.instObj C dx)
 ns:h.Ns1 dx mA
 ne:dx≠x
theorem zlP {h:Heap} {dx:Addr} {mA:Str->Option Value} (n:h.Ns1 dx mA):∃ od,h.get? dx=some od/\∀ name,PySem.W.lookIn name od=some (mA name):=by
 obtain ⟨o,es,ep,ho,hd,hk,_,hm⟩:=n;refine ⟨o,ho,λname=>?_⟩;have e:=hm name;unfold nsFind findBy at e;rw [<-Array.find?_toList] at e;unfold PySem.W.lookIn;rw [hd];dsimp only
 split
 ·rename_i y q
  rw [q] at e;exact congrArg some e
 ·rename_i q
  rw [q] at e
  have a:es.toList.any (·.refKey)=false:=by
   rw [List.any_eq_false];intro y hy;obtain ⟨z,t,hkey⟩:=hk y (Array.mem_toList_iff.mp hy);simp [DictEntry.refKey,hkey]
  have a':¬ es.toList.any (·.refKey)=true:=by rw [a];exact Bool.false_ne_true
  rw [if_neg a'];exact congrArg some e
theorem ObjM.look {h:Heap} {x dx C:Addr} {mA:Str->Option Value} (I:ObjM h x dx C mA):∃ od,PySem.W.InstAt h x (PySem.W.instObj C dx) C (some od)/\∀ name,PySem.W.lookIn name od=some (mA name):=
 let ⟨od,ho,hl⟩:=zlP I.ns
 ⟨od,⟨I.obj,rfl,rfl,ho⟩,hl⟩
section
variable {prog:Program} {w:World} {A:Around} {E:Value->Shared->Prop} {s:Shared} {K:PySem.W.Frag} {x dx C f:Addr} {mA:Str->Option Value} {name:Str} {v:Value}
theorem zqK {expr:Bool} {Q:Value->Shared->Prop} (X:K.In s.heap) (I:ObjM s.heap x dx C mA) (hg:PySem.W.plainGet K C name=true) (hh:PySem.W.hasDictIn K C=true)
  (ha:PySem.W.findIn K (.ref C) name=some none) (hv:mA name=some v) (hv':PySem.W.handedIn v=true) (h:Q v { s with toks:=s.toks+1 }) :
  wpAny (model prog w) A (getAttr (.ref x) name expr) Q E s:=by
 obtain ⟨od,J,hl⟩:=I.look;exact PySem.W.get_value X J (PySem.W.plainGet_of hg).1 (PySem.W.findObj_own hh ha rfl (by rw [hl,hv])) hv' h
theorem znS {pl:Sem Bool} {Q:Value×List Value->Shared->Prop} (X:K.In s.heap) (I:ObjM s.heap x dx C mA) (hg:PySem.W.plainGet K C name=true)
  (hf:PySem.W.findIn K (.ref C) name=some (some (.ref f))) (ht:PySem.W.isFn K (.ref f)=true) (hv:mA name=none) (h:Q (.ref f,[.ref x]) s) :
  wpAny (model prog w) A (getMethod (.ref x) name pl) Q E s:=by
 obtain ⟨od,J,hl⟩:=I.look
 exact PySem.W.method_fn X J (PySem.W.plainGet_of hg).1 (PySem.W.plainGet_of hg).2 hf (beq_iff_eq.mp ht) (by show (PySem.W.lookIn name od).map (·.isSome)=some false;rw [hl,hv];rfl) h
theorem zqP {ns:List Str} {Q:Unit->Shared->Prop} (X:K.In s.heap) (I:ObjM s.heap x dx C mA)
  (hs:PySem.W.findIn K (.ref C) "__setattr__"=some (some (.builtin "object.__setattr__"))) (hp:PySem.W.plainOver K C=true) (ht:PySem.W.takerIn K C name=some none) (hh:PySem.W.hasDictIn K C=true)
  (hw:PySem.Within mA ns) (hsz:ns.length<=sizeLine)
  (h:∀ h',ObjM h' x dx C (λy=>if y=name then some v else mA y)->Heap.SameBut dx s.heap h'->Q () { s with heap:=h',toks:=s.toks+2 }) :
  wpAny (model prog w) A (setAttr (.ref x) name v) Q E s:=by
 obtain ⟨od,J,hl⟩:=I.look;refine PySem.W.set_plain X J hs (PySem.W.osa_open (s:={ s with toks:=s.toks+1 }) (r:=none) X J hp ht λb=>?_);obtain ⟨cd,hc,hd'⟩:=PySem.W.any_some hh;have hx:s.heap.get? x=some ⟨.ref C,some dx,.plain,#[]⟩:=I.obj;refine wpAny_bind (wpAny_pure (wpAny_bind (wpAny_bind (wpAny_loadPart hx (wpAny_bind (PySem.W.Looks.here (s:={ s with toks:=s.toks+1 }) (PySem.W.looks_clsIn X hc) ?_))))));rw [hd'];refine wpAny_pure (a:=some dx) (wpAny_bind (wpAny_pure (wpAny_bind ?_)));refine wpAny_nsSet1 (s:={ s with toks:=s.toks+1 }) I.ns λh' hn2 hs2=>?_;obtain ⟨oD,esD,epD,hoD,hdD,hcD⟩:=hn2.count (PySem.Within.cons name v hw)
 refine wpAny_bind (wpAny_lookBehind hoD (by rw [hdD];exact pastItsLine_dict (Nat.le_trans hcD (by rw [List.length_cons];omega))) ?_)
 exact wpAny_pure (h _ ⟨(hs2.2 _ (Ne.symm I.ne)).trans I.obj,hn2,I.ne⟩ hs2)
theorem zph {R:Result->Shared->Prop} {vs:List Value} {kw:List (Str×Value)} (X:K.In s.heap) (hm:PySem.W.makesIn K C=true)
  (hi:PySem.W.findIn K (.ref C) "__init__"=some (some (.ref f))) (hf:PySem.W.typeIn K (.ref f)=some (.type "function"))
  (h:codeAny (model prog w) (A.under (.builtin "type.__call__" ⟨.ref C::vs,kw⟩)) (.call (.ref f) ⟨.ref (s.heap.objs.size+1)::vs,kw⟩) (PySem.W.InitBack (s.heap.objs.size+1) R)
   { s with heap:=(s.heap.push PySem.W.emptyDict).push (PySem.W.instObj C s.heap.objs.size) }) :
  codeAny (model prog w) A (.call (.ref C) ⟨vs,kw⟩) R s:=by
 obtain ⟨hh,g,d,t,os⟩:=s;exact PySem.W.make_core (PySem.W.makes_of X hm) (PySem.W.looks_findIn X hi) (λself=>PySem.W.bind_fn X self hf) (.inl rfl) h
end
noncomputable def putF (f:Str) (v:V):List (Str×V)->List (Str×V)
  | []=>[(f,v)]
  | (g,x)::r=>if g=f then (g,v)::r else (g,x)::putF f v r
theorem zfM (f g:Str) (v:V):∀ fs:List (Str×V),(putF f v fs).lookup g=if g=f then some v else fs.lookup g
  | [] => by
    show List.lookup g [(f,v)]=_
    by_cases h:g=f
    · have hb:(g==f)=true:=beq_iff_eq.mpr h
      simp only [List.lookup,hb,if_pos h]
    · have hb:(g==f)=false:=beq_eq_false_iff_ne.mpr h
      simp only [List.lookup,hb,if_neg h]
  | (k, x)::r=>by
    have ih:=zfM f g v r;rw [show putF f v ((k,x)::r)=(if k=f then (k,v)::r else (k,x)::putF f v r) from rfl]
    by_cases hk:k=f
    · rw [if_pos hk]
      by_cases h:g=k
      · have hb:(g==k)=true:=beq_iff_eq.mpr h
        simp only [List.lookup,hb,if_pos (h.trans hk)]
      · have hb:(g==k)=false:=beq_eq_false_iff_ne.mpr h
        simp only [List.lookup,hb,if_neg (λe:g=f=>h (e.trans hk.symm))]
    · rw [if_neg hk]
      by_cases h:g=k
      · have hb:(g==k)=true:=beq_iff_eq.mpr h
        simp only [List.lookup,hb,if_neg (λe:g=f=>hk (h.symm.trans e))]
      · have hb:(g==k)=false:=beq_eq_false_iff_ne.mpr h
        simp only [List.lookup,hb];exact ih
theorem zfT (f:Str) (v:V):∀ fs:List (Str×V),f∈(putF f v fs).map (·.1)/\∀ g,g∈fs.map (·.1)->g∈(putF f v fs).map (·.1)
  | []=>⟨by simp [putF],λg h=>by simp at h⟩
  | (k, x)::r=>by
    obtain ⟨i1,i2⟩:=zfT f v r;rw [show putF f v ((k,x)::r)=(if k=f then (k,v)::r else (k,x)::putF f v r) from rfl]
    by_cases hk:k=f
    · rw [if_pos hk]
      subst hk;exact ⟨by simp,λg h=>by simpa using h⟩
    · rw [if_neg hk]
      refine ⟨?_,λg h=>?_⟩
      · rw [List.map_cons]
        exact List.mem_cons_of_mem _ i1
      · rw [List.map_cons] at h ⊢
        rcases List.mem_cons.mp h with e | e
        · exact List.mem_cons.mpr (.inl e)
        · exact List.mem_cons_of_mem _ (i2 g e)
theorem zfK (f:Str) (v:V):∀ fs:List (Str×V),(putF f v fs).length<=fs.length+1
  | []=>by simp [putF]
  | (k,x)::r=>by
    have ih:=zfK f v r;rw [show putF f v ((k,x)::r)=(if k=f then (k,v)::r else (k,x)::putF f v r) from rfl]
    by_cases hk:k=f
    · rw [if_pos hk,List.length_cons,List.length_cons];omega
    · rw [if_neg hk,List.length_cons,List.length_cons];omega
theorem RelO.some_of {v:V} {o:Option Value} (r:RelO (some v) o):∃ u,o=some u/\RelV v u:=by
 cases o with
 | none=>exact (show False from r).elim
 | some u=>exact ⟨u,rfl,r⟩
theorem RelO.none_of {o:Option Value} (r:RelO none o):o=none:=by
 cases o with
 | none=>rfl
 | some u=>exact (show False from r).elim
theorem zmH {v:V} {u:Value} (r:RelV v u):PySem.W.handedIn u=true:=by
 cases v with
 | non=>cases (show u=Value.none from r);rfl
 | bl b=>cases (show u=Value.bool b from r);rfl
 | int i=>obtain ⟨t,e⟩:=(show ∃ t,u=Value.int i t from r);cases e;rfl
 | str x=>obtain ⟨t,e⟩:=(show ∃ t,u=Value.str x t from r);cases e;rfl
 | byt b=>obtain ⟨t,e⟩:=(show ∃ t,u=Value.bytes b t from r);cases e;rfl
 | flt b=>obtain ⟨t,e⟩:=(show ∃ t,u=Value.float b t from r);cases e;rfl
 | ref a=>cases (show u=Value.ref a from r);rfl
 | ty n=>cases (show u=Value.type n from r);rfl
section
variable {P:Program} {w:World} {H H':Hp} {h h':Heap} {a C dx:Addr} {fs fs':List (Str×V)}
theorem ziI (hok:HOk P w H h) (e:H a=some (.ins C dx fs)):∃ mA,ObjM h a dx C mA/\(∀ f,RelO (fs.lookup f) (mA f))/\PySem.Within mA (fs.map (·.1))/\fs.length<=1000/\H dx=some (.own a):=by
 obtain ⟨d,z,ne,ob,mA,n,r,q⟩:=(show zb2 P w H h a (.ins C dx fs) from hok a _ e);exact ⟨mA,⟨ob,n,ne⟩,r,q,z,d⟩
end
structure Cls (K:PySem.W.Frag) (C:Addr):Prop where
 pg:PySem.W.plainGet K C Str.empty=true
 hd:PySem.W.hasDictIn K C=true
 po:PySem.W.plainOver K C=true
 sa:PySem.W.findIn K (.ref C) "__setattr__"=some (some (.builtin "object.__setattr__"))
theorem Cls.get {K:PySem.W.Frag} {C:Addr} (c:Cls K C) (f:Str):PySem.W.plainGet K C f=true:=c.pg
noncomputable def zbR (K:PySem.W.Frag) (C:Addr) (f:Str):Prop:=PySem.W.findIn K (.ref C) f=some none
theorem zbR.taker {K:PySem.W.Frag} {C:Addr} {f:Str} (n:zbR K C f):PySem.W.takerIn K C f=some none:=by
 unfold PySem.W.takerIn;rw [show PySem.W.findIn K (.ref C) f=some none from n];rfl
structure Meth (K:PySem.W.Frag) (C:Addr) (m:Str) (f:Addr):Prop where
 at_:PySem.W.findIn K (.ref C) m=some (some (.ref f))
 fn:PySem.W.isFn K (.ref f)=true
 kp:PySem.W.keepIn K (.ref f)=true
section
variable {X:Cx} {pins:List (Addr×Obj)} {σ:St} {H:Hp} {s:Shared} {a C dx:Addr} {fs:List (Str×V)} {f:Str} {v:V} {A:Around} {E:Value->Shared->Prop}
theorem zkJ {b:Bool} {Q:Value->Shared->Prop} (I:Inv X pins σ H s) (e:H a=some (.ins C dx fs)) (c:Cls X.K C) (n:zbR X.K C f) (l:fs.lookup f=some v)
  (h:∀ u s',Inv X pins σ H s'->RelV v u->Q u s'):wpAny (model X.prog X.w) A (getAttr (.ref a) f b) Q E s:=by
 obtain ⟨mA,O,r,_,_,_⟩:=ziI I.hok e
 obtain ⟨u,hu,ru⟩:=RelO.some_of (v:=v) (o:=mA f) (by rw [<-l];exact r f)
 exact zqK I.kIn O (c.get f) c.hd n hu (zmH ru) (h u _ (I.tok _) ru)
theorem zgr {m:Str} {g:Addr} {pl:Sem Bool} {Q:Value×List Value->Shared->Prop} (I:Inv X pins σ H s) (e:H a=some (.ins C dx fs)) (c:Cls X.K C) (k:Meth X.K C m g) (l:fs.lookup m=none)
  (h:Q (.ref g,[.ref a]) s):wpAny (model X.prog X.w) A (getMethod (.ref a) m pl) Q E s:=by
 obtain ⟨mA,O,r,_,_,_⟩:=ziI I.hok e
 have hn:mA m=none:=RelO.none_of (by rw [<-l];exact r m)
 exact znS I.kIn O (c.get m) k.at_ k.fn hn h
theorem zkE {y:V} {u:Value} {Q:Unit->Shared->Prop} (I:Inv X pins σ H s) (e:H a=some (.ins C dx fs)) (c:Cls X.K C) (n:zbR X.K C f) (hl:fs.length<1000) (ry:RelV y u)
  (h:∀ s',Inv X pins σ (upd H a (.ins C dx (putF f y fs))) s'->Q () s'):wpAny (model X.prog X.w) A (setAttr (.ref a) f u) Q E s:=by
 obtain ⟨mA,O,r,wi,_,ho⟩:=ziI I.hok e
 have hz:(fs.map (·.1)).length<=sizeLine:=by rw [List.length_map,sizeLine_eq];omega
 refine zqP I.kIn O c.sa c.po n.taker c.hd wi hz λh' O' sb=>h _ ?_
 have hd:∃ o,h'.get? dx=some o:=let ⟨o,_,_,e',_⟩:=O'.ns;⟨o,e'⟩
 refine I.write (x:=a) (e:=dx) (by rw [e];exact True.intro) (.inr ho) (λb q hb z=>(sb.2 b hb).trans z) hd ?_
 refine ⟨by rw [zam O.ne];exact ho,?_,O.ne,O'.obj,_,O'.ns,λg=>?_,λg hg=>?_⟩
 ·have:=zfK f y fs;omega
 ·show RelO ((putF f y fs).lookup g) (if g=f then some u else mA g)
  rw [zfM]
  by_cases q:g=f
  ·rw [if_pos q,if_pos q];exact ry
  ·rw [if_neg q,if_neg q];exact r g
 ·by_cases q:g=f
  ·rw [q];exact (zfT f y fs).1
  ·refine (zfT f y fs).2 g (wi g λz=>hg ?_)
   show (if g=f then some u else mA g)=none
   rw [if_neg q];exact z
theorem Inv.made (I:Inv X pins σ H s):Inv X pins σ (upd (upd H s.heap.objs.size (.own (s.heap.objs.size+1))) (s.heap.objs.size+1) (.ins C s.heap.objs.size []))
  { s with heap:=(s.heap.push PySem.W.emptyDict).push (PySem.W.instObj C s.heap.objs.size) }:=by
 have e1:(s.heap.push PySem.W.emptyDict).get? s.heap.objs.size=some PySem.W.emptyDict:=Heap.get?_push_size s.heap rfl
 have e2:((s.heap.push PySem.W.emptyDict).push (PySem.W.instObj C s.heap.objs.size)).get? (s.heap.objs.size+1)=some (PySem.W.instObj C s.heap.objs.size):=by
  have:=Heap.get?_push_size (s.heap.push PySem.W.emptyDict) (o:=PySem.W.instObj C s.heap.objs.size) rfl
  rwa [Heap.size_push] at this
 have e3:(s.heap.push PySem.W.emptyDict).Ns s.heap.objs.size (λ_=>none):=⟨PySem.W.emptyDict,#[],_,e1,rfl,(λe he=>absurd he (by simp)),λ_=>rfl⟩;have I1:=I.laid (a:=s.heap.objs.size) (o:=.own (s.heap.objs.size+1)) (h':=s.heap.push PySem.W.emptyDict) (t':=s.toks) (λb u q=>Heap.get?_push_of_some _ q) (Nat.le_refl _) ⟨_,e1⟩;refine I1.laid (a:=s.heap.objs.size+1) (o:=.ins C s.heap.objs.size []) (t':=s.toks) (λb u q=>Heap.get?_push_of_some _ q) (Nat.le_of_eq (Heap.size_push _ _)) ?_;have ne:s.heap.objs.size≠s.heap.objs.size+1:=Nat.ne_of_lt (Nat.lt_succ_self _);refine ⟨by rw [zam ne,zao],Nat.zero_le _,ne,e2,λ_=>none,(Heap.Ns1.of_empty e3).at λo q=>Heap.get?_push_of_some _ q,λ_=>True.intro,λy hy=>absurd rfl hy⟩
theorem zrl {prog:Program} {w:World} {env:Env} {e:Expr} {f:Str} {pos:Pos} {s:Shared} {Q:Value->Shared->Prop} (hb:attributeBase e f env (eval e env)=eval e env)
  (h:wpAny (model prog w) A (eval e env) (λo s₁=>wpAny (model prog w) A (getAttr o f true) Q E s₁) E s):wpAny (model prog w) A (eval (.Attribute e f pos) env) Q E s:=
 Attribute_any_ h (by rw [arm_eval_Attribute,hb])
end
noncomputable def tFld (K:PySem.W.Frag) (ta:TE) (f:Str):TE:=λσ H Q=>ta σ H λx H1=>∃ a C dx fs v,x=.ref a/\H1 a=some (.ins C dx fs)/\Cls K C/\zbR K C f/\fs.lookup f=some v/\Q v H1
noncomputable def sFld (K:PySem.W.Frag) (ta tv:TE) (f:Str):TS:=λD σ H=>tv σ H λy H1=>ta σ H1 λx H2=>∃ a C dx fs,x=.ref a/\H2 a=some (.ins C dx fs)/\Cls K C/\zbR K C f/\fs.length<1000 ∧
 D.nx σ (upd H2 a (.ins C dx (putF f y fs)))
section
variable {X:Cx} {o e value:Expr} {f:Str} {pos pos' tpos:Pos} {ta tv:TE}
theorem zs2 (he:PE X e ta) (hb:attributeBase e f X.env (eval e X.env)=eval e X.env):PE X (.Attribute e f pos) (tFld X.K ta f):=by
 intro pins s σ H Q I h;refine zrl hb (thn (he pins s σ H _ I h) λu s1 q_=>?_);obtain ⟨x,H1,I1,rx,a,C,dx,fs,v,ex,ea,c,n,l,q⟩:=q_;subst ex;obtain rfl:u=Value.ref a:=rx;exact zkJ I1 ea c n l λu' s2 I2 ru=>⟨v,H1,I2,ru,q⟩
theorem zp9 (ha:PE X o ta) (hv:PE X value tv) (hs:swapsWith value (some (.Attribute o f pos')) pos.line X.env=pure false):PS X (.Assign [.Attribute o f pos'] value pos) (sFld X.K ta tv f):=by
 intro pins s σ H D I h;refine plainObj_wpAny_Assign_Attribute (thn (hv pins s σ H _ I h) λu s1 ⟨y,H1,I1,ry,q⟩=>thn (ha pins s1 σ H1 _ I1 q) λov s2 q_=>?_) hs;obtain ⟨x,H2,I2,rx,a,C,dx,fs,ex,ea,c,n,l,q2⟩:=q_;subst ex;obtain rfl:ov=Value.ref a:=rx;exact zkE I2 ea c n l ry λs3 I3=>⟨σ,_,I3,q2⟩
end
section
variable {X:Cx} {pins:List (Addr×Obj)} {σ:St} {H:Hp} {s:Shared} {A:Around} {E:Value->Shared->Prop} {Q:Value->Shared->Prop} {c:Value} {b:Bool}
end
structure Room (k:Nat) (A:Around):Prop where
 hd:A.handled=none
 dp:A.depth+3*k+5<recursionLimit
 un:A.units+16*k+200<cLine
theorem Room.mono {j k:Nat} {A:Around} (r:Room k A) (h:j<=k):Room j A:=⟨r.hd,by have:=r.dp;omega,by have:=r.un;omega⟩
theorem Room.deeper {k:Nat} {A:Around} (r:Room (k+1) A) (env:Env):Room k (A.deeper env):=
 ⟨r.hd,by have:=r.dp;show A.depth+1+3*k+5<_;omega,by have:=r.un;show A.units+3+16*k+200<_;omega⟩
theorem Room.in1 {k:Nat} {A:Around} (r:Room (k+1) A):Room k A.in1:=
 ⟨r.hd,by have:=r.dp;show A.depth+3*k+5<_;omega,by have:=r.un;show A.units+1+16*k+200<_;omega⟩
theorem zkx {A:Around} {C:Addr} {us:List Value} {kw:List (Str×Value)}:(A.under (.builtin "type.__call__" ⟨.ref C::us,kw⟩)).depth=A.depth+1:=by
 first | rfl | simp [Around.under,Code.weight,Code.isCreation,Code.isGuard,Code.isCaller,Code.frames,Code.isFrame,guardIds]
theorem zk0 {A:Around} {C:Addr} {us:List Value} {kw:List (Str×Value)}:(A.under (.builtin "type.__call__" ⟨.ref C::us,kw⟩)).units=A.units+1:=by
 first | rfl | simp [Around.under,Code.cUnits,Code.frames,Code.isFrame]
theorem Room.make {k:Nat} {A:Around} (r:Room (k+1) A) (C:Addr) (us:List Value) (kw:List (Str×Value)):Room k (A.under (.builtin "type.__call__" ⟨.ref C::us,kw⟩)):=
 ⟨r.hd,by have:=r.dp;rw [zkx];omega,by have:=r.un;rw [zk0];omega⟩
theorem Room.depth {k:Nat} {A:Around} (r:Room k A):A.depth<recursionLimit:=by have:=r.dp;omega
theorem Room.units {k:Nat} {A:Around} (r:Room k A):A.units+64<cLine:=by have:=r.un;omega
noncomputable def tNil:TA:=λ_ H Q=>Q [] H
noncomputable def zu4 (ta:TE) (tr:TA):TA:=λσ H Q=>ta σ H λx H1=>tr σ H1 λxs H2=>Q (x::xs) H2
section
variable {X:Cx} {e:Expr} {es:List Expr} {te:TE} {t:TA} {pos:Pos}
theorem zc1:PA X [] tNil:=λ_ _ _ _ H Q I h=>Calls.spliced_nil ⟨[],H,I,.nil,h⟩
theorem zbu (ha:PE X e te) (hr:PA X es t) (hs:starEach (e::es) X.env=(false,eval e X.env)::starEach es X.env:=by rfl):PA X (e::es) (zu4 te t):=by
 intro pos pins s σ H Q I h;rw [hs];show wpAny _ _ (spliced ((false,eval e X.env)::backTo pos (starEach es X.env))) _ _ s;refine Calls.spliced_cons (thn (ha pins s σ H _ I h) λu s1 q_=>?_);obtain ⟨x,H1,I1,r1,q1⟩:=q_;exact thn (hr pos pins s1 σ H1 _ I1 q1) λus s2 ⟨xs,H2,I2,r2,q2⟩=>⟨x::xs,H2,I2,.cons r1 r2,q2⟩
noncomputable def tTup (t:TA):TE:=λσ H Q=>t σ H λxs H1=>xs.length<=sizeLine/\∀ p,H1 p=none->Q (.ref p) (upd H1 p (.tup xs))
noncomputable def tLst (t:TA):TE:=λσ H Q=>t σ H λxs H1=>xs.length<=sizeLine/\∀ p,H1 p=none->Q (.ref p) (upd H1 p (.lst xs))
theorem ztl {x1} (h:PA X es t):PE X (.Tuple es x1 pos) (tTup t):=by
 intro pins s σ H Q I hq
 refine wpAny_Tuple_spliced (thn (h pos pins s σ H _ I hq) λus s1 ⟨xs,H1,I1,r,z,q⟩=>⟨by rw [<-r.length];exact z,?_⟩)
 have hf:H1 s1.heap.objs.size=none:=I1.hok.fresh (Nat.le_refl _);refine ⟨.ref s1.heap.objs.size,upd H1 s1.heap.objs.size (.tup xs),I1.laid (t':=s1.toks) (λb u e=>Heap.get?_push_of_some _ e) (Nat.le_refl _) ?_,rfl,q _ hf⟩;exact ⟨z,us,r,zdT.new _ _⟩
theorem ztb (h:PA X es t):PE X (.List es pos) (tLst t):=by
 intro pins s σ H Q I hq
 refine wpAny_List_spliced (thn (h pos pins s σ H _ I hq) λus s1 ⟨xs,H1,I1,r,z,q⟩=>⟨by rw [<-r.length];exact z,?_⟩)
 have hf:H1 s1.heap.objs.size=none:=I1.hok.fresh (Nat.le_refl _);refine ⟨.ref s1.heap.objs.size,upd H1 s1.heap.objs.size (.lst xs),I1.laid (t':=s1.toks) (λb u e=>Heap.get?_push_of_some _ e) (Nat.le_refl _) ?_,rfl,q _ hf⟩;exact ⟨z,us,0,r,Heap.get?_push_size _ rfl⟩
end
noncomputable abbrev Sp:=List V->Hp->VK->XK->Prop
noncomputable abbrev CXT:=List Env->Hp->Shared->XK->Value->Shared->Prop
structure Env0 (P:Program) (w:World) (K:PySem.W.Frag) (mg:Str->Option Value) (base:Heap) (A:Around) (outer:List Env) (s:Shared) (H:Hp):Prop where
 frames:A.frames=some outer
 mod:Mod K mg base
 bs:∀ b o,base.get? b=some o->s.heap.get? b=some o/\H b=none
 bsz:base.objs.size<=s.heap.objs.size
 funs:s.heap.FunFrames base outer
 frf:∀ b∈frs outer,H b=none
 hok:HOk P w H s.heap
 bare:AllBare s.gens
noncomputable def CE (outer:List Env) (P:Program) (w:World) (H:Hp) (s:Shared) (Q:VK) (u:Value) (s':Shared):Prop:=
 ∃ v H',s'.os=s.os/\AllBare s'.gens/\Un (frs outer) [] H H' s.heap s'.heap/\HOk P w H' s'.heap/\RelV v u/\Q v H'
noncomputable def CR (CX:CXT) (outer:List Env) (P:Program) (w:World) (H:Hp) (s:Shared) (Q:VK) (E:XK) (r:Result) (s':Shared):Prop:=
 match r with
 | .ok (.ret u)=>CE outer P w H s Q u s'
 | .ok _=>False
 | .error e=>CX outer H s E e s'
structure FnOk (P:Program) (w:World) (K:PySem.W.Frag) (mg:Str->Option Value) (base:Heap) (CX:CXT) (k:Nat) (f:Addr) (fd:FuncData) (ps:List Str) (sp:Sp):Prop where
 len:∀ vs H Q E,sp vs H Q E->vs.length=ps.length
 run:∀ (A:Around) (outer:List Env) (s:Shared) (H:Hp) (args:Args) (us:List Value) (vs:List V) (Q:VK) (E:XK),Room k A->Env0 P w K mg base A outer s H->BindsTo s fd args (ps.zip us)->Vals vs us->sp vs H Q E →
  codeAny (model P w) A (.call (.ref f) args) (CR CX outer P w H s Q E) s
theorem FnOk.mono {P:Program} {w:World} {K:PySem.W.Frag} {mg:Str->Option Value} {base:Heap} {CX:CXT} {j k:Nat} {f:Addr} {fd:FuncData} {ps:List Str} {sp:Sp} (F:FnOk P w K mg base CX j f fd ps sp) (h:j<=k) :
  FnOk P w K mg base CX k f fd ps sp:=⟨F.len,λA outer s H args us vs Q E hr=>F.run A outer s H args us vs Q E (hr.mono h)⟩
theorem FnOk.imp {P:Program} {w:World} {K:PySem.W.Frag} {mg:Str->Option Value} {base:Heap} {CX:CXT} {k:Nat} {f:Addr} {fd:FuncData} {ps:List Str} {sp sp':Sp} (F:FnOk P w K mg base CX k f fd ps sp)
  (h:∀ vs H Q E,sp' vs H Q E->sp vs H Q E):FnOk P w K mg base CX k f fd ps sp':=
 ⟨λvs H Q E q=>F.len vs H Q E (h _ _ _ _ q),λA outer s H args us vs Q E hr he hb hv hs=>F.run A outer s H args us vs Q E hr he hb hv (h _ _ _ _ hs)⟩
theorem Env0.make {P:Program} {w:World} {K:PySem.W.Frag} {mg:Str->Option Value} {base:Heap} {A:Around} {outer:List Env} {s:Shared} {H:Hp} (e:Env0 P w K mg base A outer s H) (C:Addr) (us:List Value) (kw:List (Str×Value)) :
    Env0 P w K mg base (A.under (.builtin "type.__call__" ⟨.ref C::us,kw⟩)) outer s H:=⟨by first | exact e.frames | (simpa [Around.under,Code.envs,Code.isFrame,pushEnvs] using e.frames),e.mod,e.bs,e.bsz,e.funs,e.frf,e.hok,e.bare⟩
theorem Env0.in1 {P:Program} {w:World} {K:PySem.W.Frag} {mg:Str->Option Value} {base:Heap} {A:Around} {outer:List Env} {s:Shared} {H:Hp} (e:Env0 P w K mg base A outer s H) :
  Env0 P w K mg base A.in1 outer s H:=⟨e.frames,e.mod,e.bs,e.bsz,e.funs,e.frf,e.hok,e.bare⟩
section
variable {X:Cx} {pins:List (Addr×Obj)} {σ:St} {H:Hp} {s s':Shared}
theorem Inv.env0 (I:Inv X pins σ H s):Env0 X.prog X.w X.K X.mg X.base X.A X.stack s H:=
 ⟨I.ok.frames,I.ok.mod,I.bs,Nat.le_trans I.ok.bsz I.sz,I.stack,I.stkFree,I.hok,I.bare⟩
theorem Inv.after {Q:VK} {u:Value} (I:Inv X pins σ H s) (h:CE X.stack X.prog X.w H s Q u s'):EP X pins σ Q u s':=by
 obtain ⟨v,H',os,bare,un,hok,r,q⟩:=h;obtain ⟨hh,g,d,t,os'⟩:=s';obtain rfl:os'=s.os:=os;exact ⟨v,H',I.call (h':=hh) (g':=g) (d':=d) (t':=t) (ch:=[]) un hok bare (λb z=>absurd z (by simp)),r,q⟩
end
noncomputable def zs1 (sp:Sp) (dvs:List V) (E:XK) (t:TA):TE:=λσ H Q=>t σ H λvs H1=>sp (vs++dvs) H1 Q E
noncomputable def ztK (C:Addr) (m:Str) (sp:Sp) (dvs:List V) (E:XK) (ta:TE) (t:TA):TE:=λσ H Q=>ta σ H λx H1=>∃ a dx fs,x=.ref a/\H1 a=some (.ins C dx fs)/\fs.lookup m=none ∧
 t σ H1 λvs H2=>sp (x::(vs++dvs)) H2 Q E
noncomputable def zu9 (C:Addr) (sp:Sp) (dvs:List V) (E:XK) (t:TA):TE:=λσ H Q=>t σ H λvs H1=>∀ x dx,H1 x=none->H1 dx=none->dx≠x →
 sp (.ref x::(vs++dvs)) (upd (upd H1 dx (.own x)) x (.ins C dx [])) (λv H2=>v=.non/\Q (.ref x) H2) E
noncomputable def zcp (K:PySem.W.Frag) (fd:FuncData) (ps:List Str) (ds:List Value):Prop:=
 ∀ (s:Shared) (us:List Value),K.In s.heap->(us++ds).length=ps.length->BindsTo s fd ⟨us,[]⟩ (ps.zip (us++ds))
theorem zcp.all {K:PySem.W.Frag} {fd:FuncData} {ps:List Str} (h:∀ us:List Value,us.length=ps.length->bindArgs fd ⟨us,[]⟩=pure (ps.zip us)):zcp K fd ps []:=λs us _ hl=>by
 rw [List.append_nil] at hl ⊢;exact .of_eq (h us hl)
noncomputable def zc0 (CX:CXT) (X:Cx) (E:XK):Prop:=∀ (pins:List (Addr×Obj)) (σ:St) (H:Hp) (s:Shared) (e:Value) (s':Shared),Inv X pins σ H s->CX X.stack H s E e s'->X.xe e s'
section
variable {X:Cx} {CX:CXT} {k:Nat} {f C:Addr} {fd:FuncData} {ps:List Str} {sp:Sp} {dvs:List V} {ds:List Value} {E:XK} {x m:Str} {p pos apos:Pos} {e o:Expr} {es:List Expr} {ta:TE} {t:TA}
theorem zjQ {pins:List (Addr×Obj)} {σ:St} {H:Hp} {s:Shared} {Q:VK} {us:List Value} {vs:List V} (F:FnOk X.prog X.w X.K X.mg X.base CX k f fd ps sp) (hr:Room k X.A) (hb:zcp X.K fd ps ds) (hd:Vals dvs ds) (hx:zc0 CX X E)
  (I:Inv X pins σ H s) (r:Vals vs us) (h:sp (vs++dvs) H Q E):wpAny (model X.prog X.w) X.A (call (.ref f) us) (EP X pins σ Q) X.xe s:=by
 have r2:Vals (vs++dvs) (us++ds):=r.append hd
 have hl:(us++ds).length=ps.length:=by rw [<-r2.length];exact F.len _ _ _ _ h
 refine wpAny_call (codeAny_mono (F.run X.A X.stack s H ⟨us,[]⟩ (us++ds) (vs++dvs) Q E hr I.env0 (hb s us I.kIn hl) r2 h) λr s' hq=>?_)
 cases r with
 | error e=>exact hx pins σ H s e s' I hq
 | ok fl=>
  cases fl with
  | ret u=>exact I.after hq
  | next=>exact False.elim hq
  | brk=>exact False.elim hq
  | cont=>exact False.elim hq
theorem zi5 (F:FnOk X.prog X.w X.K X.mg X.base CX k f fd ps sp) (hr:Room k X.A) (hg:Gl X x) (hm:X.mg x=some (.ref f)) (hk:PySem.W.keepIn X.K (.ref f)=true) (hb:zcp X.K fd ps ds) (hd:Vals dvs ds) (hx:zc0 CX X E)
  (ha:PA X (e::es) t) (hdb:(x==("__debug__":Str))=false:=by decide) (he:starEach (e::es) X.env=(false,eval e X.env)::starEach es X.env:=by rfl) (hpl:(backTo pos (starEach es X.env)).any (·.1)=false:=by rfl) :
  PE X (.Call (.Name x p) (e::es) [] pos) (zs1 sp dvs E t):=by
 intro pins s σ H Q I h;refine wpAny_Call_Name_kw (zep I hg hm ?_ hdb);refine PySem.W.callWith_K (h₀:=X.base) I.ok.mod.kin hk (thn (ha pos pins s σ H _ I h) λus s1 ⟨vs,H1,I1,r,q⟩=>⟨I1.kIn,?_⟩) he hpl;exact zjQ F hr hb hd hx I1 r q
theorem zjS (F:FnOk X.prog X.w X.K X.mg X.base CX k f fd ps sp) (hr:Room k X.A) (hg:Gl X x) (hm:X.mg x=some (.ref f)) (hk:PySem.W.keepIn X.K (.ref f)=true) (hb:zcp X.K fd ps ds) (hd:Vals dvs ds) (hx:zc0 CX X E)
  (hdb:(x==("__debug__":Str))=false:=by decide):PE X (.Call (.Name x p) [] [] pos) (zs1 sp dvs E tNil):=by
 intro pins s σ H Q I h;refine wpAny_Call_Name_kw (zep I hg hm ?_ hdb);exact PySem.W.callWith_K0 I.kIn hk (zjQ (us:=[]) F hr hb hd hx I .nil h)
theorem zrx {pl:Sem Bool} (he:PE X o ta) (c:Cls X.K C) (hm:Meth X.K C m f) (F:FnOk X.prog X.w X.K X.mg X.base CX k f fd ps sp) (hr:Room k X.A) (hb:zcp X.K fd ps ds) (hd:Vals dvs ds) (hx:zc0 CX X E) (ha:PA X (e::es) t)
  (hst:starEach (e::es) X.env=(false,eval e X.env)::starEach es X.env:=by rfl) (hpl:(backTo pos (starEach es X.env)).any (·.1)=false:=by rfl)
  (ht:eval (.Call (.Attribute o m apos) (e::es) [] pos) X.env=(do
   let ov<-eval o X.env
   standAt apos.atName
   let (f,first)<-holding [ov] (getMethod ov m pl)
   callWith pos f first (backTo pos (starEach (e::es) X.env)) (backToKw pos (keywordEach [] X.env))):=by rfl) :
  PE X (.Call (.Attribute o m apos) (e::es) [] pos) (ztK C m sp dvs E ta t):=by
 intro pins s σ H Q I h;refine PySem.W.methodCall_KW (pl:=pl) (thn (he pins s σ H _ I h) λu s1 q_=>?_) ht;obtain ⟨x,H1,I1,rx,a,dx,fs,ex,ea,l,q⟩:=q_;subst ex;obtain rfl:u=Value.ref a:=rx;refine zgr I1 ea c hm l ?_;refine PySem.W.callWith_K (first:=[.ref a]) (h₀:=X.base) I.ok.mod.kin hm.kp (thn (ha pos pins s1 σ H1 _ I1 q) λus s2 ⟨vs,H2,I2,r,q2⟩=>⟨I2.kIn,?_⟩) hst hpl;exact zjQ (us:=.ref a::us) (vs:=.ref a::vs) F hr hb hd hx I2 (.cons rfl r) q2
theorem zoU {pl:Sem Bool} (he:PE X o ta) (c:Cls X.K C) (hm:Meth X.K C m f) (F:FnOk X.prog X.w X.K X.mg X.base CX k f fd ps sp) (hr:Room k X.A) (hb:zcp X.K fd ps ds) (hd:Vals dvs ds) (hx:zc0 CX X E)
  (ht:eval (.Call (.Attribute o m apos) [] [] pos) X.env=(do
   let ov<-eval o X.env
   standAt apos.atName
   let (f,first)<-holding [ov] (getMethod ov m pl)
   callWith pos f first (backTo pos (starEach [] X.env)) (backToKw pos (keywordEach [] X.env))):=by rfl) :
  PE X (.Call (.Attribute o m apos) [] [] pos) (ztK C m sp dvs E ta tNil):=by
 intro pins s σ H Q I h;refine PySem.W.methodCall_KW (pl:=pl) (thn (he pins s σ H _ I h) λu s1 q_=>?_) ht;obtain ⟨x,H1,I1,rx,a,dx,fs,ex,ea,l,q⟩:=q_;subst ex;obtain rfl:u=Value.ref a:=rx;refine zgr I1 ea c hm l ?_;exact PySem.W.callWith_K0 (first:=[.ref a]) I1.kIn hm.kp (zjQ (us:=[.ref a]) (vs:=[.ref a]) F hr hb hd hx I1 (.cons rfl .nil) q)
structure Mk (K:PySem.W.Frag) (C f:Addr):Prop where
 makes:PySem.W.makesIn K C=true
 init:PySem.W.findIn K (.ref C) "__init__"=some (some (.ref f))
 fn:PySem.W.isFn K (.ref f)=true
 kp:PySem.W.keepIn K (.ref C)=true
theorem zpw {pins:List (Addr×Obj)} {σ:St} {H:Hp} {s:Shared} {Q:VK} {us:List Value} {vs:List V} (M:Mk X.K C f) (F:FnOk X.prog X.w X.K X.mg X.base CX k f fd ps sp) (hr:Room (k+1) X.A) (hb:zcp X.K fd ps ds) (hd:Vals dvs ds)
  (hx:zc0 CX X E) (I:Inv X pins σ H s) (r:Vals vs us)
  (h:∀ x dx,H x=none->H dx=none->dx≠x->sp (.ref x::(vs++dvs)) (upd (upd H dx (.own x)) x (.ins C dx [])) (λv H2=>v=.non/\Q (.ref x) H2) E) :
  wpAny (model X.prog X.w) X.A (call (.ref C) us) (EP X pins σ Q) X.xe s:=by
 have hq:=h (s.heap.objs.size+1) s.heap.objs.size (I.hok.fresh (Nat.le_succ _)) (I.hok.fresh (Nat.le_refl _)) (Nat.ne_of_lt (Nat.lt_succ_self _));have I2:=Inv.made (C:=C) I;have r2:Vals (V.ref (s.heap.objs.size+1)::(vs++dvs)) (Value.ref (s.heap.objs.size+1)::(us++ds)):=.cons rfl (r.append hd)
 have hl:(Value.ref (s.heap.objs.size+1)::us++ds).length=ps.length:=by
  have e:=r2.length;rw [F.len _ _ _ _ hq] at e;exact e.symm
 refine wpAny_call (zph (f:=f) I.kIn M.makes M.init (beq_iff_eq.mp M.fn) (codeAny_mono (F.run _ X.stack _ _ ⟨Value.ref (s.heap.objs.size+1)::us,[]⟩ (Value.ref (s.heap.objs.size+1)::(us++ds)) _ _ E (hr.make C us [])
  (I2.env0.make C us []) (hb _ (Value.ref (s.heap.objs.size+1)::us) I2.kIn hl) r2 hq) λr s' hq'=>?_))
 cases r with
 | error e=>exact hx pins σ _ _ e s' I2 hq'
 | ok fl=>
  cases fl with
  | ret u=>
   obtain ⟨v,H',I3,rv,ev,q3⟩:=I2.after hq';subst ev;exact ⟨rv,⟨V.ref (s.heap.objs.size+1),H',I3,rfl,q3⟩⟩
  | next=>exact False.elim hq'
  | brk=>exact False.elim hq'
  | cont=>exact False.elim hq'
theorem zrE (M:Mk X.K C f) (F:FnOk X.prog X.w X.K X.mg X.base CX k f fd ps sp) (hr:Room (k+1) X.A) (hg:Gl X x) (hm:X.mg x=some (.ref C)) (hb:zcp X.K fd ps ds) (hd:Vals dvs ds) (hx:zc0 CX X E)
  (ha:PA X (e::es) t) (hdb:(x==("__debug__":Str))=false:=by decide) (he:starEach (e::es) X.env=(false,eval e X.env)::starEach es X.env:=by rfl) (hpl:(backTo pos (starEach es X.env)).any (·.1)=false:=by rfl) :
  PE X (.Call (.Name x p) (e::es) [] pos) (zu9 C sp dvs E t):=by
 intro pins s σ H Q I h;refine wpAny_Call_Name_kw (zep I hg hm ?_ hdb);refine PySem.W.callWith_K (h₀:=X.base) I.ok.mod.kin M.kp (thn (ha pos pins s σ H _ I h) λus s1 ⟨vs,H1,I1,r,q⟩=>⟨I1.kIn,?_⟩) he hpl;exact zpw M F hr hb hd hx I1 r q
end
section
variable {X:Cx} {CX:CXT} {k:Nat} {f C:Addr} {fd:FuncData} {ps ks:List Str} {sp:Sp} {E:XK} {x m:Str} {p pos apos kpos:Pos} {e o:Expr} {es:List Expr} {kws:List Keyword} {te ta:TE} {t tk:TA} {nm:Option Str}
variable {g:List Value->List Value->List Value} {gV:List V->List V->List V}
end
structure zfV (N P:List Str) (sc:Scope):Prop where
 kind:sc.kind=.function
 co:sc.isCoroutine=false
 gen:sc.isGenerator=false
 nd:N.Nodup
 pre:N.take P.length=P
 par:∀ x∈P,sc.names.lookup x=some .local\/sc.names.lookup x=some .cell
 nofree:∀ y∈sc.names,y.2≠.free
theorem zhx {kindOf:Str->Option NameKind} {x:Str}:∀ {binds:List (Str×Value)} {m:Str->Option Value},(∀ v,(x,v) ∉ binds)->bindL kindOf binds m x=m x
  | [],_,_=>rfl
  | (n, v)::r,m,h=>by
    unfold bindL;rw [zhx λw hw=>h w (List.mem_cons_of_mem _ hw)]
    split
    · have:x≠n:=by rintro rfl;exact h v List.mem_cons_self
      simp [this]
    · rfl
theorem zhA {kindOf:Str->Option NameKind} {x:Str}:∀ {binds:List (Str×Value)} {m:Str->Option Value},(∀ v,(x,v) ∉ binds)->bindC kindOf binds m x=m x
  | [],_,_=>rfl
  | (n, v)::r,m,h=>by
    unfold bindC;rw [zhA λw hw=>h w (List.mem_cons_of_mem _ hw)]
    split
    · rfl
    · have:x≠n:=by rintro rfl;exact h v List.mem_cons_self
      simp [this]
theorem zhz {kindOf:Str->Option NameKind} {x:Str} {v:Value}:∀ {P:List Str} {vs:List Value} {i:Nat} {m:Str->Option Value},P.Nodup->P[i]?=some x->vs[i]?=some v->kindOf x=some .local →
  bindL kindOf (P.zip vs) m x=some v
 | [],_,_,_,_,h,_,_=>by simp at h
 | _::_,[],_,_,_,_,h,_=>by simp at h
 | p::P,w::vs,0,m,nd,h1,h2,hk=>by
  simp at h1 h2;subst h1;subst h2
  show bindL kindOf ((p,w)::P.zip vs) m p=_;unfold bindL;rw [zhx λv hv=>(List.nodup_cons.mp nd).1 (List.of_mem_zip hv).1,if_pos hk];simp
 | p::P,w::vs,i+1,m,nd,h1,h2,hk=>by
  show bindL kindOf ((p,w)::P.zip vs) m x=_;unfold bindL;exact zhz (i:=i) (List.nodup_cons.mp nd).2 (by simpa using h1) (by simpa using h2) hk
theorem zhv {kindOf:Str->Option NameKind} {x:Str} {v:Value}:∀ {P:List Str} {vs:List Value} {i:Nat} {m:Str->Option Value},P.Nodup->P[i]?=some x->vs[i]?=some v->kindOf x≠some .local →
  bindC kindOf (P.zip vs) m x=some v
 | [],_,_,_,_,h,_,_=>by simp at h
 | _::_,[],_,_,_,_,h,_=>by simp at h
 | p::P,w::vs,0,m,nd,h1,h2,hk=>by
  simp at h1 h2;subst h1;subst h2
  show bindC kindOf ((p,w)::P.zip vs) m p=_;unfold bindC;rw [zhA λv hv=>(List.nodup_cons.mp nd).1 (List.of_mem_zip hv).1,if_neg hk];simp
 | p::P,w::vs,i+1,m,nd,h1,h2,hk=>by
  show bindC kindOf ((p,w)::P.zip vs) m x=_;unfold bindC;exact zhv (i:=i) (List.nodup_cons.mp nd).2 (by simpa using h1) (by simpa using h2) hk
noncomputable def start (N:List Str) (vs:List V):St:=vs.map some++List.replicate (N.length-vs.length) none
noncomputable def cxOf (CX:CXT) (P:Program) (w:World) (K:PySem.W.Frag) (mg:Str->Option Value) (base:Heap) (N:List Str) (qual:Str) (scope:Scope) (f:Addr) (cd:Value) (A:Around) (outer:List Env) (s:Shared) (H:Hp) (E:XK):Cx where
 prog:=P
 w:=w
 K:=K
 mg:=mg
 base:=base
 A:=A.deeper (envOfC qual scope s.heap.objs.size f cd)
 N:=N
 s₀:=s
 H₀:=H
 env:=envOfC qual scope s.heap.objs.size f cd
 outer:=outer
 stack:=envOfC qual scope s.heap.objs.size f cd::outer
 ex:=[]
 calm:=true
 fn:=λ_=>true
 pn:=[]
 xe:=λe s'=>wpAny (model P w) (A.deeper (envOfC qual scope s.heap.objs.size f cd)) (leaving (envOfC qual scope s.heap.objs.size f cd) e) (λ_ s''=>CX outer H s E e s'') (λe' s''=>CX outer H s E e' s'') s'
theorem zjM {sc:Scope} {n:Nat} {x:Str} (h:sc.names.lookup x=some .cell):∃ c,(cellsFrom n sc.names []).lookup x=some c:=by
 have q:=PySem.W.cellsFrom_some sc.names n [] (.inl h);exact Option.isSome_iff_exists.mp q
theorem zm5 {CX:CXT} {P:Program} {w:World} {K:PySem.W.Frag} {mg:Str->Option Value} {base:Heap} {N ps:List Str} {qual:Str} {scope:Scope} {f:Addr} {cd:Value} {A:Around} {outer:List Env} {s s1:Shared} {H:Hp} {E:XK} {us:List Value} {vs:List V}
  (S:zfV N ps scope) (hd:A.handled=none) (e0:Env0 P w K mg base A outer s H) (hl:vs.length=ps.length) (r:Vals vs us)
  (x:InCallC s s.heap.objs.size (bindL (envOfC qual scope s.heap.objs.size f cd).kindOf (ps.zip us) λ_=>none) (cellsFrom (s.heap.objs.size+1) scope.names []) (bindC (envOfC qual scope s.heap.objs.size f cd).kindOf (ps.zip us) λ_=>none) s1) :
  Inv (cxOf CX P w K mg base N qual scope f cd A outer s H E) [] (start N vs) H s1:=by
 have hpl:ps.length<=N.length:=by have:=congrArg List.length S.pre;rw [List.length_take] at this;omega
 obtain ⟨h1,tk,rfl,hk⟩:=x.done;have noA:∀ b:Addr,b ∉ (cxOf CX P w K mg base N qual scope f cd A outer s H E).ex:=λb z=>absurd (show b∈([]:List Addr) from z) (by simp)
 refine ⟨⟨e0.mod,S.kind,rfl,rfl,Nat.le_refl _,λy z c h1 h2=>?_,λy hy=>?_,λy c _ h=>?_,λ_=>hd,Around.frames_deeper e0.frames,.inr ⟨rfl,rfl⟩,λb z=>absurd z (noA b),e0.bs,e0.bsz,λb _ _=>noA b,λb z=>absurd z (noA b),e0.funs,e0.frf⟩,
  rfl,e0.bare,Un.kept hk,⟨_,x.toInCall.ns,λi y v h1 h2 h3=>?_⟩,λy c h=>⟨_,x.cell y c h⟩,e0.hok.fresh (Nat.le_refl _),λy c h=>?_,λp hp=>absurd (show p∈([]:List (Addr×Obj)) from hp) (by simp),e0.hok.kept hk,?_⟩
 ·exact name_of_addr x.apart (PySem.mem_of_lookup h1) (PySem.mem_of_lookup h2)
 ·have hy:scope.names.lookup y=some .cell\/scope.names.lookup y=some .free:=hy
  rcases hy with hy | hy
  ·exact zjM hy
  ·exact absurd rfl (S.nofree _ (PySem.mem_of_lookup hy))
 ·exact Nat.le_of_lt (x.above y c (PySem.mem_of_lookup h))
 ·have hi:i<vs.length:=by
   unfold start at h2
   by_cases hi:i<vs.length
   ·exact hi
   ·rw [List.getElem?_append_right (by simpa using hi)] at h2
    rw [List.getElem?_replicate] at h2
    split at h2<;>cases h2
  have ha:vs[i]?=some v:=by
   unfold start at h2;rw [List.getElem?_append_left (by simpa using hi),List.getElem?_map] at h2
   cases e:vs[i]? with
   | none=>rw [e] at h2;cases h2
   | some a=>rw [e] at h2;cases h2;rfl
  obtain ⟨u,hu,rv⟩:=r.get ha
  have hp:ps[i]?=some y:=by
   rw [<-S.pre,List.getElem?_take_of_lt (by omega)];exact h1
  have ndP:ps.Nodup:=by rw [<-S.pre];exact S.nd.sublist (List.take_sublist _ _)
  refine ⟨u,rv,?_⟩
  rcases S.par y (List.mem_of_getElem? hp) with k | k
  ·exact .inl ⟨k,zhz ndP hp hu k⟩
  ·obtain ⟨c,e⟩:=zjM (n:=s.heap.objs.size+1) k
   refine .inr ⟨.inl k,c,e,?_⟩;have q:=x.cell y c e
   rw [zhv ndP hp hu (by show scope.names.lookup y≠_;rw [k];decide)] at q
   exact q
 ·exact e0.hok.fresh (Nat.le_of_lt (x.above y c (PySem.mem_of_lookup h)))
 ·unfold start
  show _=N.length;rw [List.length_append,List.length_map,List.length_replicate];omega
theorem zut {CX:CXT} {P:Program} {w:World} {K:PySem.W.Frag} {mg:Str->Option Value} {base:Heap} {k:Nat} {f:Addr} {name qual:Str} {params:Arguments} {body:List Stmt} {scope:Scope} {dV kV doc pm cdv ct oc:Value} {an od:Option Addr}
  {osl:Array (Option Value)} {N ps:List Str} {sp:Sp} (lk:K.lookup f=some ⟨oc,od,.func (PySem.W.fnOf name qual params body scope dV kV doc pm an cdv ct),osl⟩) (hcd:PySem.W.codeIn K cdv qual=true) (S:zfV N ps scope)
  (len:∀ vs H Q E,sp vs H Q E->vs.length=ps.length)
  (hbody:∀ (A:Around) (outer:List Env) (s:Shared) (H:Hp) (vs:List V) (Q:VK) (E:XK),Room k (A.deeper (envOfC qual scope s.heap.objs.size f cdv))->sp vs H Q E →
   ∃ t,PSs (cxOf CX P w K mg base N qual scope f cdv A outer s H E) body t/\t { nx:=λ_ H'=>Q .non H',rt:=Q } (start N vs) H) :
  FnOk P w K mg base CX (k+1) f (PySem.W.fnOf name qual params body scope dV kV doc pm an cdv ct) ps sp:=by
 refine ⟨len,λA outer s H args us vs Q E hr e0 hb r hsp=>?_⟩;have hl:=len _ _ _ _ hsp;have KX:K.In s.heap:=e0.mod.kin.keeps λb o e=>(e0.bs b o e).1;have lim:s.heap.NoLimit:=e0.mod.nolimit.keeps λb o e=>(e0.bs b o e).1
 have hkind:∀ y∈ps.zip us,scope.names.lookup y.1=some .local\/(scope.names.lookup y.1=some .cell/\((cellsFrom (s.heap.objs.size+1) scope.names []).lookup y.1).isSome=true):=λ⟨n,v⟩ hy=>by
  rcases S.par n (List.of_mem_zip hy).1 with q | q
  ·exact .inl q
  ·exact .inr ⟨q,PySem.W.cellsFrom_some _ _ _ (.inl q)⟩
 refine codeAny_call_function hr.depth (KX _ _ lk) rfl S.co S.gen rfl (PySem.W.codeRec_of KX hcd) (hb _ _ _ _ ?_);refine wpAny_newFunctionEnv_cells S.kind hkind λenv he s1 x=>?_;subst he;refine ⟨lim.keeps x.toInCall.keep,codeAny_func ?_⟩;obtain ⟨t,ht,hq⟩:=hbody A outer s H vs Q E (hr.deeper _) hsp;have I:Inv (cxOf CX P w K mg base N qual scope f cdv A outer s H E) [] (start N vs) H s1:=zm5 S hr.hd e0 hl r x;refine wpAny_mono (ht [] s1 (start N vs) H _ I hq) (λfl s' hs=>?_) λe s' hs=>hs
 have fin:∀ {σ':St} {H':Hp} {v:V} {u:Value},Inv (cxOf CX P w K mg base N qual scope f cdv A outer s H E) [] σ' H' s'->RelV v u->Q v H'->CE outer P w H s Q u s':=
  fun {σ' H' v u} J rv q=>⟨v,H',J.os,J.bare,J.base,J.hok,rv,q⟩
 cases fl with
 | ret u=>
  obtain ⟨v,σ',H',J,rv,q⟩:=hs;exact fin J rv q
 | next=>
  obtain ⟨σ',H',J,q⟩:=hs;exact fin (v:=V.non) (u:=Value.none) J rfl q
 | brk=>
  obtain ⟨_,_,_,q⟩:=hs;exact False.elim q
 | cont=>
  obtain ⟨_,_,_,q⟩:=hs;exact False.elim q
section
variable {X:Cx} {x:Str} {p pos:Pos} {e:Expr} {es:List Expr} {t:TA} {id T:String} {r:List V->Hp->VK->Prop}
noncomputable def tCB (r:List V->Hp->VK->Prop) (t:TA):TE:=λσ H Q=>t σ H λvs H1=>r vs H1 Q
theorem zgv (hc:zdX X (.builtin id) r) (hg:Gl X x) (hm:X.mg x=none) (hv:bootBuiltins x=some (.builtin id)) (ha:PA X (e::es) t) (hn:x ≠ "__name__":=by decide) (hdb:(x==("__debug__":Str))=false:=by decide)
  (he:starEach (e::es) X.env=(false,eval e X.env)::starEach es X.env:=by rfl) (hpl:(backTo pos (starEach es X.env)).any (·.1)=false:=by rfl):PE X (.Call (.Name x p) (e::es) [] pos) (tCB r t):=by
 intro pins s σ H Q I h;refine wpAny_Call_Name_kw (zie I hg hm hv ?_ hn hdb);exact PyProof.Rows.callWith_builtin1 (thn (ha pos pins s σ H _ I h) λus s1 ⟨vs,H1,I1,r1,q1⟩=>hc pins s1 σ H1 vs us Q I1 r1 q1) he hpl
theorem zcs (hc:zdX X (.type T) r) (hg:Gl X x) (hm:X.mg x=none) (hv:bootBuiltins x=some (.type T)) (ha:PA X (e::es) t) (hn:x ≠ "__name__":=by decide) (hdb:(x==("__debug__":Str))=false:=by decide)
  (he:starEach (e::es) X.env=(false,eval e X.env)::starEach es X.env:=by rfl) (hpl:(backTo pos (starEach es X.env)).any (·.1)=false:=by rfl):PE X (.Call (.Name x p) (e::es) [] pos) (tCB r t):=by
 intro pins s σ H Q I h;refine wpAny_Call_Name_kw (zie I hg hm hv ?_ hn hdb);exact PyProof.Rows.callWith_type1 (thn (ha pos pins s σ H _ I h) λus s1 ⟨vs,H1,I1,r1,q1⟩=>hc pins s1 σ H1 vs us Q I1 r1 q1) he hpl
end
end L2
namespace HT
open PySem PyProof.Rows
section
open PySem.SeqAt
open PySem.AutoSeq1 (wpAny_loadPart')
open PySem.MeetsSeq PySem.MeetsSeq2 PySem.MeetsSeq3
end
section
variable {prog:Program} {w:World} {A:Around} {E:Value->Shared->Prop} {s:Shared}
theorem cat_tup {t b:Addr} {vs ws:List Value} {Q:Value->Shared->Prop} (ht:IsTup s.heap t vs.toArray) (hb:IsTup s.heap b ws.toArray) (hv:vs≠[])
  (h1:ws=[]->Q (.ref t) s) (h2:ws≠[]->Q (.ref s.heap.objs.size) { s with heap:=s.heap.push { cls:=.type "tuple",data:=.seq (vs++ws).toArray } })
  (hsz:vs.length+ws.length<=sizeLine):wpAny (model prog w) A (binaryOp .Add (.ref t) (.ref b)) Q E s:=by
 obtain ⟨⟨cls,dd,data,sl⟩,ho,hc,n,hd⟩:=id ht;obtain ⟨⟨cls2,dd2,data2,sl2⟩,ho2,hc2,n2,hd2⟩:=id hb;simp only at hc hd hc2 hd2;subst hc hd hc2 hd2
 have e:vs.toArray++ws.toArray=(vs++ws).toArray:=by simp
 by_cases hw:ws=[]
 ·exact concat_meets ⟨_,ho,rfl⟩ ⟨_,ho2,rfl⟩ noFill_tuple_add seq_tuple_add PySem.F.slot_tuple_add PySem.F.entry_tuple_add (PySem.F.args_tuple_add_2 _ _)
   (tuple_addW1 t b vs.toArray ws.toArray n n2 dd dd2 sl sl2 (by simpa using hv) (by simp [hw])) ⟨ho,ho2,h1 hw⟩
 ·refine concat_meets ⟨_,ho,rfl⟩ ⟨_,ho2,rfl⟩ noFill_tuple_add seq_tuple_add PySem.F.slot_tuple_add PySem.F.entry_tuple_add (PySem.F.args_tuple_add_2 _ _)
   (tuple_addW2 t b vs.toArray ws.toArray n n2 dd dd2 sl sl2 (by simpa using hv) (by simpa using hw) (by rw [List.size_toArray,List.size_toArray];exact hsz)) ⟨ho,ho2,?_⟩
  rw [e];exact h2 hw
noncomputable def sIx (n d:Nat):Option Int->Nat
 | none=>d
 | some v=>if v<0 then (v+(n:Int)).toNat else min v.toNat n
theorem sIx_le (n d:Nat) (hd:d<=n) (o:Option Int):sIx n d o<=n:=by
 cases o with
 | none=>exact hd
 | some v=>
  show (if v<0 then (v+(n:Int)).toNat else min v.toNat n)<=n
  by_cases hv:v<0
  ·rw [if_pos hv];omega
  ·rw [if_neg hv];exact Nat.min_le_right _ _
theorem zmP (v:Int) (n d:Nat):(if v<0 then max (v+(n:Int)) 0 else min v (n:Int))=((sIx n d (some v):Nat):Int):=by
 show (if v<0 then max (v+(n:Int)) 0 else min v (n:Int))=(((if v<0 then (v+(n:Int)).toNat else min v.toNat n):Nat):Int)
 by_cases hv:v<0
 ·simp only [if_pos hv];omega
 ·simp only [if_neg hv];omega
theorem zk2 (lo hi:Option Int) (n:Nat):Builtin.Slice.sliceAdjust lo hi 1 (n:Int)=(((sIx n 0 lo:Nat):Int),((sIx n n hi:Nat):Int)):=by
 have h1:¬ ((1:Int)<0):=by omega
 unfold Builtin.Slice.sliceAdjust;simp only [h1,if_false];refine Prod.ext ?_ ?_
 ·cases lo with
  | none=>rfl
  | some v=>exact zmP v n 0
 ·cases hi with
  | none=>rfl
  | some v=>exact zmP v n n
theorem zlc (i j:Nat):Builtin.Slice.slicePlaces (i:Int) (j:Int) 1=j-i:=by
 unfold Builtin.Slice.slicePlaces
 have h1:(1:Int)>0:=by omega
 simp only [h1,if_true,Int.ediv_one]
 split<;>omega
theorem zgp {v:Value} {o:Option Int} {Q:Option Int->Shared->Prop} (p:IsPart v o) (h:Q o s):wpAny (model prog w) A (Builtin.Slice.slicePartIndex v) Q E s:=by
 cases p with
 | none=>exact slicePart_none h
 | int i t=>exact slicePart_int h
theorem zch {sl:Addr} {vl vu:Value} {lo hi:Option Int} {n:Nat} {Q:Int×Int×Nat->Shared->Prop} (hs:s.heap.IsSliceOf sl vl vu .none) (pl:IsPart vl lo) (pu:IsPart vu hi)
    (h:Q (((sIx n 0 lo:Nat):Int),1,sIx n n hi-sIx n 0 lo) s):wpAny (model prog w) A (Builtin.Slice.sliceApplied (.ref sl) (pure (n:Int))) Q E s:=by
  obtain ⟨os,hos,hcs,hds⟩:=id hs;unfold Builtin.Slice.sliceApplied Builtin.Slice.sliceFields;refine wpAny_bind (wpAny_bind (wpAny_field hos hds (x:=vl) rfl (wpAny_bind (wpAny_field hos hds (x:=vu) rfl (wpAny_bind (wpAny_field hos hds (x:=.none) rfl (wpAny_pure ?_)))))));refine wpAny_bind (slicePart_none ?_);show wpAny _ _ (if ((1:Int)==0)=true then _ else _) _ _ s;rw [if_neg (by decide)];refine wpAny_bind (zgp pl (wpAny_bind (zgp pu (wpAny_bind (wpAny_pure ?_)))));show wpAny _ _ (match Builtin.Slice.sliceAdjust lo hi 1 (n:Int) with | (lo,hi)=>pure (lo,(1:Int),Builtin.Slice.slicePlaces lo hi 1)) _ _ s;rw [zk2 lo hi n];show wpAny _ _ (pure (((sIx n 0 lo:Nat):Int),(1:Int),Builtin.Slice.slicePlaces ((sIx n 0 lo:Nat):Int) ((sIx n n hi:Nat):Int) 1)) _ _ s;rw [zlc];exact wpAny_pure h
theorem zoA (xs:Array Value) (i k:Nat):((List.range k).filterMap λ(m:Nat)=>xs[((i:Int)+(m:Int)*1).toNat]?).toArray=((xs.toList.drop i).take k).toArray:=by
 have e:(λ(m:Nat)=>xs[((i:Int)+(m:Int)*1).toNat]?)=λm=>xs[i+m]?:=by
  funext m
  have:((i:Int)+(m:Int)*1).toNat=i+m:=by omega
  rw [this]
 rw [e]
 have:=pick_run xs i k
 rw [List.filterMap_map] at this;have e2:((λx=>xs[x]?)∘λx=>i+x)=λm=>xs[i+m]?:=rfl;rw [e2] at this;rw [this]
theorem getItem_tuple_cut {t sl:Addr} {items:Array Value} {vl vu:Value} {lo hi:Option Int} {Q:Value->Shared->Prop} (ht:IsTup s.heap t items) (hs:s.heap.IsSliceOf sl vl vu .none) (pl:IsPart vl lo) (pu:IsPart vu hi)
  (hw:¬ (sIx items.size 0 lo=0/\sIx items.size items.size hi=items.size))
  (h:Q (.ref s.heap.objs.size) { s with heap:=s.heap.push { cls:=.type "tuple",data:=.seq ((items.toList.drop (sIx items.size 0 lo)).take (sIx items.size items.size hi-sIx items.size 0 lo)).toArray } })
  (hsz:items.size<=sizeLine):wpAny (model prog w) A (getItem (.ref t) (.ref sl)) Q E s:=by
 have htake:sizeOk (.seq ((items.toList.drop (sIx items.size 0 lo)).take (sIx items.size items.size hi-sIx items.size 0 lo)).toArray):=by
  show ((items.toList.drop (sIx items.size 0 lo)).take (sIx items.size items.size hi-sIx items.size 0 lo)).toArray.size<=sizeLine;rw [List.size_toArray,List.length_take,List.length_drop,Array.length_toList];omega
 have hj:sIx items.size items.size hi<=items.size:=sIx_le _ _ (Nat.le_refl _) hi;obtain ⟨os,hos,hcs,hds⟩:=id hs;have hTs:s.TypeIs (.ref sl) "slice":=⟨os,hos,hcs⟩;unfold getItem
 try with_reducible refine wpAny_holding ?_
 first | refine wpAny_bind (wpAny_pure ?_) | skip
 refine wpAny_bind (wpAny_sequenceKey ht.typeIs (by decide) ?_)
 refine wpAny_bind (wpAny_callSpecial?_slot (name:=Str.ofString "__getitem__") ht.typeIs PyProof.Rows.slot_tuple_getitem
  (wpAny_call_entry PyProof.Rows.slot_tuple_getitem ht.typeIs entry_tuple_getitem ?_ (args_tuple_getitem _ _)))
 show wpAny _ _ (Builtin.Tuple.tupleItemsOf (.ref t) >>= _) _ _ s;refine wpAny_bind (tupleItemsOf_ ht ?_);refine wpAny_bind (wpAny_typeOf hTs ?_);rw [if_pos (by decide)];refine wpAny_bind (zch hs pl pu ?_)
 have hno:¬ ((((sIx items.size 0 lo:Nat):Int)==0&&(1:Int)==1&&(sIx items.size items.size hi-sIx items.size 0 lo)==items.size)=true):=by
  intro q;rw [Bool.and_eq_true,Bool.and_eq_true] at q;have q1:((sIx items.size 0 lo:Nat):Int)=0:=eq_of_beq q.1.1;have q2:sIx items.size items.size hi-sIx items.size 0 lo=items.size:=eq_of_beq q.2;exact hw ⟨by omega,by omega⟩
 show wpAny _ _ (if (((sIx items.size 0 lo:Nat):Int)==0&&(1:Int)==1&&(sIx items.size items.size hi-sIx items.size 0 lo)==items.size)=true then _ else _) _ _ s;rw [if_neg hno,zoA]
 first
  | exact wpAny_bind (m:=Builtin.Tuple.tupleExact _) (wpAny_newObj_type (wpAny_pure ⟨_,rfl,wpAny_pure h⟩) htake)
  | exact wpAny_bind (m:=Builtin.Tuple.tupleExact _) (wpAny_newObj_type (wpAny_bind (wpAny_pure (wpAny_pure ⟨_,rfl,wpAny_pure h⟩))) htake)
  | exact wpAny_bind (wpAny_bind (m:=Builtin.Tuple.tupleExact _) (wpAny_newObj_type (wpAny_pure (wpAny_pure ⟨_,rfl,wpAny_pure h⟩)) htake))
  | exact wpAny_bind (wpAny_bind (m:=Builtin.Tuple.tupleExact _) (wpAny_newObj_type (wpAny_pure ⟨_,rfl,wpAny_pure h⟩) htake))
end
end HT
namespace L2
open PySem PySem.Spec PyProof.Rows
noncomputable abbrev TO:=St->Hp->(Option Int->Hp->Prop)->Prop
noncomputable def PO (X:Cx) (e:Option Expr) (t:TO):Prop:=
 ∀ (pins:List (Addr×Obj)) (s:Shared) (σ:St) (H:Hp) (Q:Option Int->Hp->Prop),Inv X pins σ H s->t σ H Q →
  wpAny (model X.prog X.w) X.A (evalPart e X.env) (λu s'=>∃ o H',Inv X pins σ H' s'/\IsPart u o/\Q o H') X.xe s
noncomputable def zrs:TO:=λ_ H Q=>Q none H
section
variable {X:Cx} {e:Expr} {te:TE} {lo hi:Option Expr} {tl th:TO} {pos p2:Pos}
theorem zqw:PO X none zrs:=by
 intro pins s σ H Q I h;rw [evalPart_none];exact wpAny_pure ⟨none,H,I,.none,h⟩
noncomputable def SlR (X:Cx) (r:V->Option Int->Option Int->Hp->VK->Prop):Prop:=
 ∀ (pins:List (Addr×Obj)) (s:Shared) (σ:St) (H:Hp) (x:V) (v vl vu:Value) (lo hi:Option Int) (sl:Addr) (Q:VK),Inv X pins σ H s->RelV x v->s.heap.IsSliceOf sl vl vu .none->IsPart vl lo->IsPart vu hi->r x lo hi H Q →
  ∃ T id,typeLookup (.type T) "__getitem__"=pure (some (.builtin id))/\s.TypeIs v T/\wpAny (model X.prog X.w) X.A (getItem v (.ref sl)) (EP X pins σ Q) X.xe s
theorem SlR.or {r r':V->Option Int->Option Int->Hp->VK->Prop} (h:SlR X r) (h':SlR X r'):SlR X (λx lo hi H Q=>r x lo hi H Q\/r' x lo hi H Q):=by
 intro pins s σ H x v vl vu lo hi sl Q I rx hs pl pu q
 rcases q with q | q
 ·exact h pins s σ H x v vl vu lo hi sl Q I rx hs pl pu q
 ·exact h' pins s σ H x v vl vu lo hi sl Q I rx hs pl pu q
noncomputable def tSl (r:V->Option Int->Option Int->Hp->VK->Prop) (te:TE) (tl th:TO):TE:=λσ H Q=>te σ H λx H1=>tl σ H1 λl H2=>th σ H2 λu H3=>r x l u H3 Q
theorem zoH {r:V->Option Int->Option Int->Hp->VK->Prop} (hr:SlR X r) (he:PE X e te) (hl:PO X lo tl) (hu:PO X hi th):PE X (.Subscript e (.Slice lo hi none p2) pos) (tSl r te tl th):=by
 intro pins s σ H Q I h;refine Subscript_ (thn (he pins s σ H _ I h) λv s1 q_=>?_);obtain ⟨x,H1,I1,r1,q1⟩:=q_;refine wpAny_Slice (thn (hl pins s1 σ H1 _ I1 q1) λvl s2 ⟨l,H2,I2,pl,q2⟩=>thn (hu pins s2 σ H2 _ I2 q2) λvu s3 q_=>?_);obtain ⟨u,H3,I3,pu,q3⟩:=q_;rw [evalPart_none];refine wpAny_pure ?_;have I4:Inv X pins σ H3 { s3 with heap:=s3.heap.push { cls:=.type "slice",data:=.fields #[vl,vu,.none] } }:=I3.kept (t':=s3.toks) λb ob q=>Heap.get?_push_of_some _ q;obtain ⟨T,id,hT,ht,hg⟩:=hr pins { s3 with heap:=s3.heap.push { cls:=.type "slice",data:=.fields #[vl,vu,.none] } } σ H3 x v vl vu l u s3.heap.objs.size Q I4 r1 (Heap.IsSliceOf.new ..) pl pu q3;show wpAny (model X.prog X.w) X.A (subscriptTail e (.Slice lo hi none p2) v (.ref s3.heap.objs.size)) (EP X pins σ Q) X.xe { s3 with heap:=s3.heap.push { cls:=.type "slice",data:=.fields #[vl,vu,.none] } };exact tail_any (ops:=[.ref s3.heap.objs.size,v]) ht hT hg (by with_unfolding_all rfl)
noncomputable def cutV (xs:List V) (lo hi:Option Int):List V:=(xs.drop (HT.sIx xs.length 0 lo)).take (HT.sIx xs.length xs.length hi-HT.sIx xs.length 0 lo)
theorem zfy (xs:List V) (lo hi:Option Int):(cutV xs lo hi).length<=xs.length:=by
 unfold cutV;rw [List.length_take,List.length_drop];omega
noncomputable def rSlT (K:PySem.W.Frag):V->Option Int->Option Int->Hp->VK->Prop:=λx lo hi H Q=>∃ a xs,x=.ref a/\SqT K H a xs ∧
 ¬ (HT.sIx xs.length 0 lo=0/\HT.sIx xs.length xs.length hi=xs.length)/\∀ p,H p=none->Q (.ref p) (upd H p (.tup (cutV xs lo hi)))
theorem zsH:SlR X (rSlT X.K):=by
 intro pins s σ H x v vl vu lo hi sl Q I rx hs pl pu h;obtain ⟨a,xs,rfl,hx,hw,q⟩:=h;cases rx;obtain ⟨its,r,ht,hz⟩:=I.tuple hx
 have hlen:its.toArray.size=xs.length:=by rw [List.size_toArray];exact r.length.symm
 refine ⟨"tuple",_,PyProof.Rows.slot_tuple_getitem.lookup,ht.typeIs,?_⟩
 refine HT.getItem_tuple_cut ht hs pl pu (by rw [hlen];exact hw) ?_ (by rw [hlen];exact hz)
 rw [hlen];refine ⟨.ref s.heap.objs.size,_,I.laid (t':=s.toks) (o:=.tup (cutV xs lo hi)) (λb ob q=>Heap.get?_push_of_some _ q) (Nat.le_refl _) ?_,rfl,q _ (I.hok.fresh (Nat.le_refl _))⟩;exact ⟨Nat.le_trans (zfy xs lo hi) hz,_,(r.drop (HT.sIx xs.length 0 lo)).take (HT.sIx xs.length xs.length hi-HT.sIx xs.length 0 lo),zdT.new _ _⟩
noncomputable def zvb (K:PySem.W.Frag):R2:=λx y H Q=>∃ a b xs ys,x=.ref a/\y=.ref b/\SqT K H a xs/\SqT K H b ys/\xs≠[]/\xs.length+ys.length<=sizeLine ∧
 (ys=[]->Q (.ref a) H)/\(ys≠[]->∀ p,H p=none->Q (.ref p) (upd H p (.tup (xs++ys))))
theorem Vals.nil_iff {xs:List V} {us:List Value} (r:Vals xs us):us=[]↔xs=[]:=by
 cases r with
 | nil=>simp
 | cons _ _=>simp
theorem zrB:OpR X (binaryOp .Add) (zvb X.K):=by
 intro pins s σ H x y v u Q I rx ry h;obtain ⟨a,b,xs,ys,rfl,rfl,ha,hb,hx,hz,q1,q2⟩:=h;cases rx;cases ry;obtain ⟨its,r1,p1,_⟩:=I.tuple ha;obtain ⟨its2,r2,p2,_⟩:=I.tuple hb
 refine HT.cat_tup p1 p2 (λz=>hx (r1.nil_iff.mp z)) (λz=>⟨.ref a,H,I,rfl,q1 (r2.nil_iff.mp z)⟩) (λz=>?_) (by rw [<-r1.length,<-r2.length];exact hz)
 refine ⟨.ref s.heap.objs.size,_,I.laid (t':=s.toks) (o:=.tup (xs++ys)) (λb ob q=>Heap.get?_push_of_some _ q) (Nat.le_refl _) ?_,rfl,q2 (λw=>z (r2.nil_iff.mpr w)) _ (I.hok.fresh (Nat.le_refl _))⟩
 exact ⟨by rw [List.length_append];exact hz,_,r1.append r2,zdT.new _ _⟩
end
noncomputable def ixN (n:Nat) (i:Int):Option Nat:=if 0<=i then (if i<n then some i.toNat else none) else if -(n:Int)<=i then some (i+n).toNat else none
noncomputable def atI {α:Type} (xs:List α) (i:Int):Option α:=(ixN xs.length i).bind λj=>xs[j]?
theorem zmf {n:Nat} {i:Int} {j:Nat} (h:ixN n i=some j):seqIndex? i n=some j/\j<n/\-(n:Int)<=i/\i<n:=by
 unfold ixN at h
 by_cases h0:0<=i
 ·rw [if_pos h0] at h
  by_cases h1:i<n
  ·rw [if_pos h1] at h
   have e:i.toNat=j:=Option.some.inj h;exact ⟨by rw [seqIndex_of h0 h1,e],by omega,by omega,h1⟩
  ·rw [if_neg h1] at h;cases h
 ·rw [if_neg h0] at h
  by_cases h1:-(n:Int)<=i
  ·rw [if_pos h1] at h
   have e:(i+n).toNat=j:=Option.some.inj h;exact ⟨by rw [seqIndex_neg (by omega) h1,e],by omega,h1,by omega⟩
  ·rw [if_neg h1] at h;cases h
theorem ziy {α:Type} {xs:List α} {i:Int} {v:α} (h:atI xs i=some v):∃ j,seqIndex? i xs.length=some j/\xs[j]?=some v/\j<xs.length/\-(xs.length:Int)<=i/\i<xs.length:=by
 unfold atI at h
 cases e:ixN xs.length i with
 | none=>rw [e] at h;cases h
 | some j=>
  rw [e] at h;obtain ⟨h1,h2,h3,h4⟩:=zmf e;exact ⟨j,h1,h,h2,h3,h4⟩
noncomputable def zg8 (b:Expr):Prop:=∀ o i,subscripted b false o i=operate [o,i] (getItem o i)
noncomputable def IxR (X:Cx) (r:R2):Prop:=
 ∀ (value slice:Expr) (pins:List (Addr×Obj)) (s:Shared) (σ:St) (H:Hp) (x y:V) (v u:Value) (Q:VK),Inv X pins σ H s->RelV x v->RelV y u->r x y H Q →
  subscripted slice false v u=operate [v,u] (getItem v u)->wpAny (model X.prog X.w) X.A (subscriptTail value slice v u) (EP X pins σ Q) X.xe s
noncomputable def MtR (X:Cx) (id:String) (r:V->List V->Hp->VK->Prop):Prop:=
 ∀ (pins:List (Addr×Obj)) (s:Shared) (σ:St) (H:Hp) (x:V) (xs:List V) (v:Value) (us:List Value) (Q:VK),Inv X pins σ H s->RelV x v->Vals xs us->r x xs H Q →
  wpAny (model X.prog X.w) X.A (call (.builtin id) (v::us)) (EP X pins σ Q) X.xe s
section
variable {X:Cx} {a b:Expr} {ta tb:TE} {pos:Pos}
theorem IxR.or {r r':R2} (h:IxR X r) (h':IxR X r'):IxR X (λx y H Q=>r x y H Q\/r' x y H Q):=by
 intro value slice pins s σ H x y v u Q I rx ry q hs
 rcases q with q | q
 ·exact h value slice pins s σ H x y v u Q I rx ry q hs
 ·exact h' value slice pins s σ H x y v u Q I rx ry q hs
theorem MtR.or {id:String} {r r':V->List V->Hp->VK->Prop} (h:MtR X id r) (h':MtR X id r'):MtR X id (λx xs H Q=>r x xs H Q\/r' x xs H Q):=by
 intro pins s σ H x xs v us Q I rx rs q
 rcases q with q | q
 ·exact h pins s σ H x xs v us Q I rx rs q
 ·exact h' pins s σ H x xs v us Q I rx rs q
theorem ztF {r:R2} (hr:IxR X r) (ha:PE X a ta) (hb:PE X b tb) (hs:zg8 b):PE X (.Subscript a b pos) (tOp r ta tb):=by
 intro pins s σ H Q I h;exact Subscript_ (binT ha hb I h λv u s2 x y H2 I2 rx ry q=>hr a b pins s2 σ H2 x y v u Q I2 rx ry q (hs _ _))
noncomputable def rIxL (K:PySem.W.Frag):R2:=λx y H Q=>∃ p xs i v,x=.ref p/\y=.int i/\SqL K H p xs/\atI xs i=some v/\Q v H
noncomputable def rIxT (K:PySem.W.Frag):R2:=λx y H Q=>∃ p xs i v,x=.ref p/\y=.int i/\SqT K H p xs/\atI xs i=some v/\Q v H
noncomputable def rIxS:R2:=λx y H Q=>∃ z i c,x=.str z/\y=.int i/\z.length<=sizeLine/\atI z.cps.toList i=some c/\Q (.str ⟨#[c]⟩) H
theorem zl4:IxR X (rIxL X.K):=by
 intro value slice pins s σ H x y v u Q I rx ry h hs;obtain ⟨p,xs,i,z,rfl,rfl,hq,he,q⟩:=h;cases rx;obtain ⟨t,rfl⟩:=ry;obtain ⟨its,r,pl,hz⟩:=I.list hq;obtain ⟨j,h1,h2,h3,h4,h5⟩:=ziy he;obtain ⟨w,ew,rw'⟩:=r.get h2;have hl:=r.length;have hn:=zfS;have fin:EP X pins σ Q w s:=⟨z,H,I,rw',q⟩
 by_cases h0:0<=i
 ·have hj:i.toNat=j:=by
   rw [seqIndex_of h0 h5] at h1;exact Option.some.inj h1
  exact item_listR pl.isList h0 (by omega) (by rw [hj];simpa using ew) fin hs
 ·have hj:(i+(its.toArray.size:Int)).toNat=j:=by
   rw [seqIndex_neg (by omega) h4] at h1;rw [List.size_toArray,<-hl];exact Option.some.inj h1
  exact subscriptTail_builtinR (x:=w) pl.isList.typeIs slot_list_getitem.lookup
   (wpAny_getItem_list_neg (Q:=λr s'=>r=w/\EP X pins σ Q r s') pl.isList (by omega) (by rw [List.size_toArray]<;>omega) (by omega) (by rw [hj];simpa using ew) ⟨rfl,fin⟩) hs
theorem zsm:IxR X (rIxT X.K):=by
 intro value slice pins s σ H x y v u Q I rx ry h hs;obtain ⟨p,xs,i,z,rfl,rfl,hq,he,q⟩:=h;cases rx;obtain ⟨t,rfl⟩:=ry;obtain ⟨its,r,pl,hz⟩:=I.tuple hq;obtain ⟨j,h1,h2,h3,h4,h5⟩:=ziy he;obtain ⟨w,ew,rw'⟩:=r.get h2;have hl:=r.length;have hn:=zfS;have fin:EP X pins σ Q w s:=⟨z,H,I,rw',q⟩
 exact subscriptTail_builtinR (x:=w) pl.typeIs slot_tuple_getitem.lookup
  (getItem_tuple (j:=j) (Q:=λr s'=>r=w/\EP X pins σ Q r s') pl (by omega) (by omega) (by rw [List.size_toArray,<-hl];exact h1) (by simpa using ew) ⟨rfl,fin⟩) hs
theorem zsI:IxR X rIxS:=by
 intro value slice pins s σ H x y v u Q I rx ry h hs;obtain ⟨z,i,c,rfl,rfl,hz,he,q⟩:=h;obtain ⟨t,rfl⟩:=rx;obtain ⟨t',rfl⟩:=ry;obtain ⟨j,h1,h2,h3,h4,h5⟩:=ziy he
 have hl:z.cps.toList.length=z.length:=by simp [Str.length]
 rw [hl] at h1 h4 h5;have hn:=zfS
 exact tail_any (typeIs_str s z t) slot_str_getitem.lookup (getItem_str (c:=c) (by
  have e1:decide (i < -(2 ^ 63:Int))=false:=decide_eq_false (by omega);have e2:decide (i ≥ 2 ^ 63)=false:=decide_eq_false (by omega)
  rw [e1,e2,Bool.or_false]) (by rw [h1];simpa using h2) ⟨.str ⟨#[c]⟩,H,I.tok _,⟨_,rfl⟩,q⟩) hs
theorem zk6 (its:List Value) (n j:Nat) (u:Value):Obj.mapSeq (·.setIfInBounds j u) { cls:=.type "list",data:=.seq its.toArray n }={ cls:=.type "list",data:=.seq (its.set j u).toArray n }:=by
 simp [Obj.mapSeq]
theorem Inv.lst {pins:List (Addr×Obj)} {σ:St} {H:Hp} {s:Shared} {p:Addr} {xs:List V} (I:Inv X pins σ H s) (h:H p=some (.lst xs)) :
  ∃ (its:List Value) (n:Nat),Vals xs its/\s.heap.get? p=some { cls:=.type "list",data:=.seq its.toArray n }/\xs.length<=sizeLine:=by
 obtain ⟨z,its,n,r,e⟩:=I.hok p _ h;exact ⟨its,n,r,e,z⟩
theorem Inv.lstUpd {pins:List (Addr×Obj)} {σ:St} {H:Hp} {s:Shared} {p:Addr} {xs ys:List V} {its its':List Value} {n n':Nat} {f:Obj->Obj} (I:Inv X pins σ H s) (h:H p=some (.lst xs))
  (ho:s.heap.get? p=some { cls:=.type "list",data:=.seq its.toArray n }) (hf:f { cls:=.type "list",data:=.seq its.toArray n }={ cls:=.type "list",data:=.seq its'.toArray n' }) (r:Vals ys its') (hz:ys.length<=sizeLine) (t:Nat) :
  Inv X pins σ (upd H p (.lst ys)) { s with heap:=s.heap.update p f,toks:=t }:=by
 have e:(s.heap.update p f).get? p=some { cls:=.type "list",data:=.seq its'.toArray n' }:=by
  rw [Heap.get?_update_self f ho (by rw [hf]<;>rfl),hf]
 refine I.write (x:=p) (e:=p) (by rw [h];trivial) (.inl rfl) (λb u hb q=>(Heap.get?_update_other _ _ (Ne.symm hb)).trans q) ⟨_,e⟩ ?_
 exact ⟨hz,its',n',r,e⟩
noncomputable def zvw:V->V->V->Hp->(Hp->Prop)->Prop:=λo i v H Q=>∃ p xs k j,o=.ref p/\i=.int k/\H p=some (.lst xs)/\ixN xs.length k=some j/\Q (upd H p (.lst (xs.set j v)))
theorem zoO:PSet X zvw:=by
 intro pins s σ H o i v ov iv u Q I ro ri rv h;obtain ⟨p,xs,k,j,rfl,rfl,hp,hj,q⟩:=h;cases ro;obtain ⟨t,rfl⟩:=ri;obtain ⟨its,n,r,ho,hz⟩:=I.lst hp;obtain ⟨h1,h2,h3,h4⟩:=zmf hj;have hl:=r.length;have hn:=zfS
 have I':Inv X pins σ (upd H p (.lst (xs.set j v))) { s with heap:=s.heap.update p (Obj.mapSeq (·.setIfInBounds j u)) }:=
  I.lstUpd hp ho (zk6 its n j u) (r.set rv j) (by rw [List.length_set];exact hz) s.toks
 by_cases h0:0<=k
 ·have hk:k.toNat=j:=by
   rw [seqIndex_of h0 h4] at h1;exact Option.some.inj h1
  exact PySem.W.ki_setAt ho h0 (by omega) (by rw [List.size_toArray,<-hl];exact h4) (by rw [hk];exact ⟨_,I',q⟩)
 ·have hk:(k+(its.toArray.size:Int)).toNat=j:=by
   rw [seqIndex_neg (by omega) h3] at h1;rw [List.size_toArray,<-hl];exact Option.some.inj h1
  exact PySem.W.ki_setBack ho (by omega) (by rw [List.size_toArray,<-hl];exact h3) (by omega) (by rw [hk];exact ⟨_,I',q⟩)
theorem zh7 (lo hi:Option Int) (n:Nat):(sliceBounds lo hi none n).1=((HT.sIx n 0 lo:Nat):Int)/\(sliceBounds lo hi none n).2.1=((HT.sIx n n hi:Nat):Int)/\(sliceBounds lo hi none n).2.2=1:=by
 refine ⟨?_,?_,rfl⟩
 ·cases lo with
  | none=>simp [sliceBounds,HT.sIx]
  | some i=>
   simp only [sliceBounds,HT.sIx,Option.getD_none,show (1:Int)>0 by decide,if_true]
   by_cases h:i<0
   ·simp only [h,if_true]<;>omega
   ·simp only [h,if_false]<;>omega
 ·cases hi with
  | none=>simp [sliceBounds,HT.sIx]
  | some i=>
   simp only [sliceBounds,HT.sIx,Option.getD_none,show (1:Int)>0 by decide,if_true]
   by_cases h:i<0
   ·simp only [h,if_true]<;>omega
   ·simp only [h,if_false]<;>omega
theorem zg2 (its:List Value) (lo hi:Option Int):slicePick its.toArray lo hi none=((its.drop (HT.sIx its.length 0 lo)).take (HT.sIx its.length its.length hi-HT.sIx its.length 0 lo)).toArray:=by
 obtain ⟨h1,h2,h3⟩:=zh7 lo hi its.toArray.size;unfold slicePick;rw [h1,h2,h3]
 simp only [sliceRange_one,pick_run,List.size_toArray]<;>rfl
noncomputable def rSlL (K:PySem.W.Frag):V->Option Int->Option Int->Hp->VK->Prop:=λx lo hi H Q=>∃ a xs,x=.ref a/\SqL K H a xs/\∀ p,H p=none->Q (.ref p) (upd H p (.lst (cutV xs lo hi)))
theorem zsb:SlR X (rSlL X.K):=by
 intro pins s σ H x v vl vu lo hi sl Q I rx hs pl pu h;obtain ⟨a,xs,rfl,hx,q⟩:=h;cases rx;obtain ⟨its,r,ht,hz⟩:=I.list hx;have hlen:=r.length;refine ⟨"list",_,slot_list_getitem.lookup,ht.isList.typeIs,?_⟩
 refine wpAny_getItem_list_slice ht.isList hs pl pu .none (by simp) ?_ (by rw [List.size_toArray]<;>omega)
 rw [zg2,<-hlen];refine ⟨.ref s.heap.objs.size,_,I.laid (t':=s.toks) (o:=.lst (cutV xs lo hi)) (λb ob q=>Heap.get?_push_of_some _ q) (Nat.le_refl _) ?_,rfl,q _ (I.hok.fresh (Nat.le_refl _))⟩;exact ⟨Nat.le_trans (zfy xs lo hi) hz,_,0,(r.drop (HT.sIx xs.length 0 lo)).take (HT.sIx xs.length xs.length hi-HT.sIx xs.length 0 lo),Heap.get?_push_size _ rfl⟩
theorem zdX.or {f:Value} {r r':List V->Hp->VK->Prop} (h:zdX X f r) (h':zdX X f r'):zdX X f (λxs H Q=>r xs H Q\/r' xs H Q):=by
 intro pins s σ H xs us Q I rs q
 rcases q with q | q
 ·exact h pins s σ H xs us Q I rs q
 ·exact h' pins s σ H xs us Q I rs q
theorem zic:zdX X (.type "list") (λxs H Q=>∃ p ys,xs=[.ref p]/\(SqL X.K H p ys\/SqT X.K H p ys)/\∀ l,H l=none->Q (.ref l) (upd H l (.lst ys))):=by
 intro pins s σ H xs us Q I r h;obtain ⟨p,ys,rfl,hq,q⟩:=h;obtain ⟨u,rfl,rx⟩:=zhm r;cases rx
 have fin:∀ (its:List Value),Vals ys its->ys.length<=sizeLine->∀ (h':Heap) (c':Nat),(∀ b o',s.heap.get? b=some o'->h'.get? b=some o') →
   h'.get? s.heap.objs.size=some { cls:=.type "list",dict:=none,data:=.seq its.toArray c',slots:=#[] }->EP X pins σ Q (.ref s.heap.objs.size) { s with heap:=h' }:=λits r' hz h' c' kp e=>
  ⟨.ref s.heap.objs.size,_,I.laid (t':=s.toks) kp (Nat.le_refl _) (show zb2 X.prog X.w _ h' _ (.lst ys) from ⟨hz,its,c',r',e⟩),rfl,q _ (I.hok.fresh (Nat.le_refl _))⟩
 rcases hq with hq | hq
 ·obtain ⟨its,r',pl,hz⟩:=I.list hq
  have hlen:=r'.length;obtain ⟨o,ho,hc,n,hd⟩:=pl.isList
  exact call_list_seq p (.inl rfl) ho hc hd (λh' c' kp e=>fin its r' hz h' c' kp e) (by simp only [List.size_toArray]<;>omega)
 ·obtain ⟨its,r',pl,hz⟩:=I.tuple hq
  have hlen:=r'.length;obtain ⟨o,ho,hc,n,hd⟩:=pl
  exact call_list_seq p (.inr rfl) ho hc hd (λh' c' kp e=>fin its r' hz h' c' kp e) (by simp only [List.size_toArray]<;>omega)
theorem zdO:zdX X (.type "tuple") (λxs H Q=>∃ p ys,xs=[.ref p]/\((SqL X.K H p ys/\∀ l,H l=none->Q (.ref l) (upd H l (.tup ys)))\/(SqT X.K H p ys/\Q (.ref p) H))):=by
 intro pins s σ H xs us Q I r h;obtain ⟨p,ys,rfl,h⟩:=h;obtain ⟨u,rfl,rx⟩:=zhm r;cases rx
 rcases h with ⟨hq,q⟩ | ⟨hq,q⟩
 ·obtain ⟨its,r',pl,hz⟩:=I.list hq
  have hlen:=r'.length
  refine call_tuple_list pl.isList (λh' kp=>?_) (by simp only [List.size_toArray]<;>omega)
  have I1:Inv X pins σ H { s with heap:=h' }:=I.kept (t':=s.toks) kp
  have I2:Inv X pins σ (upd H h'.objs.size (.tup ys)) { s with heap:=h'.push { cls:=.type "tuple",data:=.seq its.toArray } }:=
   I1.laid (t':=s.toks) (λb o e=>Heap.get?_push_of_some _ e) (Nat.le_refl _) (show zb2 X.prog X.w _ _ _ (.tup ys) from ⟨hz,its,r',zdT.new _ _⟩)
  exact ⟨.ref h'.objs.size,_,I2,rfl,q _ (I1.hok.fresh (Nat.le_refl _))⟩
 ·obtain ⟨its,r',pl,hz⟩:=I.tuple hq
  exact call_tuple_same pl ⟨.ref p,H,I,rfl,q⟩
noncomputable def tyV (K:PySem.W.Frag) (T:String) (x:V) (H:Hp):Prop:=match x with
 | .str _=>T="str"
 | .int _=>T="int"
 | .ref p=>(T="list"/\∃ xs,SqL K H p xs)\/(T="tuple"/\∃ xs,SqT K H p xs) ∨
   (T="dict"/\((∃ kvs,H p=some (.dK kvs))\/∃ kvs,Rd H p (.dT kvs)))\/(T="set"/\∃ S n,H p=some (.set S n))
 | _=>False
theorem zt8 {pins:List (Addr×Obj)} {σ:St} {H:Hp} {s:Shared} {T:String} {x:V} {v:Value} (I:Inv X pins σ H s) (r:RelV x v) (ty:tyV X.K T x H) :
  s.TypeIs v T/\∀ a,v=.ref a->∃ ob,s.heap.get? a=some ob/\ob.dict=none:=by
 cases x with
 | str z=>
  obtain ⟨t,rfl⟩:=r
  cases (show T="str" from ty)
  exact ⟨typeIs_str s z t,λ_ e=>nomatch e⟩
 | int i=>
  obtain ⟨t,rfl⟩:=r
  cases (show T="int" from ty)
  exact ⟨typeIs_int s i t,λ_ e=>nomatch e⟩
 | ref p=>
  cases r
  rcases ty with ⟨rfl,xs,hq⟩ | ⟨rfl,xs,hq⟩ | ⟨rfl,hk⟩ | ⟨rfl,S,n,hk⟩
  ·obtain ⟨its,_,pl,_⟩:=I.list hq
   refine ⟨pl.isList.typeIs,λa e=>?_⟩;cases e;obtain ⟨o,n,e,c,hd,_⟩:=pl;exact ⟨o,e,hd⟩
  ·obtain ⟨its,_,⟨o,e,c,_⟩,_⟩:=I.tuple hq
   refine ⟨⟨o,e,c⟩,λa e2=>?_⟩;cases e2;exact ⟨o,e,I.tupleB hq o e⟩
  ·have z:∃ o,s.heap.get? p=some o/\o.ExactDict:=by
    rcases hk with ⟨kvs,hk⟩ | ⟨kvs,hk⟩
    ·obtain ⟨_,_,_,_,o,_,_,e,ex,_⟩:=I.hok p _ hk
     exact ⟨o,e,ex⟩
    ·obtain ⟨_,_,_,_,o,_,_,e,ex,_⟩:=(show zb2 X.prog X.w H s.heap p (.dT kvs) from hk.ok I.hok)
     exact ⟨o,e,ex⟩
   obtain ⟨o,e,ex⟩:=z;refine ⟨⟨o,e,ex.1⟩,λa e2=>?_⟩;cases e2;exact ⟨o,e,ex.2.1⟩
  ·obtain ⟨o,_,_,_,e,ex,_⟩:=I.hok p _ hk
   refine ⟨⟨o,e,ex.1⟩,λa e2=>?_⟩;cases e2;exact ⟨o,e,ex.2.1⟩
 | _=>exact False.elim ty
noncomputable def tBM (K:PySem.W.Frag) (T:String) (r:V->List V->Hp->VK->Prop) (to:TE) (t:TA):TE:=λσ H Q=>to σ H λx H1=>tyV K T x H1/\t σ H1 λxs H2=>r x xs H2 Q
variable {o e:Expr} {es:List Expr} {to:TE} {t:TA} {name:Str} {apos cpos:Pos} {T id:String} {r:V->List V->Hp->VK->Prop}
theorem znK (pa:PlainAttrs T) (slot:Slot T name id) (hty:typeOf (.builtin id)=pure (.type "method_descriptor")) (hm:MtR X id r) (ho:PE X o to) (ha:PA X (e::es) t)
  (hbase:attributeBase o name X.env (eval o X.env)=eval o X.env:=by rfl)
  (hfew:((backTo cpos (starEach (e::es) X.env)).all (λx=>!x.1)&&(backToKw cpos (keywordEach [] X.env)).all (λx=>x.1.isSome)
   && decide ((e::es).length+([]:List Keyword).length+(if ([]:List Keyword).isEmpty then 0 else 1)<30))=true:=by rfl)
  (hline:(apos.endLine==cpos.line)=true:=by rfl) (hs:starEach (e::es) X.env=(false,eval e X.env)::starEach es X.env:=by rfl) (hplain:(backTo cpos (starEach es X.env)).any (·.1)=false:=by rfl) :
  PE X (.Call (.Attribute o name apos) (e::es) [] cpos) (tBM X.K T r to t):=by
 intro pins s σ H Q I h;refine wpAny_Call_method_late hbase hfew hline rfl (thn (ho pins s σ H _ I h) λv s1 q_=>?_);obtain ⟨x,H1,I1,r1,ty,q1⟩:=q_;obtain ⟨h1,h2⟩:=zt8 I1 r1 ty;refine ⟨T,id,pa,slot,hty,h1,h2,?_⟩;have hA:=ha cpos pins s1 σ H1 _ I1 q1;rw [hs] at hA ⊢
 refine Calls.callWith_builtin (by show (false||(backTo cpos (starEach es X.env)).any (·.1))=false;rw [hplain]<;>rfl) (Calls.evalArgs_plain ?_)
 exact thn hA λus s2 ⟨vs,H2,I2,r2,q2⟩=>hm pins s2 σ H2 x vs v us Q I2 r1 r2 q2
/- xs.append(e),list.index on a module's tuple .. are MtR facts of 06m -/
end
noncomputable def MtM (X:Cx) (id:String) (r:V->List V->Hp->VK->Prop):Prop:=
 ∀ (pins:List (Addr×Obj)) (s:Shared) (σ:St) (H:Hp) (x:V) (xs:List V) (v:Value) (us:List Value) (Q:VK),Inv X pins σ H s->RelV x v->Vals xs us->r x xs H Q →
  wpAny (model X.prog X.w) X.A (call (.builtin id) (v::us)) (EP X pins σ Q) X.xe s
theorem Vals.one:∀ {x:V} {us:List Value},Vals [x] us->∃ u,us=[u]/\RelV x u
 | _,_,.cons r .nil=>⟨_,rfl,r⟩
theorem Vals.two {x y:V} {us:List Value} (h:Vals [x,y] us):∃ u v,us=[u,v]/\RelV x u/\RelV y v:=by
 cases h with
 | cons r t=>obtain ⟨_,rfl,q⟩:=Vals.one t;exact ⟨_,_,rfl,r,q⟩
theorem Vals.zero:∀ {us:List Value},Vals [] us->us=[]
 | _,.nil=>rfl
theorem Vals.dropLast {xs:List V} {us:List Value} (h:Vals xs us):Vals xs.dropLast us.dropLast:=by
 induction h with
 | nil=>exact .nil
 | cons r t ih=>
  cases t with
  | nil=>exact .nil
  | cons q t'=>exact .cons r ih
theorem Vals.eraseIdx:∀ {xs:List V} {us:List Value} (i:Nat),Vals xs us->Vals (xs.eraseIdx i) (us.eraseIdx i)
 | _,_,_,.nil=>.nil
 | _,_,0,.cons _ t=>t
 | _,_,i+1,.cons r t=>.cons r (Vals.eraseIdx i t)
theorem Vals.rep {xs:List V} {us:List Value} (h:Vals xs us):∀ k:Nat,Vals (List.replicate k xs).flatten (List.replicate k us).flatten
 | 0=>.nil
 | k+1=>by
  rw [List.replicate_succ,List.replicate_succ,List.flatten_cons,List.flatten_cons];exact Vals.append h (Vals.rep h k)
theorem zhO {α:Type}:∀ (l:List α) (i:Nat),(l.eraseIdx i).length<=l.length
 | [],_=>Nat.le_refl _
 | _::_,0=>Nat.le_succ _
 | _::r,i+1=>Nat.succ_le_succ (zhO r i)
section
variable {X:Cx} {pins:List (Addr×Obj)} {σ:St} {H:Hp} {s:Shared} {l b:Addr} {xs ys zs:List V}
theorem Inv.lset {its its':List Value} {n:Nat} {f:Array Value->Array Value} {t':Nat} (I:Inv X pins σ H s) (hH:H l=some (.lst xs))
  (e:s.heap.get? l=some { cls:=.type "list",data:=.seq its.toArray n }) (hf:f its.toArray=its'.toArray) (hv:Vals ys its') (hz:ys.length<=sizeLine) :
  Inv X pins σ (upd H l (.lst ys)) { s with heap:=s.heap.update l (Obj.mapSeq f),toks:=t' }:=by
 have q:=PySem.IsL.update e f;rw [hf] at q
 refine I.write (x:=l) (e:=l) (by rw [hH];exact trivial) (.inl rfl) (λb' u hb hu=>(Heap.get?_update_other s.heap (Obj.mapSeq f) (Ne.symm hb)).trans hu) ⟨_,q⟩ ?_
 exact ⟨hz,its',_,hv,q⟩
theorem Inv.lnew {its:List Value} {t':Nat} (I:Inv X pins σ H s) (hv:Vals ys its) (hz:ys.length<=sizeLine) :
  Inv X pins σ (upd H s.heap.objs.size (.lst ys)) { s with heap:=s.heap.push { cls:=.type "list",data:=.seq its.toArray },toks:=t' }:=
 I.laid (λ_ _ q=>Heap.get?_push_of_some _ q) (Nat.le_refl _) ⟨hz,its,0,hv,Heap.get?_push_size _ rfl⟩
theorem Inv.fresh (I:Inv X pins σ H s):H s.heap.objs.size=none:=I.hok.fresh (Nat.le_refl _)
theorem Inv.lstM (I:Inv X pins σ H s) (hH:H l=some (.lst xs)):xs.length<=sizeLine/\∃ (its:List Value) (n:Nat),Vals xs its/\xs.length=its.length/\s.heap.get? l=some { cls:=.type "list",data:=.seq its.toArray n }:=by
 obtain ⟨z,its,n,r,e⟩:=I.hok l _ hH;exact ⟨z,its,n,r,r.length,e⟩
theorem zn5 {n:Nat} (h:n<=sizeLine):Builtin.List.listTooLong n=false:=by
 unfold Builtin.List.listTooLong;exact decide_eq_false (by omega)
end
section
variable {X:Cx}
noncomputable def zrY:V->List V->Hp->VK->Prop:=λx vs H Q=>∃ l xs y,x=.ref l/\vs=[y]/\H l=some (.lst xs)/\xs.length<sizeLine/\Q .non (upd H l (.lst (xs++[y])))
theorem zmT:MtM X "list.append" zrY:=by
 intro pins s σ H x vs v us Q I rx rv h;obtain ⟨l,xs,y,rfl,rfl,hH,hz,q⟩:=h;cases rx;obtain ⟨u,rfl,ru⟩:=rv.one;obtain ⟨z,its,n,r,hl,e⟩:=I.lstM hH
 refine call_meets F.slot_list_append ⟨_,e,rfl⟩ F.entry_list_append (F.args_list_append_2 _ _) (PySem.list_append l its.toArray n u (by rw [List.size_toArray];omega)) ⟨e,?_⟩
 refine ⟨.non,_,I.lset (its':=its++[u]) hH e (by simp) (r.append (.cons ru .nil)) ?_,rfl,q⟩;rw [List.length_append,List.length_singleton];omega
noncomputable def zsl:V->List V->Hp->VK->Prop:=λx vs H Q=>∃ l xs i k y,x=.ref l/\vs=[.int i]/\H l=some (.lst xs)/\-(2 ^ 63)<=i/\i<2 ^ 63/\seqIndex? i xs.length=some k/\xs[k]?=some y/\Q y (upd H l (.lst (xs.eraseIdx k)))
theorem zoh:MtM X "list.pop" zsl:=by
 intro pins s σ H x vs v us Q I rx rv h;obtain ⟨l,xs,i,k,y,rfl,rfl,hH,h1,h2,hk,hy,q⟩:=h;cases rx;obtain ⟨u,rfl,ru⟩:=rv.one;obtain ⟨t,rfl⟩:=ru;obtain ⟨z,its,n,r,hl,e⟩:=I.lstM hH;obtain ⟨w,hw,rw'⟩:=r.get hy
 refine call_meets F.slot_list_pop ⟨_,e,rfl⟩ F.entry_list_pop (F.args_list_pop_2 _ _)
  (MeetsSeq.list_pop_at l its.toArray n i t k w (fitsIndex_both h1 h2) (by rw [List.size_toArray,<-hl];exact hk) (by rw [<-Array.getElem?_toList];exact hw) (by rw [List.size_toArray];omega)) ⟨e,?_⟩
 refine ⟨y,_,I.lset (its':=its.eraseIdx k) hH e ?_ (r.eraseIdx k) ?_,rw',q⟩
 ·show its.toArray.eraseIdxIfInBounds k=(its.eraseIdx k).toArray
  rw [List.eraseIdxIfInBounds_toArray]
 ·have:=zhO xs k
  omega
end
section
variable {prog:Program} {w:World} {A:Around} {E:Value->Shared->Prop} {s:Shared}
end
section
variable {X:Cx}
end
end L2
namespace Att
open PySem PySem.W PySem.Calls PyProof.Rows
theorem zeV {P:Params} {h:Heap}:∀ (ns:List Int) (vs:List Value),WellAll P h vs (ns.map WData.int)->IntsAre vs ns:=by
 intro ns
 induction ns with
 | nil=>
  intro vs w;rw [List.map_nil] at w;cases w;exact .nil
 | cons n ns ih=>
  intro vs w;rw [List.map_cons] at w
  cases w with
  | cons a b=>
   cases a;exact .cons _ _ (ih _ b)
theorem zl3 {l:OpenLaw} {n:Nat} (hn:l.most=some n) {P:Params} {h:Heap} {args:List WData} {vals:List Value}
  (hpre:l.row.toRowW.claim.pre args=true) (hwl:WellAll P h vals args) :
  ∃ a vs ns,vals=[Value.ref a]/\args=[WData.list (ns.map WData.int)]/\h.get? a=some { cls:=.type "list",data:=.seq vs.toArray }/\IntsAre vs ns/\ns.length<=n:=by
 have hsh:WShape.hasAll [] args [.list .int]=true:=(pre_splitW hpre).1;have hc:l.pre.holds [] { args:=args }=true:=(pre_splitW hpre).2;obtain ⟨d,r,rfl,h1,h2⟩:=hasAllW_cons hsh;obtain rfl:=hasAllW_nil h2;obtain ⟨xs,rfl,h3⟩:=hasW_list h1;obtain ⟨ns,rfl⟩:=items_int h3
 have hlen:ns.length<=n:=by
  unfold OpenLaw.pre at hc
  have h4:(WTm.not (.lt (.lit (.int (n:Int))) (.len (.arg 0)))).holds [] { args:=[.list (ns.map .int)] }=true:=by
   have h4:=(holds_andW hc).1;rw [hn] at h4;exact h4
  have h5:=condW_of h4 (w_not (w_lt w_lit (w_len_list (w_arg rfl))));rw [List.length_map] at h5;refine Nat.le_of_not_lt λq=>?_
  have q':(n:Int)<((ns.length:Nat):Int):=by omega
  first
   | (rw [decide_eq_true q'] at h5;exact absurd h5 (by decide))
   | (simp at h5;omega)
 cases hwl with
 | cons w1 w2=>
  cases w2
  cases w1 with
  | list ho hall=>exact ⟨_,_,ns,rfl,rfl,ho,zeV ns _ hall,hlen⟩
theorem znz (l:OpenLaw) (args:List WData):l.row.toRowW.claim.post args (.bool true) args=true:=
 postW_of (r:=l.row.toRowW) (X:=(true==true))
  (show WShape.has [] (.bool true) .bool=true by first | rfl | decide | simp [WShape.has,WShape.arms,WShape.armsAll])
  (show (WTm.eq .res (.lit (.bool true))).value [] { args:=args,res:=some (.bool true),after:=args }=some (.bool (true==true)) from w_eq_bool (w_res rfl) w_lit) rfl
theorem attach_call {l:OpenLaw} {n:Nat} {q:Program} {loose:List Str} {XP:(Str->Option Value)->Heap->Prop} {YP:World->Heap->Prop} {d:DefRec}
  (hn:l.most=some n) (hdf:d.params.defaults=[])
  (call:∀ (w:World) (s₀ s₁:Shared) (mg mb:Str->Option Value) (fa:Addr) (o:Obj) (pm cd doc:Value) (a:Addr) (vs:List Value) (ns:List Int),
   Ground q loose [] XP w s₀ mg mb s₁.heap->YP w s₁.heap →
   s₁.heap.get? fa=some o->o.data=.func (docDef d.name d.params d.body d.scope pm cd doc)->s₁.heap.CodeRec cd d.name->mg d.name=some (.ref fa) →
   s₁.heap.get? a=some { cls:=.type "list",data:=.seq vs.toArray }->IntsAre vs ns->ns.length<=n->s₁.gens=#[] →
   codeAny (model l.prog w) callerA (.call (.ref fa) ⟨[.ref a],[]⟩) (λr s'=>r=.ok (.ret (.bool true))/\OldK s₁.heap s'.heap/\s'.os=s₁.os/\AllBare s'.gens) s₁) :
  WalkO q loose XP YP l.row.toRowW d [] (λf vs=>PySem.call f vs):=by
 intro w s₀ s₁ mg mb G Y fa o pm cd doc dV kV ho hd hcd hD hmg hg args vals as hpre hlay hrd hwl hlo;obtain rfl:dV=.none:=Dflts.none hD hdf;obtain rfl:kV=.none:=Dflts.noKw hD;obtain ⟨a,vs,ns,rfl,rfl,hobj,hints,hlen⟩:=zl3 hn hpre hwl;refine enter_call (codeAny_mono (call w s₀ s₁ mg mb fa o pm cd doc a vs ns G Y ho (fd_plain hd) hcd hmg hobj hints hlen hg) λr s' hq=>?_);obtain ⟨rfl,h2,h3,h4⟩:=hq;exact ⟨.inl ⟨.bool true,.bool true,[],rfl,λ_=>rfl,.bool true,znz l _,λ_=>⟨List.Pairwise.nil,λ_ hm=>(nomatch hm)⟩⟩,h2,h3,h4⟩
section
variable {prog:Program} {w:World} {A:Around} {E:Value->Shared->Prop} {s:Shared} {K:Frag}
noncomputable def zvK (h:Heap) (L d:Addr):List (Addr×Obj):=(List.range h.objs.size).filterMap λa=>if a=L\/a=d then none else (h.get? a).map λo=>(a,o)
end
end Att
namespace L2
open PySem PySem.Spec PyProof.Rows
theorem zhr:∀ {vs:List Value} {ns:List Int},IntsAre vs ns->Vals (ns.map V.int) vs
 | _,_,.nil=>.nil
 | _,_,.cons n t h=>.cons ⟨t,rfl⟩ (zhr h)
noncomputable def Only (H:Hp):Prop:=∀ b,H b=none\/∃ o xs,H b=some (.frz o (.lst xs))
theorem law_call {P:Program} {w:World} {K:PySem.W.Frag} {mg mb:Str->Option Value} {CX:CXT} {k:Nat} {fa a:Addr} {fd:FuncData} {x:Str} {sp:Sp} {s₁:Shared} {vs:List Value} {ns:List Int}
  (KX:K.In s₁.heap) (hns:s₁.heap.Ns mainGlobals mg) (hb:s₁.heap.Ns builtinsNs mb) (hbb:∀ x:Str,x ≠ "__name__"->mb x=bootBuiltins x) (hlim:s₁.heap.NoLimit) (hg:s₁.gens=#[])
  (ha:s₁.heap.get? a=some { cls:=.type "list",data:=.seq vs.toArray }) (hi:IntsAre vs ns) (hl:ns.length<=sizeLine) (hr:Room k callerA)
  (F:∀ base:Heap,K.In base->base.Ns mainGlobals mg->FnOk P w K mg base CX k fa fd [x] sp) (hbind:∀ (s:Shared) (u:Value),BindsTo s fd ⟨[u],[]⟩ [(x,u)])
  (hsp:∀ H:Hp,Only H->SqL K H a (ns.map V.int)->sp [.ref a] H (λv _=>v=.bl true) λ_ _ _=>False)
  (hCX:∀ H e s',CX [] H s₁ (λ_ _ _=>False) e s'->False) :
  codeAny (model P w) callerA (.call (.ref fa) ⟨[.ref a],[]⟩) (λr s'=>r=.ok (.ret (.bool true))/\OldK s₁.heap s'.heap/\s'.os=s₁.os/\AllBare s'.gens) s₁:=by
 have rv:=zhr hi;have lenV:=hi.length
 have core:∀ H:Hp,Only H->SqL K H a (ns.map V.int)->HOk P w H s₁.heap->(∀ b,H b≠none->b=a)->(H a≠none->K.lookup a=none) →
   codeAny (model P w) callerA (.call (.ref fa) ⟨[.ref a],[]⟩) (λr s'=>r=.ok (.ret (.bool true))/\OldK s₁.heap s'.heap/\s'.os=s₁.os/\AllBare s'.gens) s₁:=by
  intro H hO hS hok hA hK;have base_of:∀ {b:Addr} {o:Obj},s₁.heap.get? b=some o->H b=none->(hidT s₁.heap H).get? b=some o:=λe n=>zpp e n
  have noA:∀ {b:Addr} {o:Obj} {es:Array DictEntry} {ep:Nat},s₁.heap.get? b=some o->o.data=.dict es ep->H b=none:=λ{b o es ep} e d=>by
   cases q:H b with
   | none=>rfl
   | some u=>
    have e':b=a:=hA b (by rw [q];simp)
    subst e'
    rw [ha] at e;cases e
    have d':Data.seq vs.toArray _=Data.dict es ep:=d;cases d'
  have nsK:∀ {b:Addr} {m:Str->Option Value},s₁.heap.Ns b m->(hidT s₁.heap H).Ns b m:=λ{b m} ⟨o,es,ep,e,d,r⟩=>⟨o,es,ep,base_of e (noA e d),d,r⟩
  have hKb:K.In (hidT s₁.heap H):=λb o e=>base_of (KX b o e) (by
   cases q:H b with
   | none=>rfl
   | some u=>
    have e':b=a:=hA b (by rw [q];simp)
    subst e'
    rw [hK (by rw [q];simp)] at e;cases e)
  have hM:Mod K mg (hidT s₁.heap H):=⟨hKb,nsK hns,⟨mb,nsK hb,hbb⟩,let ⟨mc,h1,h2⟩:=hlim;⟨mc,nsK h1,h2⟩⟩
  have e0:Env0 P w K mg (hidT s₁.heap H) callerA [] s₁ H:=⟨rfl,hM,λb o e=>zr2 e,Nat.le_of_eq (znu _ _),trivial,λb hb=>absurd (show b∈([]:List Addr) from hb) (by simp),hok,.of_eq hg⟩;refine codeAny_mono ((F _ hKb (nsK hns)).run callerA [] s₁ H ⟨[.ref a],[]⟩ [.ref a] [.ref a] _ _ hr e0 (hbind s₁ (.ref a)) (.cons rfl .nil) (hsp H hO hS)) λr s' h=>?_
  cases r with
  | error e=>exact (hCX H e s' h).elim
  | ok fl=>
   cases fl with
   | next=>exact False.elim h
   | brk=>exact False.elim h
   | cont=>exact False.elim h
   | ret u=>
    obtain ⟨v,H',os,bare,un,hok',r',q⟩:=h;have q':v=.bl true:=q;subst q';obtain rfl:u=Value.bool true:=r';refine ⟨rfl,OldK.of_keep λb o e=>?_,os,bare⟩
    cases q:H b with
    | none=>exact un.keep b o e q (by intro z;exact absurd (show b∈([]:List Addr) from z) (by simp)) (by simp)
    | some u=>
     rcases hO b with z | ⟨ob,xs,z⟩
     ·rw [q] at z;cases z
     ·have z2:=un.frzs b ob _ z
      obtain ⟨e1,_⟩:=hok b _ z;obtain ⟨e2,_⟩:=hok' b _ z2
      rw [e] at e1;cases e1
      exact e2
 cases hk:K.lookup a with
 | some o=>
  have e:=KX a o hk;rw [ha] at e;cases e
  refine core (λ_=>none) (λ_=>.inl rfl) (.inr ⟨_,vs.toArray,_,hk,rfl,rfl,rfl,by rw [List.size_toArray,lenV];exact hl,by simpa using rv⟩) (λb u z=>by have z':(none:Option HO)=some u:=z;cases z') (λb z=>absurd rfl z) λz=>absurd rfl z
 | none=>
  refine core (λb=>if b=a then some (.frz { cls:=.type "list",data:=.seq vs.toArray } (.lst (ns.map V.int))) else none) (λb=>?_) (.inl (.inr ⟨{ cls:=.type "list",data:=.seq vs.toArray },if_pos rfl⟩)) (λb u z=>?_) (λb z=>?_) λ_=>hk
  ·by_cases hb:b=a
   ·exact .inr ⟨_,_,if_pos hb⟩
   ·exact .inl (if_neg hb)
  ·by_cases hb:b=a
   ·have z':=(if_pos hb).symm.trans z
    cases z';subst hb
    exact ⟨ha,by rw [List.length_map];exact hl,vs,_,rv,ha⟩
   ·have z':=(if_neg hb).symm.trans z
    cases z'
  ·by_cases hb:b=a
   ·exact hb
   ·exact absurd (if_neg hb) z
noncomputable abbrev KOf {K:PySem.W.Frag} {h:Heap} (_:K.In h):PySem.W.Frag:=K
theorem walk_of {l:PySem.W.OpenLaw} {n k:Nat} {q:Program} {loose:List Str} {XP:(Str->Option Value)->Heap->Prop} {YP:World->Heap->Prop} {d:DefRec} {K:Params->PySem.W.Frag} {CX:World->CXT} {sp:World->Sp} {x:Str}
  (hn:l.most=some n) (hn2:n<=sizeLine) (hdf:d.params.defaults=[]) (hr:Room k callerA)
  (hY:∀ (w:World) (h:Heap),YP w h->(K w.params).In h)
  (F : ∀ (w:World) (mg:Str->Option Value) (fa:Addr) (h:Heap),(K w.params).In h->h.Ns mainGlobals mg->mg d.name=some (.ref fa) →
   ∃ fd:FuncData,(∀ (s:Shared) (u:Value),BindsTo s fd ⟨[u],[]⟩ [(x,u)]) ∧
    ∀ base:Heap,(K w.params).In base->base.Ns mainGlobals mg->FnOk l.prog w (K w.params) mg base (CX w) k fa fd [x] (sp w))
  (hsp:∀ (w:World) (H:Hp) (a:Addr) (ns:List Int),ns.length<=n->Only H->SqL (K w.params) H a (ns.map V.int)->sp w [.ref a] H (λv _=>v=.bl true) λ_ _ _=>False)
  (hCX:∀ (w:World) (H:Hp) (s:Shared) (e:Value) (s':Shared),CX w [] H s (λ_ _ _=>False) e s'->False) :
  PySem.W.WalkO q loose XP YP l.row.toRowW d [] (λf vs=>PySem.call f vs):=by
 refine Att.attach_call hn hdf λw s₀ s₁ mg mb fa o pm cd doc a vs ns G Y ho hd hcd hmg hobj hints hlen hg=>?_;have KX:=hY w _ Y;obtain ⟨fd,hb,hF⟩:=F w mg fa _ KX G.T.g hmg;exact law_call KX G.T.g G.T.b G.T.builtins G.T.nolimit hg hobj hints (Nat.le_trans hlen hn2) hr hF hb (λH hO hS=>hsp w H a ns hlen hO hS) λH e s'=>hCX w H s₁ e s'
end L2
/- THE LAST THEOREM (shape;LID,My.* are yours):
   My.Adr: a structure of the addresses that your layer names (classes,functions);My.Txt K t: a structure (Prop) of the equations over K;
   My.txt_mk:{K} {implicit addresses ..} (e1:nsIn K mainGlobals "law"=some (some (.ref f))) (e2:K.lookup f=some ⟨oc,od,.func (fnOf "law" "law" params body scope dV kV doc pm an cdv ct),sl⟩) (e3:codeIn K cdv "law"=true) ..:∃ t,My.Txt K t
set_option maxRecDepth 100000 in
set_option maxHeartbeats 0 in
theorem PySem.Challenge.cw_LID_holds : PySem.Challenge.rw_LID.Holds := by
 w_on;o_law;k_head;(case hw=>w_witness2)
 k_fill
 refine L2.walk_of (l:=PySem.Challenge.rw_LID) (n:=63) (k:=40) (x:="script") (CX:=λw=>..) (sp:=λ_=>My.sp_law) rfl (by decide) rfl ⟨rfl,by decide,by decide⟩ (λw h Y=>PySem.W.kIn_of Y) ?F ?S ?C
 case F=>
  intro w mg fa h KX G hmg
  have T:∃ t,My.Txt (L2.KOf KX) t:=by
   dsimp only [L2.KOf]                          -- K must stand as «<heap const> w.params» for k_is
   refine' My.txt_mk ?e1 ?e2 ?e3 ..
   (case e1=>PySem.W.k_is)                    -- in the order: a name->its address->its object->its parts
   (case e2=>PySem.W.k_is)
   ..
  obtain ⟨t,T⟩:=T;have e0:=hmg.symm.trans (PySem.W.mg_of KX G T.law)
  cases e0                                       -- fa is the law's own address
  exact ⟨_,λs u=>.of_eq rfl,λbase kb nb=>My.law_fn T kb nb⟩     -- if «.of_eq rfl» comes too early: refine' ⟨_,?b,λbase kb nb=>My.law_fn T kb nb⟩;exact λs u=>.of_eq rfl
 case S=>exact λw H a ns hl hO hS=>..
 case C=>exact ..
(the tactic k_is has no namespace: write k_is) -/
namespace L2
open PySem PySem.Spec PyProof.Rows
noncomputable def zbb (s:Stmt) (j:Nat):Stmt:=match s with
 | .ClassDef _ _ _ body _ _ _ _ _ _ _=>body.getD j (.Pass ⟨0,0,0,0⟩)
 | _=>.Pass ⟨0,0,0,0⟩
noncomputable def zbz (s:Stmt):Arguments:=match s with
 | .FunctionDef _ a _ _ _ _ _ _ _ _=>a
 | _=>{ posonlyargs:=[],args:=[],vararg:=none,kwonlyargs:=[],kw_defaults:=[],kwarg:=none,defaults:=[] }
noncomputable def zaI (s:Stmt):List Stmt:=match s with
 | .FunctionDef _ _ b _ _ _ _ _ _ _=>b
 | _=>[]
noncomputable def zag (s:Stmt):Scope:=match s with
 | .FunctionDef _ _ _ _ _ _ sc _ _ _=>sc
 | _=>{ kind:=.function,names:=[],isGenerator:=false,isCoroutine:=false }
noncomputable abbrev CX0:CXT:=λ_ _ _ _ _ _=>False
noncomputable abbrev E0:XK:=λ_ _ _=>False
theorem zix {X:Cx}:zc0 CX0 X E0:=λ_ _ _ _ _ _ _ h=>h.elim
section
variable {P:Program} {w:World} {K:PySem.W.Frag} {mg:Str->Option Value} {base:Heap}
end
section
variable {X:Cx}
end
end L2
namespace IT
open PySem PySem.Spec L2
noncomputable def LsR (K:PySem.W.Frag) (A:Addr->Prop) (H:Hp) (a:Addr) (vs:List V):Prop:=
 (¬ A a/\Rd H a (.lst vs))\/∃ (o:Obj) (its:Array Value) (n:Nat),K.lookup a=some o/\o.cls=.type "list"/\o.dict=none/\o.data=.seq its n/\its.size<=sizeLine/\Vals vs its.toList
theorem LsR.sq (q:LsR K A H a vs):SqL K H a vs:=q.imp (λz=>z.2) (λz=>z)
mutual
noncomputable def RepD (K:PySem.W.Frag) (A:Addr->Prop) (H:Hp):D->V->Prop
 | .non,v=>v=.non
 | .bl b,v=>v=.bl b
 | .int i,v=>v=.int i
 | .str x,v=>v=.str (zaj x)
 | .tup xs,v=>∃ a vs,v=.ref a/\SqT K H a vs/\RepDs K A H xs vs
 | .lst xs,v=>∃ a vs,v=.ref a/\LsR K A H a vs/\RepDs K A H xs vs
noncomputable def RepDs (K:PySem.W.Frag) (A:Addr->Prop) (H:Hp):List D->List V->Prop
 | [],vs=>vs=[]
 | x::xs,vs=>∃ v r,vs=v::r/\RepD K A H x v/\RepDs K A H xs r
end
section
variable {K:PySem.W.Frag} {A A':Addr->Prop} {H H':Hp}
mutual
theorem RepD.mono (ht:∀ a u,Rd H a (.tup u)->Rd H' a (.tup u)) (hl:∀ a u,¬ A a->Rd H a (.lst u)->¬ A' a/\Rd H' a (.lst u)):∀ (x:D) (v:V),RepD K A H x v->RepD K A' H' x v
 | .non,_,h | .bl _,_,h | .int _,_,h | .str _,_,h=>by
  first
  | (simp only [RepD] at h ⊢;exact h)
 | .tup xs,v,h=>by
  simp only [RepD] at h ⊢;obtain ⟨a,vs,e,q,r⟩:=h;exact ⟨a,vs,e,q.imp (ht a vs) (λz=>z),RepDs.mono ht hl xs vs r⟩
 | .lst xs,v,h=>by
  simp only [RepD] at h ⊢;obtain ⟨a,vs,e,q,r⟩:=h;exact ⟨a,vs,e,q.imp (λz=>hl a vs z.1 z.2) (λz=>z),RepDs.mono ht hl xs vs r⟩
theorem RepDs.mono (ht:∀ a u,Rd H a (.tup u)->Rd H' a (.tup u)) (hl:∀ a u,¬ A a->Rd H a (.lst u)->¬ A' a/\Rd H' a (.lst u)):∀ (x:List D) (v:List V),RepDs K A H x v->RepDs K A' H' x v
 | [],_,h=>by simp only [RepDs] at h ⊢;exact h
 | x::xs,vs,h=>by
  simp only [RepDs] at h ⊢;obtain ⟨v,r,e,h1,h2⟩:=h;exact ⟨v,r,e,RepD.mono ht hl x v h1,RepDs.mono ht hl xs r h2⟩
end
end
section
variable {K:PySem.W.Frag} {A:Addr->Prop} {H:Hp}
theorem RepDs.length:∀ {xs:List D} {vs:List V},RepDs K A H xs vs->xs.length=vs.length
 | [],vs,h=>by simp only [RepDs] at h;subst h;rfl
 | x::xs,vs,h=>by
  simp only [RepDs] at h;obtain ⟨v,r,rfl,_,h2⟩:=h;simp only [List.length_cons,h2.length]
theorem RepDs.get:∀ {xs:List D} {vs:List V} {i:Nat} {x:D},RepDs K A H xs vs->xs[i]?=some x->∃ v,vs[i]?=some v/\RepD K A H x v
 | [],vs,i,x,h,e=>by simp at e
 | y::xs,vs,i,x,h,e=>by
  simp only [RepDs] at h;obtain ⟨v,r,rfl,h1,h2⟩:=h
  cases i with
  | zero=>simp at e;subst e;exact ⟨v,rfl,h1⟩
  | succ i=>simp at e;simpa using h2.get e
theorem RepDs.get':∀ {xs:List D} {vs:List V} {i:Nat} {v:V},RepDs K A H xs vs->vs[i]?=some v->∃ x,xs[i]?=some x/\RepD K A H x v
 | [],vs,i,v,h,e=>by simp only [RepDs] at h;subst h;simp at e
 | y::xs,vs,i,v,h,e=>by
  simp only [RepDs] at h;obtain ⟨w,r,rfl,h1,h2⟩:=h
  cases i with
  | zero=>simp at e;subst e;exact ⟨y,rfl,h1⟩
  | succ i=>simp at e;simpa using h2.get' e
theorem RepDs.app:∀ {xs ys:List D} {vs us:List V},RepDs K A H xs vs->RepDs K A H ys us->RepDs K A H (xs++ys) (vs++us)
 | [],ys,vs,us,h,h'=>by simp only [RepDs] at h;subst h;simpa using h'
 | x::xs,ys,vs,us,h,h'=>by
  simp only [RepDs] at h;obtain ⟨v,r,rfl,h1,h2⟩:=h;simp only [List.cons_append,RepDs];exact ⟨v,r++us,rfl,h1,h2.app h'⟩
theorem RepDs.nil:RepDs K A H [] []:=by simp only [RepDs]
theorem RepDs.cons (h:RepD K A H x v) (h':RepDs K A H xs vs):RepDs K A H (x::xs) (v::vs):=by
 simp only [RepDs];exact ⟨v,vs,rfl,h,h'⟩
theorem RepDs.one (h:RepD K A H x v):RepDs K A H [x] [v]:=.cons h .nil
theorem RepDs.take:∀ {xs:List D} {vs:List V} (n:Nat),RepDs K A H xs vs->RepDs K A H (xs.take n) (vs.take n)
 | [],vs,n,h=>by simp only [RepDs] at h;subst h;simpa using RepDs.nil
 | x::xs,vs,n,h=>by
  simp only [RepDs] at h;obtain ⟨v,r,rfl,h1,h2⟩:=h
  cases n with
  | zero=>simpa using RepDs.nil
  | succ n=>simpa using RepDs.cons h1 (h2.take n)
theorem RepDs.drop:∀ {xs:List D} {vs:List V} (n:Nat),RepDs K A H xs vs->RepDs K A H (xs.drop n) (vs.drop n)
 | [],vs,n,h=>by simp only [RepDs] at h;subst h;simpa using RepDs.nil
 | x::xs,vs,n,h=>by
  simp only [RepDs] at h;obtain ⟨v,r,rfl,h1,h2⟩:=h
  cases n with
  | zero=>simpa using RepDs.cons h1 h2
  | succ n=>simpa using h2.drop n
theorem RepDs.set (hx:RepD K A H x v):∀ {xs:List D} {vs:List V} (n:Nat),RepDs K A H xs vs->RepDs K A H (xs.set n x) (vs.set n v)
 | [],vs,n,h=>by simp only [RepDs] at h;subst h;simpa using RepDs.nil
 | y::xs,vs,n,h=>by
  simp only [RepDs] at h;obtain ⟨w,r,rfl,h1,h2⟩:=h
  cases n with
  | zero=>simpa using RepDs.cons hx h2
  | succ n=>simpa using RepDs.cons h1 (h2.set hx n)
end
noncomputable def Ob.mut:Ob->Bool
 | .lst _=>true
 | .ins _ _=>true
 | _=>false
noncomputable def Live (μ:List Addr) (h:Sto) (a:Addr):Prop:=∃ (i:Nat) (o:Ob),μ[i]?=some a/\h[i]?=some o/\o.mut=true
noncomputable def RepR (K:PySem.W.Frag) (μ:List Addr) (h:Sto) (H:Hp):R->V->Prop
 | .d x,v=>RepD K (Live μ h) H x v
 | .loc l,v=>∃ a,μ[l]?=some a/\v=.ref a
noncomputable def RepO (K:PySem.W.Frag) (μ:List Addr) (h:Sto) (H:Hp) (a:Addr):Ob->Prop
 | .lst xs=>∃ vs,H a=some (.lst vs)/\RepDs K (Live μ h) H xs vs
 | .fro xs=>∃ vs,H a=some (.lst vs)/\RepDs K (Live μ h) H xs vs
 | .ols ls=>∃ vs,H a=some (.lst vs)/\Paired (λ(l:Nat) (v:V)=>∃ b,μ[l]?=some b/\v=.ref b) ls vs
 | .ins c fs=>∃ C dx fs',(PySem.W.nsIn K mainGlobals c=some (some (.ref C))/\Cls K C/\∀ p∈fs,zbR K C p.1)/\H a=some (.ins C dx fs')/\Paired (λ(p:Str×R) (q:Str×V)=>p.1=q.1/\RepR K μ h H p.2 q.2) fs fs'
 | .dfr kvs=>∃ (ob:Obj) (xs:List (D×Addr×V)),H a=some (.frz ob (.dT xs))/\Paired (λ(p:D×D) (q:D×Addr×V)=>p.1=q.1/\(zuY p.1=true/\RepD K (Live μ h) H p.1 (.ref q.2.1))/\RepD K (Live μ h) H p.2 q.2.2) kvs xs
structure Rep (K:PySem.W.Frag) (μ:List Addr) (h:Sto) (H:Hp):Prop where
 len:μ.length=h.length
 nd:μ.Nodup
 obj:∀ (i:Nat) (a:Addr) (o:Ob),μ[i]?=some a->h[i]?=some o->RepO K μ h H a o
structure Stp (μ:List Addr) (h:Sto) (H:Hp) (μ':List Addr) (h':Sto) (H':Hp):Prop where
 pre:∀ (i:Nat) (a:Addr),μ[i]?=some a->μ'[i]?=some a
 keep:∀ a o,¬ Live μ h a->H a=some o->H' a=some o
 live:∀ a,Live μ' h' a->Live μ h a\/H a=none
section
variable {K:PySem.W.Frag} {μ μ' μ2:List Addr} {h h' h2:Sto} {H H' H2:Hp}
theorem RepO.isL (q:RepO K μ h H a o) (l:o.isL=true):∃ vs,H a=some (.lst vs)/\RepDs K (Live μ h) H o.items vs:=by
 cases o with
 | lst xs=>exact q
 | fro xs=>exact q
 | ins _ _=>cases l
 | ols _=>cases l
 | dfr _=>cases l
theorem RepO.some (q:RepO K μ h H a o):∃ u,H a=some u:=by
 cases o with
 | lst xs=>obtain ⟨vs,e,_⟩:=q;exact ⟨_,e⟩
 | fro xs=>obtain ⟨vs,e,_⟩:=q;exact ⟨_,e⟩
 | ins _ _=>obtain ⟨C,dx,fs,_,e,_⟩:=q;exact ⟨_,e⟩
 | ols _=>obtain ⟨vs,e,_⟩:=q;exact ⟨_,e⟩
 | dfr _=>obtain ⟨ob,xs,e,_⟩:=q;exact ⟨_,e⟩
theorem Rep.liveAt (r:Rep K μ h H) (l:Live μ h a):∃ u,H a=some u/\((∃ vs,u=.lst vs)\/(∃ C dx fs,u=.ins C dx fs)\/∃ kvs,u=.dT kvs):=by
 obtain ⟨i,o,e1,e2,m⟩:=l;have q:=r.obj i a _ e1 e2
 cases o with
 | lst xs=>obtain ⟨vs,e,_⟩:=q;exact ⟨_,e,.inl ⟨vs,rfl⟩⟩
 | fro xs=>cases m
 | ins _ _=>obtain ⟨C,dx,fs,_,e,_⟩:=q;exact ⟨_,e,.inr (.inl ⟨C,dx,fs,rfl⟩)⟩
 | ols _=>cases m
 | dfr _=>cases m
theorem Rep.notLive (r:Rep K μ h H) (e:H a=some o) (n:∀ vs,o≠.lst vs) (n2:∀ C dx fs,o≠.ins C dx fs:=by intro _ _ _ z;cases z) (n3:∀ kvs,o≠.dT kvs:=by intro _ z;cases z):¬ Live μ h a:=λl=>by
 obtain ⟨u,q,z⟩:=r.liveAt l;rw [e] at q;cases q
 rcases z with ⟨vs,z⟩ | ⟨C,dx,fs,z⟩ | ⟨kvs,z⟩
 ·exact n vs z
 ·exact n2 C dx fs z
 ·exact n3 kvs z
theorem Stp.refl:Stp μ h H μ h H:=⟨λ_ _ e=>e,λ_ _ _ e=>e,λ_ l=>.inl l⟩
theorem Stp.trans (s:Stp μ h H μ' h' H') (t:Stp μ' h' H' μ2 h2 H2):Stp μ h H μ2 h2 H2:=by
 have nl:∀ a o,¬ Live μ h a->H a=some o->¬ Live μ' h' a:=λa o n e l=>by
  rcases s.live a l with z | z
  ·exact n z
  ·rw [e] at z;cases z
 refine ⟨λi a e=>t.pre i a (s.pre i a e),λa o n e=>t.keep a o (nl a o n e) (s.keep a o n e),λa l=>?_⟩
 rcases t.live a l with z | z
 ·exact s.live a z
 ·by_cases n:Live μ h a
  ·exact .inl n
  ·cases e:H a with
   | none=>exact .inr rfl
   | some o=>rw [s.keep a o n e] at z;cases z
theorem Stp.rdT (s:Stp μ h H μ' h' H') (r:Rep K μ h H) (a:Addr) (u:List V) (q:Rd H a (.tup u)):Rd H' a (.tup u):=by
 rcases q with e | ⟨o,e⟩
 ·exact .inl (s.keep a _ (r.notLive e (by intro vs z;cases z)) e)
 ·exact .inr ⟨o,s.keep a _ (r.notLive e (by intro vs z;cases z)) e⟩
theorem Stp.rdL (s:Stp μ h H μ' h' H') (a:Addr) (u:List V) (n:¬ Live μ h a) (q:Rd H a (.lst u)):¬ Live μ' h' a/\Rd H' a (.lst u):=by
 have nl:∀ o,H a=some o->¬ Live μ' h' a:=λo e l=>by
  rcases s.live a l with z | z
  ·exact n z
  ·rw [e] at z;cases z
 rcases q with e | ⟨o,e⟩
 ·exact ⟨nl _ e,.inl (s.keep a _ n e)⟩
 ·exact ⟨nl _ e,.inr ⟨o,s.keep a _ n e⟩⟩
theorem Stp.lsR (s:Stp μ h H μ' h' H') (q:LsR K (Live μ h) H a u):LsR K (Live μ' h') H' a u:=q.imp (λz=>s.rdL a u z.1 z.2) (λz=>z)
theorem RepD.stp (s:Stp μ h H μ' h' H') (r:Rep K μ h H) (q:RepD K (Live μ h) H x v):RepD K (Live μ' h') H' x v:=RepD.mono (s.rdT r) s.rdL x v q
theorem RepDs.stp (s:Stp μ h H μ' h' H') (r:Rep K μ h H) (q:RepDs K (Live μ h) H x v):RepDs K (Live μ' h') H' x v:=RepDs.mono (s.rdT r) s.rdL x v q
theorem RepR.stp (s:Stp μ h H μ' h' H') (r:Rep K μ h H) (q:RepR K μ h H x v):RepR K μ' h' H' x v:=by
 cases x with
 | d x=>exact RepD.stp s r q
 | loc l=>obtain ⟨a,e,z⟩:=q;exact ⟨a,s.pre l a e,z⟩
theorem RepO.stp (s:Stp μ h H μ' h' H') (r:Rep K μ h H) (e:H' a=H a) (q:RepO K μ h H a o):RepO K μ' h' H' a o:=by
 cases o with
 | lst xs=>obtain ⟨vs,e1,z⟩:=q;exact ⟨vs,e.trans e1,RepDs.stp s r z⟩
 | fro xs=>obtain ⟨vs,e1,z⟩:=q;exact ⟨vs,e.trans e1,RepDs.stp s r z⟩
 | ols ls=>obtain ⟨vs,e1,z⟩:=q;exact ⟨vs,e.trans e1,L2.Paired.mapP z λl v ⟨b,eb,ev⟩=>⟨b,s.pre l b eb,ev⟩⟩
 | dfr kvs=>obtain ⟨ob,xs,e1,z⟩:=q;exact ⟨ob,xs,e.trans e1,L2.Paired.mapP z λp q ⟨ep,ek,ev⟩=>⟨ep,⟨ek.1,RepD.stp s r ek.2⟩,RepD.stp s r ev⟩⟩
 | ins c fs=>obtain ⟨C,dx,fs',ec,e1,z⟩:=q;exact ⟨C,dx,fs',ec,e.trans e1,L2.Paired.mapP z λp q ⟨ep,eq⟩=>⟨ep,RepR.stp s r eq⟩⟩
theorem Stp.fresh (n:H p=none):Stp μ h H μ h (upd H p o):=
 ⟨λ_ _ e=>e,λa o' _ e=>by rw [zam (zar e n)];exact e,λ_ l=>.inl l⟩
theorem Rep.ne_fresh (r:Rep K μ h H) {i:Nat} (n:H p=none) (e1:μ[i]?=some a) (e2:h[i]?=some o):a≠p:=by
 obtain ⟨u,q⟩:=(r.obj i a o e1 e2).some;exact zar q n
theorem Rep.fresh {o:HO} (r:Rep K μ h H) (n:H p=none):Rep K μ h (upd H p o):=
 ⟨r.len,r.nd,λi a ob e1 e2=>RepO.stp (Stp.fresh n) r (zam (r.ne_fresh n e1 e2)) (r.obj i a ob e1 e2)⟩
theorem zjU (hl:μ.length=h.length):Live (μ++[p]) (h++[o]) a↔Live μ h a\/(a=p/\o.mut=true):=by
 constructor
 ·rintro ⟨i,o',e1,e2,e3⟩
  by_cases hi:i<μ.length
  ·rw [List.getElem?_append_left hi] at e1
   rw [List.getElem?_append_left (by omega)] at e2;exact .inl ⟨i,o',e1,e2,e3⟩
  ·rw [List.getElem?_append_right (by omega)] at e1 e2
   have hz:i-μ.length=0:=by
    cases hk:i-μ.length with
    | zero=>rfl
    | succ k=>rw [hk] at e1;simp at e1
   rw [hz] at e1;rw [<-hl,hz] at e2;simp at e1 e2;subst e1 e2;exact .inr ⟨rfl,e3⟩
 ·rintro (⟨i,o',e1,e2,e3⟩ | ⟨rfl,e3⟩)
  ·obtain ⟨h1,_⟩:=List.getElem?_eq_some_iff.mp e1
   exact ⟨i,o',by rw [List.getElem?_append_left h1];exact e1,by rw [List.getElem?_append_left (by omega)];exact e2,e3⟩
  ·exact ⟨μ.length,o,by simp,by rw [hl];simp,e3⟩
theorem Stp.allocO (r:Rep K μ h H) (n:H p=none):Stp μ h H (μ++[p]) (h++[ob]) (upd H p o):=
  ⟨fun i a e=>by rw [List.getElem?_append_left (List.getElem?_eq_some_iff.mp e).1];exact e,λa o' _ e=>by rw [zam (zar e n)];exact e,
   fun a l=>by
    rcases (zjU r.len).mp l with z | ⟨rfl,_⟩
    · exact .inl z
    · exact .inr n⟩
theorem Stp.alloc (r:Rep K μ h H) (n:H p=none):Stp μ h H (μ++[p]) (h++[.lst xs]) (upd H p o):=Stp.allocO r n
theorem Rep.allocO {o:Ob} (r:Rep K μ h H) (n:H p=none) (q:RepO K (μ++[p]) (h++[o]) (upd H p u) p o):Rep K (μ++[p]) (h++[o]) (upd H p u):=by
 have st:Stp μ h H (μ++[p]) (h++[o]) (upd H p u):=Stp.allocO r n;refine ⟨by simp [r.len],?_,λi a ob e1 e2=>?_⟩
 ·rw [List.nodup_append]
  refine ⟨r.nd,by simp,λa ha b hb=>?_⟩;simp at hb;subst hb
  rintro rfl
  obtain ⟨i,hi,e⟩:=List.getElem_of_mem ha
  have hi':i<h.length:=by rw [<-r.len];exact hi
  exact r.ne_fresh n (by rw [List.getElem?_eq_getElem hi,e]) (List.getElem?_eq_getElem hi') rfl
 ·by_cases hi:i<μ.length
  ·rw [List.getElem?_append_left hi] at e1
   rw [List.getElem?_append_left (by have:=r.len;omega)] at e2
   exact RepO.stp st r (zam (r.ne_fresh n e1 e2)) (r.obj i a ob e1 e2)
  ·rw [List.getElem?_append_right (by omega)] at e1
   have hz:i-μ.length=0:=by
    cases hk:i-μ.length with
    | zero=>rfl
    | succ k=>rw [hk] at e1;simp at e1
   rw [hz] at e1;simp at e1;subst e1
   have hi2:i=h.length:=by have:=r.len;have:=(List.getElem?_eq_some_iff.mp e2).1;simp at this;omega
   subst hi2;simp at e2;subst e2;exact q
theorem Rep.alloc (r:Rep K μ h H) (n:H p=none) (q:RepDs K (Live μ h) H xs vs):Rep K (μ++[p]) (h++[.lst xs]) (upd H p (.lst vs)):=
 r.allocO n ⟨vs,zao,RepDs.stp (Stp.allocO r n) r q⟩
end
end IT
namespace IT
open PySem PySem.Spec L2
noncomputable def RdD (K:PySem.W.Frag) (A:Addr->Prop) (H:Hp) (x:D) (v:V):Prop:=match x with
 | .lst xs=>∃ a vs,v=.ref a/\SqL K H a vs/\RepDs K A H xs vs
 | x=>RepD K A H x v
section
variable {K:PySem.W.Frag} {μ μ':List Addr} {h h':Sto} {H H':Hp}
theorem RdD.of {A:Addr->Prop} (q:RepD K A H x v):RdD K A H x v:=by
 cases x with
 | lst xs=>
  simp only [RepD] at q;obtain ⟨a,vs,e,r,z⟩:=q;exact ⟨a,vs,e,r.sq,z⟩
 | _=>exact q
theorem zfe (e:rd (.loc l) h=some (d,h')):∃ o,h[l]?=some o/\o.isL=true/\d=.lst o.items/\h'=h:=by
 simp only [rd] at e
 cases ho:h[l]? with
 | none=>rw [ho] at e;cases e
 | some o=>
  rw [ho] at e;simp only at e
  split at e
  ·rename_i il
   simp only [Option.some.injEq,Prod.mk.injEq] at e;exact ⟨o,rfl,il,e.1.symm,e.2.symm⟩
  ·cases e
theorem zee (e:zeE x h=some (u,h')):∃ l o,x=.loc l/\h[l]?=some o/\o.isL=true/\h'=h:=by
 cases x with
 | d _=>cases e
 | loc l=>
  simp only [zeE] at e
  cases ho:h[l]? with
  | none=>rw [ho] at e;cases e
  | some o=>
   rw [ho] at e;simp only at e
   split at e
   ·rename_i il
    simp only [Option.some.injEq,Prod.mk.injEq] at e;exact ⟨l,o,rfl,ho,il,e.2.symm⟩
   ·cases e
theorem zbE {r:R} (R0:Rep K μ h H) (q:RepR K μ h H r v) (e:rd r h=some (d,h')):h'=h/\RdD K (Live μ h) H d v:=by
 cases r with
 | d x=>
  simp only [rd,ok,Option.some.injEq,Prod.mk.injEq] at e;obtain ⟨rfl,rfl⟩:=e;exact ⟨rfl,RdD.of q⟩
 | loc l=>
  obtain ⟨a,ea,rfl⟩:=q;simp only [rd] at e
  cases ho:h[l]? with
  | none=>rw [ho] at e;cases e
  | some o=>
   rw [ho] at e;simp only at e
   split at e
   ·rename_i il
    simp only [Option.some.injEq,Prod.mk.injEq] at e;obtain ⟨rfl,rfl⟩:=e;obtain ⟨vs,q1,q2⟩:=(R0.obj l a o ea ho).isL il;exact ⟨rfl,a,vs,rfl,.inl (.inl q1),q2⟩
   ·cases e
theorem zgs {l:List Addr} (hn:l.Nodup) {i j:Nat} (h1:l[i]?=some a) (h2:l[j]?=some a):i=j:=by
 obtain ⟨p1,e1⟩:=List.getElem?_eq_some_iff.mp h1;obtain ⟨p2,e2⟩:=List.getElem?_eq_some_iff.mp h2;exact (List.getElem_inj hn).mp (e1.trans e2.symm)
theorem ztt (R0:Rep K μ h H) (ho:h[l]?=some o) (il:o.isL=true):Stp μ h H μ (h.set l (.fro o.items)) H/\Rep K μ (h.set l (.fro o.items)) H:=by
 have hl:l<h.length:=(List.getElem?_eq_some_iff.mp ho).1
 have lv:∀ a,Live μ (h.set l (.fro o.items)) a->Live μ h a:=by
  rintro a ⟨i,xs,e1,e2,e3⟩
  by_cases hi:i=l
  ·subst hi
   rw [List.getElem?_set_self hl] at e2;cases e2;cases e3
  ·rw [List.getElem?_set_ne (Ne.symm hi)] at e2
   exact ⟨i,xs,e1,e2,e3⟩
 have st:Stp μ h H μ (h.set l (.fro o.items)) H:=⟨λ_ _ e=>e,λ_ _ _ e=>e,λa z=>.inl (lv a z)⟩;refine ⟨st,by simp [R0.len],R0.nd,λi a ob e1 e2=>?_⟩
 by_cases hi:i=l
 ·subst hi
  rw [List.getElem?_set_self hl] at e2;cases e2;obtain ⟨vs,q1,q2⟩:=(R0.obj i a o e1 ho).isL il;exact ⟨vs,q1,RepDs.stp st R0 q2⟩
 ·rw [List.getElem?_set_ne (Ne.symm hi)] at e2
  exact RepO.stp st R0 rfl (R0.obj i a ob e1 e2)
theorem zn9 {r:R} {v:V} (R0:Rep K μ h H) (q:RepR K μ h H r v) (e:fz r h=some (d,h')):Stp μ h H μ h' H/\Rep K μ h' H/\RepD K (Live μ h') H d v:=by
 cases r with
 | d x=>
  simp only [fz,ok,Option.some.injEq,Prod.mk.injEq] at e;obtain ⟨rfl,rfl⟩:=e;exact ⟨Stp.refl,R0,q⟩
 | loc l=>
  obtain ⟨a,ea,rfl⟩:=q;simp only [fz] at e
  cases ho:h[l]? with
  | none=>rw [ho] at e;cases e
  | some o=>
   rw [ho] at e;simp only at e
   split at e
   ·rename_i il
    simp only [Option.some.injEq,Prod.mk.injEq] at e;obtain ⟨rfl,rfl⟩:=e;obtain ⟨st,R1⟩:=ztt R0 ho il;have hl:l<h.length:=(List.getElem?_eq_some_iff.mp ho).1;obtain ⟨vs,q1,q2⟩:=(R0.obj l a o ea ho).isL il;refine ⟨st,R1,?_⟩;simp only [RepD];refine ⟨a,vs,rfl,.inl ⟨?_,.inl q1⟩,RepDs.stp st R0 q2⟩
    rintro ⟨i,xs,e1,e2,e3⟩
    have:=zgs R0.nd e1 ea
    subst this;rw [List.getElem?_set_self hl] at e2;cases e2;cases e3
   ·cases e
theorem zpM {l:Nat} {a:Addr} (R0:Rep K μ h H) (ea:μ[l]?=some a) (ho:h[l]?=some o) (hm:o.mut=true)
  (q:Stp μ h H μ (h.set l o') (upd H a u)->RepO K μ (h.set l o') (upd H a u) a o'):Stp μ h H μ (h.set l o') (upd H a u)/\Rep K μ (h.set l o') (upd H a u):=by
 have hl:l<h.length:=(List.getElem?_eq_some_iff.mp ho).1;have hla:Live μ h a:=⟨l,o,ea,ho,hm⟩
 have lv:∀ b,Live μ (h.set l o') b->Live μ h b:=by
  rintro b ⟨i,zs,e1,e2,e3⟩
  by_cases hi:i=l
  ·subst hi
   exact ⟨i,o,e1,ho,hm⟩
  ·rw [List.getElem?_set_ne (Ne.symm hi)] at e2
   exact ⟨i,zs,e1,e2,e3⟩
 have st:Stp μ h H μ (h.set l o') (upd H a u):=
  ⟨λ_ _ e=>e,λb o n e=>by rw [zam (λz=>n (by rw [z];exact hla))];exact e,λb z=>.inl (lv b z)⟩
 refine ⟨st,by simp [R0.len],R0.nd,λi b ob e1 e2=>?_⟩
 by_cases hi:i=l
 ·subst hi
  rw [ea] at e1;cases e1
  rw [List.getElem?_set_self hl] at e2;cases e2;exact q st
 ·rw [List.getElem?_set_ne (Ne.symm hi)] at e2
  exact RepO.stp st R0 (zam (λz:b=a=>hi (zgs R0.nd e1 (by rw [z];exact ea)))) (R0.obj i b ob e1 e2)
theorem write (R0:Rep K μ h H) (ea:μ[l]?=some a) (ho:h[l]?=some (.lst xs)) (q:RepDs K (Live μ h) H ys ws) :
  Stp μ h H μ (h.set l (.lst ys)) (upd H a (.lst ws))/\Rep K μ (h.set l (.lst ys)) (upd H a (.lst ws)):=
 zpM R0 ea ho rfl λst=>⟨ws,zao,RepDs.stp st R0 q⟩
end
theorem zab {α β:Type} {x:M α} {f:α->M β} {h:Sto} {r:β×Sto}:bnd x f h=some r↔∃ a h1,x h=some (a,h1)/\f a h1=some r:=by
 unfold bnd
 cases e:x h with
 | none=>simp
 | some p=>
  obtain ⟨a,h1⟩:=p
  exact ⟨λq=>⟨a,h1,rfl,q⟩,λ⟨a',h1',e',q⟩=>by cases e';exact q⟩
theorem zac {α:Type} {a b:α} {h h':Sto}:ok a h=some (b,h')↔a=b/\h=h':=by simp [ok]
theorem zaN {α:Type} {o:Option α} {b:α} {h h':Sto}:opt o h=some (b,h')↔o=some b/\h=h':=by
 unfold opt
 cases o with
 | none=>simp
 | some a=>simp
structure RepE (K:PySem.W.Frag) (μ:List Addr) (h:Sto) (H:Hp) (env:IT.Env) (σ:St):Prop where
 len:env.length=σ.length
 get:∀ (i:Nat) (r:R),env[i]?=some (some r)->∃ v,σ[i]?=some (some v)/\RepR K μ h H r v
inductive zaU (K:PySem.W.Frag) (μ:List Addr) (h:Sto) (H:Hp):List R->List V->Prop where
 | nil:zaU K μ h H [] []
 | cons {r:R} {v:V} {rs:List R} {vs:List V}:RepR K μ h H r v->zaU K μ h H rs vs->zaU K μ h H (r::rs) (v::vs)
section
variable {K:PySem.W.Frag} {μ μ':List Addr} {h h':Sto} {H H':Hp}
theorem RepE.stp (s:Stp μ h H μ' h' H') (R0:Rep K μ h H) {env:IT.Env} (q:RepE K μ h H env σ):RepE K μ' h' H' env σ:=
 ⟨q.len,λi r e=>let ⟨v,e',z⟩:=q.get i r e;⟨v,e',z.stp s R0⟩⟩
theorem zaU.stp (s:Stp μ h H μ' h' H') (R0:Rep K μ h H) {rs:List R} (q:zaU K μ h H rs vs):zaU K μ' h' H' rs vs:=by
 induction q with
 | nil=>exact .nil
 | cons a _ ih=>exact .cons (a.stp s R0) ih
theorem zaU.length {rs:List R} (q:zaU K μ h H rs vs):rs.length=vs.length:=by
 induction q with
 | nil=>rfl
 | cons _ _ ih=>simp [ih]
theorem RepE.set (q:RepE K μ h H env σ) (i:Nat) (z:RepR K μ h H r v):RepE K μ h H (env.set i (some r)) (σ.set i (some v)):=by
 refine ⟨by simp [q.len],λj r' e=>?_⟩
 by_cases hj:j=i
 ·subst hj
  have hl:j<env.length:=by
   have:=(List.getElem?_eq_some_iff.mp e).1
   simpa using this
  rw [List.getElem?_set_self hl] at e;cases e
  exact ⟨v,by rw [List.getElem?_set_self (by rw [<-q.len];exact hl)],z⟩
 ·rw [List.getElem?_set_ne (Ne.symm hj)] at e ⊢
  exact q.get j r' e
theorem zqa:∀ {rs:List R} {vs:List V} {ds:List D} {h h':Sto},Rep K μ h H->zaU K μ h H rs vs->rds rs h=some (ds,h')->h'=h/\Paired (RdD K (Live μ h) H) ds vs
 | [],_,ds,h,h',R0,.nil,e=>by
  simp only [rds,zac] at e;obtain ⟨rfl,rfl⟩:=e;exact ⟨rfl,.nil⟩
 | r::rs,_,ds,h,h',R0,.cons q qs,e=>by
  simp only [rds,zab,zac] at e;obtain ⟨d,h1,e1,ds',h2,e2,rfl,rfl⟩:=e;obtain ⟨rfl,z⟩:=zbE R0 q e1;obtain ⟨rfl,zs⟩:=zqa R0 qs e2;exact ⟨rfl,.cons z zs⟩
theorem zlt:∀ {rs:List R} {vs:List V} {ds:List D} {h h':Sto},Rep K μ h H->zaU K μ h H rs vs->fzs rs h=some (ds,h')->Stp μ h H μ h' H/\Rep K μ h' H/\RepDs K (Live μ h') H ds vs
 | [],_,ds,h,h',R0,.nil,e=>by
  simp only [fzs,zac] at e;obtain ⟨rfl,rfl⟩:=e;exact ⟨Stp.refl,R0,.nil⟩
 | r::rs,_,ds,h,h',R0,.cons q qs,e=>by
  simp only [fzs,zab,zac] at e;obtain ⟨d,h1,e1,ds',h2,e2,rfl,rfl⟩:=e;obtain ⟨s1,R1,z⟩:=zn9 R0 q e1;obtain ⟨s2,R2,zs⟩:=zlt R1 (qs.stp s1 R0) e2;exact ⟨s1.trans s2,R2,.cons (z.stp s2 R1) zs⟩
end
inductive Post {α β:Type} (K:PySem.W.Frag) (μ:List Addr) (h:Sto) (H:Hp) (Rel:List Addr->Sto->Hp->α->β->Prop) (m:Option (α×Sto)) (Q:β->Hp->Prop):Prop where
 | mk (r:α) (h':Sto) (e:m=some (r,h')) (k:∀ μ' H' v,Stp μ h H μ' h' H'->Rep K μ' h' H'->Rel μ' h' H' r v->Q v H')
inductive tE (K:PySem.W.Frag) (f:IT.Env->M R) (σ:St) (H:Hp) (Q:VK):Prop where
 | mk (μ:List Addr) (h:Sto) (env:IT.Env) (R0:Rep K μ h H) (re:RepE K μ h H env σ) (p:Post K μ h H (RepR K) (f env h) Q)
inductive tTv (K:PySem.W.Frag) (f:IT.Env->M Bool) (σ:St) (H:Hp) (Q:Bool->Hp->Prop):Prop where
 | mk (μ:List Addr) (h:Sto) (env:IT.Env) (R0:Rep K μ h H) (re:RepE K μ h H env σ) (p:Post K μ h H (λ_ _ _ a b=>a=b) (f env h) Q)
inductive tAs (K:PySem.W.Frag) (f:IT.Env->M (List R)) (σ:St) (H:Hp) (Q:List V->Hp->Prop):Prop where
 | mk (μ:List Addr) (h:Sto) (env:IT.Env) (R0:Rep K μ h H) (re:RepE K μ h H env σ) (p:Post K μ h H (zaU K) (f env h) Q)
inductive tLs (K:PySem.W.Frag) (f:IT.Env->M (List D)) (σ:St) (H:Hp) (Q:VK):Prop where
 | mk (μ:List Addr) (h:Sto) (env:IT.Env) (R0:Rep K μ h H) (re:RepE K μ h H env σ) (xs:List D) (h':Sto) (e:f env h=some (xs,h')) (k:∀ μ' H' a vs,Stp μ h H μ' h' H'->Rep K μ' h' H'->RepDs K (Live μ' h') H' xs vs->H' a=none->Q (.ref a) (upd H' a (.lst vs)))
noncomputable abbrev IE (X:Cx) (e:Expr) (f:IT.Env->M R):Prop:=PE X e (tE X.K f)
noncomputable abbrev IT' (X:Cx) (e:Expr) (f:IT.Env->M Bool):Prop:=PT X e (tTv X.K f)
noncomputable abbrev IA (X:Cx) (es:List Expr) (f:IT.Env->M (List R)):Prop:=PA X es (tAs X.K f)
noncomputable abbrev IL (X:Cx) (e:Expr) (f:IT.Env->M (List D)):Prop:=PE X e (tLs X.K f)
theorem PE.imp {X:Cx} (h:PE X e t) (i:∀ σ H Q,t' σ H Q->t σ H Q):PE X e t':=λpins s σ H Q I q=>h pins s σ H Q I (i σ H Q q)
theorem PT.imp {X:Cx} (h:PT X e t) (i:∀ σ H Q,t' σ H Q->t σ H Q):PT X e t':=λpins s σ H Q I q=>h pins s σ H Q I (i σ H Q q)
theorem PA.imp {X:Cx} (h:PA X e t) (i:∀ σ H Q,t' σ H Q->t σ H Q):PA X e t':=λpos pins s σ H Q I q=>h pos pins s σ H Q I (i σ H Q q)
section
variable {X:Cx} {e a b c:Expr} {es:List Expr} {pos:Pos} {f g k:IT.Env->M R} {ft gt:IT.Env->M Bool}
theorem zil {v:V} (h:PE X e (tC v)) (hd:∀ A H,RepD X.K A H d v):IE X e (λ_=>ok (.d d)):=by
 refine PE.imp h λσ H Q q0=>?_;obtain ⟨μ,h,env,R0,re,r,h',e,k⟩:=q0;obtain ⟨rfl,rfl⟩:=zac.mp e;exact k μ H v Stp.refl R0 (hd _ _)
theorem zsR {i:Nat} (h:PE X e (tVar i)):IE X e (λσ h=>match σ[i]? with | some (some r)=>some (r,h) | _=>none):=by
 refine PE.imp h λσ H Q q0=>?_;obtain ⟨μ,h,env,R0,re,r,h',e,k⟩:=q0
 have e2:env[i]?=some (some r)/\h=h':=by
  (try dsimp only at e)
  cases q:env[i]? with
  | none=>rw [q] at e;cases e
  | some o=>
   cases o with
   | none=>rw [q] at e;cases e
   | some r'=>rw [q] at e;simp at e;exact ⟨by rw [e.1],e.2⟩
 obtain ⟨e3,rfl⟩:=e2;obtain ⟨v,e4,z⟩:=re.get i r e3;exact ⟨v,e4,k μ H v Stp.refl R0 z⟩
inductive OpIQ (K:PySem.W.Frag) (m:R->R->M R) (v u:V) (H:Hp) (Q:VK):Prop where
 | mk (μ:List Addr) (h:Sto) (x y:R) (R0:Rep K μ h H) (qx:RepR K μ h H x v) (qy:RepR K μ h H y u) (p:Post K μ h H (RepR K) (m x y h) Q)
noncomputable def OpI (X:Cx) (F:Value->Value->Sem Value) (m:R->R->M R):Prop:=OpR X F λv u H Q=>OpIQ X.K m v u H Q
theorem two {m:R->R->M R} {σ:St} {Q:VK} (q:tE X.K (λσ=>bnd (f σ) λx=>bnd (g σ) λy=>m x y) σ H Q) :
  tE X.K f σ H λv H1=>tE X.K g σ H1 λu H2=>OpIQ X.K m v u H2 Q:=by
 obtain ⟨μ,h,env,R0,re,r,h',e,k⟩:=q;simp only [zab] at e;obtain ⟨x,h1,e1,y,h2,e2,e3⟩:=e
 exact ⟨μ,h,env,R0,re,x,h1,e1,λμ1 H1 v s1 R1 q1=>⟨μ1,h1,env,R1,re.stp s1 R0,y,h2,e2,λμ2 H2 u s2 R2 q2=>
  ⟨μ2,h2,x,y,R2,q1.stp s2 R1,q2,r,h',e3,λμ3 H3 w s3 R3 q3=>k μ3 H3 w ((s1.trans s2).trans s3) R3 q3⟩⟩⟩
theorem zsZ {op:Operator} (ho:OpI X (binaryOp op) m) (ha:IE X a f) (hb:IE X b g):IE X (.BinOp a op b pos) (λσ=>bnd (f σ) λx=>bnd (g σ) λy=>m x y):=
 PE.imp (ztR ho ha hb) λσ H Q q=>two q
theorem zt0 {op:CmpOp} (ho:OpI X (compareOp op) m) (ha:IE X a f) (hb:IE X b g) (hm:behindInMarks op b=false):IE X (.Compare a [op] [b] pos) (λσ=>bnd (f σ) λx=>bnd (g σ) λy=>m x y):=
 PE.imp (zqL ho ha hb hm) λσ H Q q=>two q
inductive OpDQ (K:PySem.W.Frag) (g:D->D->Option D) (v u:V) (H:Hp) (Q:VK):Prop where
 | mk (μ:List Addr) (h:Sto) (a b z:D) (R0:Rep K μ h H) (qa:RdD K (Live μ h) H a v) (qb:RdD K (Live μ h) H b u) (e:g a b=some z) (k:∀ μ' H' w,Stp μ h H μ' h H'->Rep K μ' h H'->RepD K (Live μ' h) H' z w->Q w H')
noncomputable def OpD (X:Cx) (F:Value->Value->Sem Value) (g:D->D->Option D):Prop:=OpR X F λv u H Q=>OpDQ X.K g v u H Q
noncomputable def mD (g:D->D->Option D) (x y:R):M R:=bnd (rd x) λx=>bnd (rd y) λy=>bnd (opt (g x y)) λz=>ok (.d z)
theorem OpD.opI {F:Value->Value->Sem Value} {g:D->D->Option D} (h:OpD X F g):OpI X F (mD g):=by
 intro pins s σ H v u v' u' Q I rv ru q;obtain ⟨μ,h0,x,y,R0,qx,qy,r,h',e,k⟩:=q;simp only [mD,zab,zac,zaN] at e;obtain ⟨dx,h1,e1,dy,h2,e2,z,h3,⟨e3,rfl⟩,rfl,rfl⟩:=e;obtain ⟨rfl,zx⟩:=zbE R0 qx e1;obtain ⟨rfl,zy⟩:=zbE R0 qy e2;exact h pins s σ H v u v' u' Q I rv ru ⟨μ,_,dx,dy,z,R0,zx,zy,e3,λμ' H' w st R1 qw=>k μ' H' w st R1 qw⟩
theorem ztm (h:IE X e f) (he:∀ whole,isTrue e X.env whole=(do let v<-whole;standAt e.pos;holding [v] (truthy v))):IT' X e (λσ=>bnd (f σ) λr=>bnd (rd r) λd=>opt (tru d)):=by
 refine PT.imp (zoP h he) λσ H Q q0=>?_;obtain ⟨μ,h,env,R0,re,t,h',e,k⟩:=q0;simp only [zab,zaN] at e;obtain ⟨r,h1,e1,d,h2,e2,e3,rfl⟩:=e;refine ⟨μ,h,env,R0,re,r,h1,e1,λμ1 H1 v s1 R1 q1=>?_⟩;obtain ⟨rfl,z⟩:=zbE R1 q1 e2;refine ⟨t,?_,k μ1 H1 t s1 R1 rfl⟩
 cases d with
 | non=>simp only [RdD,RepD] at z;subst z;simp only [tru,Option.some.injEq] at e3;exact e3.symm
 | bl b=>simp only [RdD,RepD] at z;subst z;simp only [tru,Option.some.injEq] at e3;exact e3.symm
 | int i=>simp only [RdD,RepD] at z;subst z;simp only [tru,Option.some.injEq] at e3;exact e3.symm
 | str x=>
  simp only [RdD,RepD] at z;subst z;simp only [tru] at e3
  split at e3
  ·rename_i hf
   simp only [Option.some.injEq] at e3
   refine ⟨by rw [zay];exact of_decide_eq_true hf,?_⟩
   rw [<-e3,zay]
   cases x<;>simp
   omega
  ·cases e3
 | tup xs=>
  simp only [RdD,RepD] at z;obtain ⟨a,vs,rfl,q,zs⟩:=z;simp only [tru,Option.some.injEq] at e3;refine .inr (.inl ⟨vs,q,?_⟩);rw [<-e3]
  have:=zs.length
  cases xs<;>cases vs<;>simp_all
 | lst xs=>
  obtain ⟨a,vs,rfl,q,zs⟩:=z;simp only [tru,Option.some.injEq] at e3;refine .inl ⟨vs,q,?_⟩;rw [<-e3]
  have:=zs.length
  cases xs<;>cases vs<;>simp_all
theorem ztx {op:CmpOp} {m:R->R->M R} (ho:OpI X (compareOp op) m) (ha:IE X a f) (hb:IE X b g) (hm:behindInMarks op b=false) (hbl:∀ x y h r h',m x y h=some (r,h')->∃ t,r=.d (.bl t)) :
  IT' X (.Compare a [op] [b] pos) (λσ=>bnd (bnd (f σ) λx=>bnd (g σ) λy=>m x y) λr=>bnd (rd r) λd=>opt (tru d)):=by
 refine PT.imp (zqF ho ha hb hm) λσ H Q q0=>?_;obtain ⟨μ,h,env,R0,re,t,h',e,k⟩:=q0;simp only [zab,zaN] at e;obtain ⟨r,h1,⟨x,h2,e1,y,h3,e2,e3⟩,d,h4,e4,e5,rfl⟩:=e;obtain ⟨t',rfl⟩:=hbl _ _ _ _ _ e3;simp only [rd,zac] at e4;obtain ⟨rfl,rfl⟩:=e4;simp only [tru,Option.some.injEq] at e5;subst e5
 refine two (m:=m) ⟨μ,h,env,R0,re,.d (.bl t'),h1,by simp only [zab];exact ⟨x,h2,e1,y,h3,e2,e3⟩,λμ1 H1 v s1 R1 q1=>?_⟩
 simp only [RepR,RepD] at q1;subst q1;exact ⟨t',rfl,k μ1 H1 t' s1 R1 rfl⟩
theorem zp7 {rest:List Expr} {tb:TT} (ha:IT' X a ft) (hb:PW X (.BoolOp .And (b::rest) pos) (tTv X.K gt)):PW X (.BoolOp .And (a::b::rest) pos) (tTv X.K λσ=>bnd (ft σ) λt=>if t then gt σ else ok false):=by
 intro whole pins s σ H Q I q;refine zt9 ha hb whole pins s σ H Q I ?_;obtain ⟨μ,h,env,R0,re,t,h',e,k⟩:=q;simp only [zab] at e;obtain ⟨u,h1,e1,e2⟩:=e;refine ⟨μ,h,env,R0,re,u,h1,e1,λμ1 H1 v s1 R1 hv=>?_⟩;subst hv
 cases u with
 | true=>
  rw [if_pos rfl] at e2;rw [if_pos rfl];exact ⟨μ1,h1,env,R1,re.stp s1 R0,t,h',e2,λμ2 H2 v s2 R2 hv=>k μ2 H2 v (s1.trans s2) R2 hv⟩
 | false=>
  rw [if_neg (by decide)] at e2;rw [if_neg (by decide)];obtain ⟨rfl,rfl⟩:=zac.mp e2;exact k μ1 H1 _ s1 R1 rfl
theorem ztv {rest:List Expr} (ha:IT' X a ft) (hb:PW X (.BoolOp .Or (b::rest) pos) (tTv X.K gt)):PW X (.BoolOp .Or (a::b::rest) pos) (tTv X.K λσ=>bnd (ft σ) λt=>if t then ok true else gt σ):=by
 intro whole pins s σ H Q I q;refine zvH ha hb whole pins s σ H Q I ?_;obtain ⟨μ,h,env,R0,re,t,h',e,k⟩:=q;simp only [zab] at e;obtain ⟨u,h1,e1,e2⟩:=e;refine ⟨μ,h,env,R0,re,u,h1,e1,λμ1 H1 v s1 R1 hv=>?_⟩;subst hv
 cases u with
 | false=>
  rw [if_neg (by decide)] at e2;rw [if_neg (by decide)];exact ⟨μ1,h1,env,R1,re.stp s1 R0,t,h',e2,λμ2 H2 v s2 R2 hv=>k μ2 H2 v (s1.trans s2) R2 hv⟩
 | true=>
  rw [if_pos rfl] at e2;rw [if_pos rfl];obtain ⟨rfl,rfl⟩:=zac.mp e2;exact k μ1 H1 _ s1 R1 rfl
theorem zsk (ha:IT' X a ft):IT' X (.UnaryOp .Not a pos) (λσ=>bnd (ft σ) λt=>ok (!t)):=by
 refine PT.imp (zs3 ha) λσ H Q q0=>?_;obtain ⟨μ,h,env,R0,re,t,h',e,k⟩:=q0;simp only [zab,zac] at e;obtain ⟨u,h1,e1,rfl,rfl⟩:=e;refine ⟨μ,h,env,R0,re,u,h1,e1,λμ1 H1 v s1 R1 hv=>?_⟩;subst hv;exact k μ1 H1 _ s1 R1 rfl
theorem zpR {rest:List Expr} (ha:IE X a f) (hb:IE X (.BoolOp .And (b::rest) pos) g):IE X (.BoolOp .And (a::b::rest) pos) (λσ=>bnd (f σ) λx=>match x with | .d (.bl c)=>if c then g σ else ok (.d (.bl false)) | _=>λ_=>none):=by
 refine PE.imp (zur ha hb) λσ H Q q0=>?_;obtain ⟨μ,h,env,R0,re,r,h',e,k⟩:=q0;simp only [zab] at e;obtain ⟨x,h1,e1,e2⟩:=e;refine ⟨μ,h,env,R0,re,x,h1,e1,λμ1 H1 v s1 R1 q1=>?_⟩
 cases x with
 | loc l=>cases e2
 | d d=>
  cases d with
  | bl c=>
   simp only [RepR,RepD] at q1;refine ⟨c,q1,?_⟩
   cases c with
   | true=>
    simp only [if_true] at e2 ⊢;exact ⟨μ1,h1,env,R1,re.stp s1 R0,r,h',e2,λμ2 H2 v s2 R2 hv=>k μ2 H2 v (s1.trans s2) R2 hv⟩
   | false=>
    simp only [Bool.false_eq_true,if_false] at e2 ⊢;obtain ⟨rfl,rfl⟩:=zac.mp e2;exact k μ1 H1 _ s1 R1 (by simp only [RepR,RepD])
  | _=>cases e2
theorem ztX {rest:List Expr} (ha:IE X a f) (hb:IE X (.BoolOp .Or (b::rest) pos) g):IE X (.BoolOp .Or (a::b::rest) pos) (λσ=>bnd (f σ) λx=>match x with | .d (.bl c)=>if c then ok (.d (.bl true)) else g σ | _=>λ_=>none):=by
 refine PE.imp (zvz ha hb) λσ H Q q0=>?_;obtain ⟨μ,h,env,R0,re,r,h',e,k⟩:=q0;simp only [zab] at e;obtain ⟨x,h1,e1,e2⟩:=e;refine ⟨μ,h,env,R0,re,x,h1,e1,λμ1 H1 v s1 R1 q1=>?_⟩
 cases x with
 | loc l=>cases e2
 | d d=>
  cases d with
  | bl c=>
   simp only [RepR,RepD] at q1;refine ⟨c,q1,?_⟩
   cases c with
   | false=>
    simp only [Bool.false_eq_true,if_false] at e2 ⊢;exact ⟨μ1,h1,env,R1,re.stp s1 R0,r,h',e2,λμ2 H2 v s2 R2 hv=>k μ2 H2 v (s1.trans s2) R2 hv⟩
   | true=>
    simp only [if_true] at e2 ⊢;obtain ⟨rfl,rfl⟩:=zac.mp e2;exact k μ1 H1 _ s1 R1 (by simp only [RepR,RepD])
  | _=>cases e2
theorem zq7 {pins:List (Addr×Obj)} {d:D} {v:V} {u:Value} {b:Bool} {Q:Bool->Shared->Prop} {E:Value->Shared->Prop} (I:Inv X pins σ H s) (q:RdD X.K A0 H d v) (r:RelV v u) (e:tru d=some b) (k:∀ tk,Q b { s with toks:=tk }) :
  wpAny (model X.prog X.w) A (truthy u) Q E s:=by
 have hl:=zfS;have hs:sizeLine=16777216:=sizeLine_eq
 cases d with
 | non=>
  simp only [RdD,RepD] at q;subst q;cases r
  simp only [tru,Option.some.injEq] at e;subst e
  exact PyProof.Rows.truthy_none (k s.toks)
 | bl c=>
  simp only [RdD,RepD] at q;subst q;cases r
  simp only [tru,Option.some.injEq] at e;subst e
  exact wpAny_truthy_bool (k s.toks)
 | int i=>
  simp only [RdD,RepD] at q;subst q
  obtain ⟨t,rfl⟩:=r
  simp only [tru,Option.some.injEq] at e;subst e
  exact PySem.P.truthy_int (k s.toks)
 | str x=>
  simp only [RdD,RepD] at q;subst q
  obtain ⟨t,rfl⟩:=r;simp only [tru] at e
  split at e
  ·rename_i hf
   simp only [Option.some.injEq] at e;have hx:x.length<=big:=of_decide_eq_true hf;unfold big at hx
   refine PySem.P.truthy_str (by rw [zay];omega) ?_
   have e2:(((zaj x).length:Int) != 0)=b:=by
    rw [<-e,zay]
    cases x<;>simp
    omega
   rw [e2];exact k _
  ·cases e
 | tup xs=>
  simp only [RdD,RepD] at q;obtain ⟨a,vs,rfl,q,zs⟩:=q;cases r;simp only [tru,Option.some.injEq] at e;obtain ⟨its,ri,pl,hz⟩:=I.tuple q;have hlen:=ri.length;have h1:=zs.length
  refine PyProof.Rows.truthy_tuple pl (by simp only [List.size_toArray];omega) ?_
  have e2:(!its.toArray.isEmpty)=b:=by
   rw [zcO ri,<-e];clear hlen ri pl q hz
   cases xs<;>cases vs<;>first | rfl | (simp at h1)
  rw [e2];exact k _
 | lst xs=>
  obtain ⟨a,vs,rfl,q,zs⟩:=q;cases r;simp only [tru,Option.some.injEq] at e;obtain ⟨its,ri,pl,hz⟩:=I.list q;have hlen:=ri.length;have h1:=zs.length
  refine wpAny_truthy_list pl.isList (by simp only [List.size_toArray];omega) ?_
  have e2:(!its.toArray.isEmpty)=b:=by
   rw [zcO ri,<-e];clear hlen ri pl q hz
   cases xs<;>cases vs<;>first | rfl | (simp at h1)
  rw [e2];exact k _
theorem zt4 (ha:IE X a f):IE X (.UnaryOp .Not a pos) (λσ=>bnd (f σ) λx=>bnd (rd x) λd=>bnd (opt (tru d)) λt=>ok (.d (.bl (!t)))):=by
 intro pins s σ H Q I q0;obtain ⟨μ,h,env,R0,re,r,h',e,k⟩:=q0;simp only [zab,zaN,zac] at e;obtain ⟨x,h1,e1,d,h2,e2,t,h3,⟨e3,rfl⟩,rfl,rfl⟩:=e
 have z:=ha pins s σ H (λy H1=>∃ A0 d,RdD X.K A0 H1 d y/\tru d=some t/\Q (.bl (!t)) H1) I ⟨μ,h,env,R0,re,x,h1,e1,λμ1 H1 v s1 R1 q1=>by
  obtain ⟨rfl,z⟩:=zbE R1 q1 e2
  exact ⟨_,d,z,e3,k μ1 H1 _ s1 R1 (by simp only [RepR,RepD])⟩⟩
 refine PyProof.Rows.UnaryOp_ (thn z λv s1 ⟨y,H1,I1,r1,A0,d',z1,z2,q1⟩=>PyProof.Rows.not_of ?_);exact zq7 I1 z1 r1 z2 λtk=>⟨.bl (!t),H1,I1.tok _,rfl,q1⟩
theorem zug (ha:IE X a f):IE X (.UnaryOp .USub a pos) (λσ=>bnd (f σ) λx=>match x with | .d (.int i)=>ok (.d (.int (-i))) | _=>λ_=>none):=by
 refine PE.imp (zvE zsw ha) λσ H Q q0=>?_;obtain ⟨μ,h,env,R0,re,r,h',e,k⟩:=q0;simp only [zab] at e;obtain ⟨x,h1,e1,e2⟩:=e;refine ⟨μ,h,env,R0,re,x,h1,e1,λμ1 H1 v s1 R1 q1=>?_⟩
 cases x with
 | loc l=>cases e2
 | d d=>
  cases d with
  | int i=>
   simp only [RepR,RepD] at q1;obtain ⟨rfl,rfl⟩:=zac.mp e2;exact ⟨i,q1,k μ1 H1 _ s1 R1 (by simp only [RepR,RepD])⟩
  | _=>cases e2
theorem zuC (hc:IT' X c ft) (ha:IE X a f) (hb:IE X b g):IE X (.IfExp c a b pos) (λσ=>bnd (ft σ) λt=>if t then f σ else g σ):=by
 refine PE.imp (zn6 hc ha hb) λσ H Q q0=>?_;obtain ⟨μ,h,env,R0,re,r,h',e,k⟩:=q0;simp only [zab] at e;obtain ⟨t,h1,e1,e2⟩:=e;refine ⟨μ,h,env,R0,re,t,h1,e1,λμ1 H1 v s1 R1 hv=>?_⟩;subst hv
 cases t with
 | true=>
  simp only [if_true] at e2 ⊢;exact ⟨μ1,h1,env,R1,re.stp s1 R0,r,h',e2,λμ2 H2 v s2 R2 hv=>k μ2 H2 v (s1.trans s2) R2 hv⟩
 | false=>
  simp only [Bool.false_eq_true,if_false] at e2 ⊢;exact ⟨μ1,h1,env,R1,re.stp s1 R0,r,h',e2,λμ2 H2 v s2 R2 hv=>k μ2 H2 v (s1.trans s2) R2 hv⟩
theorem zuq:IA X [] (λ_=>ok []):=by
 refine PA.imp zc1 λσ H Q q0=>?_;obtain ⟨μ,h,env,R0,re,r,h',e,k⟩:=q0;obtain ⟨rfl,rfl⟩:=zac.mp e;exact k μ H [] Stp.refl R0 .nil
theorem zrW {fs:IT.Env->M (List R)} (ha:IE X e f) (hr:IA X es fs) (hs:starEach (e::es) X.env=(false,eval e X.env)::starEach es X.env):IA X (e::es) (λσ=>bnd (f σ) λr=>bnd (fs σ) λrs=>ok (r::rs)):=by
 refine PA.imp (zbu ha hr hs) λσ H Q q0=>?_;obtain ⟨μ,h,env,R0,re,r,h',e,k⟩:=q0;simp only [zab,zac] at e;obtain ⟨x,h1,e1,xs,h2,e2,rfl,rfl⟩:=e;exact ⟨μ,h,env,R0,re,x,h1,e1,λμ1 H1 v s1 R1 q1=>⟨μ1,h1,env,R1,re.stp s1 R0,xs,h2,e2,λμ2 H2 vs s2 R2 q2=>k μ2 H2 (v::vs) (s1.trans s2) R2 (.cons (q1.stp s2 R1) q2)⟩⟩
theorem ztk {n:Nat} {fs:IT.Env->M (List R)} (h:IA X es fs) (hl:es.length<=1000) (hf:∀ σ h rs h',fs σ h=some (rs,h')->rs.length=es.length):IE X (.Tuple es n pos) (λσ=>bnd (fs σ) λrs=>bnd (fzs rs) λds=>ok (.d (.tup ds))):=by
 refine PE.imp (ztl h) λσ H Q q0=>?_;obtain ⟨μ,h,env,R0,re,r,h',e,k⟩:=q0;simp only [zab,zac] at e;obtain ⟨rs,h1,e1,ds,h2,e2,rfl,rfl⟩:=e;refine ⟨μ,h,env,R0,re,rs,h1,e1,λμ1 H1 vs s1 R1 q1=>⟨?_,λp hp=>?_⟩⟩
 ·rw [<-q1.length,hf _ _ _ _ e1]
  have:(1000:Nat)<=sizeLine:=by decide
  omega
 ·obtain ⟨s2,R2,q2⟩:=zlt R1 q1 e2
  have s3:Stp μ1 h2 H1 μ1 h2 (upd H1 p (.tup vs)):=Stp.fresh hp;refine k μ1 _ (.ref p) ((s1.trans s2).trans s3) (R2.fresh hp) ?_;simp only [RepR,RepD];exact ⟨p,vs,rfl,SqT.of zao,RepDs.stp s3 R2 q2⟩
theorem zro {fs:IT.Env->M (List R)} (h:IA X es fs) (hl:es.length<=1000) (hf:∀ σ h rs h',fs σ h=some (rs,h')->rs.length=es.length):IL X (.List es pos) (λσ=>bnd (fs σ) λrs=>fzs rs):=by
 refine PE.imp (ztb h) λσ H Q q0=>?_;obtain ⟨μ,h,env,R0,re,ds,h',e,k⟩:=q0;simp only [zab] at e;obtain ⟨rs,h1,e1,e2⟩:=e;refine ⟨μ,h,env,R0,re,rs,h1,e1,λμ1 H1 vs s1 R1 q1=>⟨?_,λp hp=>?_⟩⟩
 ·rw [<-q1.length,hf _ _ _ _ e1]
  have:(1000:Nat)<=sizeLine:=by decide
  omega
 ·obtain ⟨s2,R2,q2⟩:=zlt R1 q1 e2
  exact k μ1 H1 p vs (s1.trans s2) R2 q2 hp
theorem zis {fl:IT.Env->M (List D)} (m:Bool) (h:IL X e fl):IE X e (λσ=>bnd (fl σ) λxs=>if m then alloc xs else ok (.d (.lst xs))):=by
 refine PE.imp h λσ H Q q0=>?_;obtain ⟨μ,h,env,R0,re,r,h',e,k⟩:=q0;simp only [zab] at e;obtain ⟨xs,h1,e1,e2⟩:=e;refine ⟨μ,h,env,R0,re,xs,h1,e1,λμ1 H1 a vs s1 R1 q1 ha=>?_⟩
 cases m with
 | true=>
  simp only [if_true,alloc,Option.some.injEq,Prod.mk.injEq] at e2;obtain ⟨rfl,rfl⟩:=e2;refine k (μ1++[a]) _ (.ref a) (s1.trans (Stp.alloc R1 ha)) (R1.alloc ha q1) ⟨a,?_,rfl⟩;rw [<-R1.len];simp
 | false=>
  simp only [Bool.false_eq_true,if_false] at e2;obtain ⟨rfl,rfl⟩:=zac.mp e2;have s2:Stp μ1 h1 H1 μ1 h1 (upd H1 a (.lst vs)):=Stp.fresh ha;refine k μ1 _ (.ref a) (s1.trans s2) (R1.fresh ha) ?_;simp only [RepR,RepD];refine ⟨a,vs,rfl,.inl ⟨λl=>?_,.inl zao⟩,RepDs.stp s2 R1 q1⟩;obtain ⟨ws,z,_⟩:=R1.liveAt l
  rw [ha] at z;cases z
end
end IT
namespace IT
open PySem PySem.Spec L2
section
variable {K:PySem.W.Frag} {A0:Addr->Prop} {H:Hp}
theorem zgw (x y:List Nat):(zaj x==zaj y)=(x==y):=by
 by_cases e:x=y
 ·subst e;simp
 ·rw [beq_eq_false_iff_ne.mpr e,beq_eq_false_iff_ne.mpr (λz=>e (zdH z))]
structure zcv (X:Cx) (s:Shared) (H:Hp):Prop where
 lst:∀ a vs,SqL X.K H a vs->∃ its:List Value,Vals vs its/\s.heap.IsList a its.toArray
 tup:∀ a vs,SqT X.K H a vs->∃ its:List Value,Vals vs its/\s.heap.IsTuple a its.toArray
theorem zdw (I:Inv X pins σ H s):zcv X s H:=
 ⟨λa vs q=>let ⟨its,r,p,_⟩:=I.list q;⟨its,r,p.isList⟩,λa vs q=>let ⟨its,r,p,_⟩:=I.tuple q;⟨its,r,p⟩⟩
theorem zdL {α:Type} (xs ys:List α) (f:α->α->Bool) (hl:xs.length=ys.length) (e:Nat->Bool) (he:∀ (j:Nat) (x y:α),xs[j]?=some x->ys[j]?=some y->e j=f x y) :
  (List.range xs.length).all e=(xs.zip ys).all λp=>f p.1 p.2:=by
 rw [Bool.eq_iff_iff,List.all_eq_true,List.all_eq_true];constructor
 ·intro h p hp
  obtain ⟨j,hj,e1⟩:=List.getElem_of_mem hp
  have hj':j<xs.length/\j<ys.length:=by simp at hj;omega
  have e2:p=(xs[j]'hj'.1,ys[j]'hj'.2):=by rw [<-e1,List.getElem_zip]
  rw [e2,<-he j _ _ (List.getElem?_eq_getElem hj'.1) (List.getElem?_eq_getElem hj'.2)];exact h j (by simpa using hj'.1)
 ·intro h j hj
  have hj1:j<xs.length:=by simpa using hj
  have hj2:j<ys.length:=by omega
  rw [he j _ _ (List.getElem?_eq_getElem hj1) (List.getElem?_eq_getElem hj2)];refine h (xs[j],ys[j]) ?_;rw [List.mem_iff_getElem]
  exact ⟨j,by simp;omega,by simp⟩
theorem zdJ:∀ xs ys:List D,xs.length=ys.length->D.eqbs xs ys=(xs.zip ys).all λp=>p.1.eqb p.2
 | [],[],_=>rfl
 | x::xs,y::ys,h=>by
  simp only [D.eqbs,List.zip_cons_cons,List.all_cons];rw [zdJ xs ys (by simpa using h)]
theorem zdG:∀ xs ys:List D,xs.length≠ys.length->D.eqbs xs ys=false
 | [],[],h=>absurd rfl h
 | [],_::_,_=>rfl
 | _::_,[],_=>rfl
 | x::xs,y::ys,h=>by
  simp only [D.eqbs];rw [zdG xs ys (by simpa using h),Bool.and_false]
mutual
theorem D.eqb_refl:∀ x:D,x.eqb x=true
 | .non=>rfl
 | .bl a=>by simp [D.eqb]
 | .int a=>by simp [D.eqb]
 | .str a=>by simp [D.eqb]
 | .tup a=>by simp only [D.eqb];exact D.eqbs_refl a
 | .lst a=>by simp only [D.eqb];exact D.eqbs_refl a
theorem D.eqbs_refl:∀ x:List D,D.eqbs x x=true
 | []=>rfl
 | a::r=>by simp only [D.eqbs,Bool.and_eq_true];exact ⟨D.eqb_refl a,D.eqbs_refl r⟩
end
section
variable {X:Cx} {s:Shared}
theorem zmd (S:zcv X s H) (q:SqT X.K H a vs) (q':SqT X.K H a ws):vs=ws:=by
 obtain ⟨its,ri,o,h1,_,_,h2⟩:=S.tup a vs q;obtain ⟨its',ri',o',h1',_,_,h2'⟩:=S.tup a ws q'
 rw [h1] at h1';cases h1';rw [h2] at h2';cases h2'
 exact Vals.inj ri ri'
theorem zmz (S:zcv X s H) (q:SqL X.K H a vs) (q':SqL X.K H a ws):vs=ws:=by
 obtain ⟨its,ri,o,h1,_,_,h2⟩:=S.lst a vs q;obtain ⟨its',ri',o',h1',_,_,h2'⟩:=S.lst a ws q'
 rw [h1] at h1';cases h1';rw [h2] at h2';cases h2'
 exact Vals.inj ri ri'
theorem zmE (S:zcv X s H) (q:SqL X.K H a vs) (q':SqT X.K H a ws):False:=by
 obtain ⟨its,ri,p⟩:=S.lst a vs q;obtain ⟨its',ri',p'⟩:=S.tup a ws q';exact SeqAt.ne_of_list_tuple p p' rfl
mutual
theorem RepD.inj (S:zcv X s H):∀ (x y:D) (v:V),RepD X.K A0 H x v->RepD X.K A0 H y v->x=y
 | .non,y,v,qx,qy=>by
  simp only [RepD] at qx;subst qx
  cases y<;>simp_all [RepD]
 | .bl c,y,v,qx,qy=>by
  simp only [RepD] at qx;subst qx
  cases y<;>simp_all [RepD]
 | .int c,y,v,qx,qy=>by
  simp only [RepD] at qx;subst qx
  cases y<;>simp_all [RepD]
 | .str c,y,v,qx,qy=>by
  simp only [RepD] at qx;subst qx
  cases y with
  | str b=>simp only [RepD,V.str.injEq] at qy;rw [zdH qy]
  | _=>simp [RepD] at qy
 | .tup c,y,v,qx,qy=>by
  simp only [RepD] at qx;obtain ⟨a,vs,rfl,q,zs⟩:=qx
  cases y with
  | tup b=>
   simp only [RepD] at qy;obtain ⟨a',vs',e,q',zs'⟩:=qy;cases e;have e2:=zmd S q q';subst e2;rw [RepDs.inj S c b vs zs zs']
  | lst b=>
   simp only [RepD] at qy;obtain ⟨a',vs',e,q',zs'⟩:=qy;cases e;exact (zmE S q'.sq q).elim
  | _=>simp [RepD] at qy
 | .lst c,y,v,qx,qy=>by
  simp only [RepD] at qx;obtain ⟨a,vs,rfl,q,zs⟩:=qx
  cases y with
  | lst b=>
   simp only [RepD] at qy;obtain ⟨a',vs',e,q',zs'⟩:=qy;cases e;have e2:=zmz S q.sq q'.sq;subst e2;rw [RepDs.inj S c b vs zs zs']
  | tup b=>
   simp only [RepD] at qy;obtain ⟨a',vs',e,q',zs'⟩:=qy;cases e;exact (zmE S q.sq q').elim
  | _=>simp [RepD] at qy
theorem RepDs.inj (S:zcv X s H):∀ (x y:List D) (v:List V),RepDs X.K A0 H x v->RepDs X.K A0 H y v->x=y
 | [],y,v,qx,qy=>by
  simp only [RepDs] at qx;subst qx
  cases y with
  | nil=>rfl
  | cons _ _=>have:=qy.length;simp at this
 | x::xs,y,v,qx,qy=>by
  simp only [RepDs] at qx;obtain ⟨w,ws,rfl,q1,q2⟩:=qx
  cases y with
  | nil=>have:=qy.length;simp at this
  | cons y ys=>
   simp only [RepDs] at qy;obtain ⟨w',ws',e,q1',q2'⟩:=qy;cases e;rw [RepD.inj S x y w q1 q1',RepDs.inj S xs ys ws q2 q2']
end
end
noncomputable def zaX (xs ys:List D) (j:Nat):Bool:=match xs[j]?,ys[j]? with
 | some x,some y=>x.eqb y
 | _,_=>false
section
variable {X:Cx} {s:Shared}
inductive Vw (X:Cx) (s:Shared) (H:Hp) (A0:Addr->Prop):D->Value->Prop where
 | non:Vw X s H A0 .non .none
 | bl (b:Bool):Vw X s H A0 (.bl b) (.bool b)
 | int (b:Int) (t:Tok):Vw X s H A0 (.int b) (.int b t)
 | str (b:List Nat) (t:Tok):Vw X s H A0 (.str b) (.str (zaj b) t)
 | tup (c:List D) (a:Addr) (vs:List V) (its:List Value) (q:SqT X.K H a vs) (zs:RepDs X.K A0 H c vs) (ri:Vals vs its) (p:s.heap.IsTuple a its.toArray):Vw X s H A0 (.tup c) (.ref a)
 | lst (c:List D) (a:Addr) (vs:List V) (its:List Value) (q:SqL X.K H a vs) (zs:RepDs X.K A0 H c vs) (ri:Vals vs its) (p:s.heap.IsList a its.toArray):Vw X s H A0 (.lst c) (.ref a)
theorem vw (S:zcv X s H) (q:RdD X.K A0 H x v) (r:RelV v u):Vw X s H A0 x u:=by
 cases x with
 | non=>simp only [RdD,RepD] at q;subst q;cases r;exact .non
 | bl b=>simp only [RdD,RepD] at q;subst q;cases r;exact .bl b
 | int b=>simp only [RdD,RepD] at q;subst q;obtain ⟨t,rfl⟩:=r;exact .int b t
 | str b=>simp only [RdD,RepD] at q;subst q;obtain ⟨t,rfl⟩:=r;exact .str b t
 | tup c=>
  simp only [RdD,RepD] at q;obtain ⟨a,vs,rfl,q,zs⟩:=q;cases r;obtain ⟨its,ri,p⟩:=S.tup a vs q;exact .tup c a vs its q zs ri p
 | lst c=>
  obtain ⟨a,vs,rfl,q,zs⟩:=q;cases r;obtain ⟨its,ri,p⟩:=S.lst a vs q;exact .lst c a vs its q zs ri p
theorem zgC (zs:RepDs X.K A0 H c vs) (zt:RepDs X.K A0 H b ws) (ri:Vals vs us) (rj:Vals ws ts):((List.range (min us.toArray.size ts.toArray.size)).all (zaX c b)&&us.toArray.size==ts.toArray.size)=D.eqbs c b:=by
 have l1:=zs.length;have l2:=zt.length;have l3:=ri.length;have l4:=rj.length
 by_cases hl:c.length=b.length
 ·have hm:min us.toArray.size ts.toArray.size=c.length:=by simp;omega
  rw [hm,zdJ c b hl,zdL c b (λx y=>x.eqb y) hl (zaX c b) (λj x y h1 h2=>by simp [zaX,h1,h2])]
  have:(us.toArray.size==ts.toArray.size)=true:=by simp;omega
  rw [this,Bool.and_true]
 ·rw [zdG c b hl]
  have:(us.toArray.size==ts.toArray.size)=false:=by simp;omega
  rw [this,Bool.and_false]
mutual
theorem zpI (S:zcv X s H):∀ (x y:D) (A:Around) (v w:V) (u t:Value),RdD X.K A0 H x v->RdD X.K A0 H y w->RelV v u->RelV w t->A.units+min x.dep y.dep<cLine->SeqAt.EqAt A s u t (x.eqb y)
 | .non,y,A,v,w,_,_,qx,qy,ru,rt,hu=>by
  cases vw S qx ru with | non=>
  cases vw S qy rt with
  | non=>exact .same _
  | bl b=>exact .none_bool b
  | int b t=>exact .none_int b t
  | str b t=>exact .none_str _ t
  | tup _ _ _ _ _ _ _ p=>exact .none_tuple p (by omega)
  | lst _ _ _ _ _ _ _ p=>exact .none_list p (by omega)
 | .bl c,y,A,v,w,_,_,qx,qy,ru,rt,hu=>by
  cases vw S qx ru with | bl=>
  cases vw S qy rt with
  | non=>exact .bool_none c
  | bl b=>exact .bool_bool c b
  | int b t=>exact .bool_int c b t
  | str b t=>exact .bool_str c _ t
  | tup _ _ _ _ _ _ _ p=>exact .bool_tuple c p (by omega)
  | lst _ _ _ _ _ _ _ p=>exact .bool_list c p (by omega)
 | .int c,y,A,v,w,_,_,qx,qy,ru,rt,hu=>by
  cases vw S qx ru with | int _ u=>
  cases vw S qy rt with
  | non=>exact .int_none c u
  | bl b=>exact .int_bool c u b
  | int b t=>exact .int_int c u b t
  | str b t=>exact .int_str c u _ t
  | tup _ _ _ _ _ _ _ p=>exact .int_tuple c u p (by omega)
  | lst _ _ _ _ _ _ _ p=>exact .int_list c u p (by omega)
 | .str c,y,A,v,w,_,_,qx,qy,ru,rt,hu=>by
  cases vw S qx ru with | str _ u=>
  cases vw S qy rt with
  | non=>exact .str_none _ u
  | bl b=>exact .str_bool _ u b
  | int b t=>exact .str_int _ u b t
  | str b t=>have z:=SeqAt.EqAt.str_str (A:=A) (s:=s) (zaj c) u (zaj b) t;rw [zgw] at z;exact z
  | tup _ _ _ _ _ _ _ p=>exact .str_tuple _ u p (by omega)
  | lst _ _ _ _ _ _ _ p=>exact .str_list _ u p (by omega)
 | .tup c,y,A,v,w,_,_,qx,qy,ru,rt,hu=>by
  have hu0:A.units<cLine:=by omega
  cases vw S qx ru with | tup _ a vs its q zs ri p=>
  cases vw S qy rt with
  | non=>exact .tuple_none p hu0
  | bl b=>exact .tuple_bool b p hu0
  | int b t=>exact .tuple_int b t p hu0
  | str b t=>exact .tuple_str _ t p hu0
  | lst _ _ _ _ _ _ _ p'=>exact .tuple_list p p' hu0
  | tup b a' vs' its' q' zs' ri' p'=>
   have key:=pairs_D S c b A.in1 vs vs' its its' zs zs' ri ri' (by
    show A.units+1+_<cLine;simp only [D.dep] at hu
    omega)
   by_cases hab:a=a'
   ·subst hab
    have e2:=zmd S q q';subst e2;have e1:=RepDs.inj S c b vs zs zs';subst e1;refine (show D.eqb (.tup c) (.tup c)=true from D.eqb_refl _)▸SeqAt.EqAt.same _
   ·refine SeqAt.EqAt.of_refs hab ?_
    have:=SeqAt.RcAt.tuples (e:=zaX c b) p p' hu0 (λj h1 h2=>by
     have:=key j (by simpa using h1) (by simpa using h2)
     simpa using this)
    rw [zgC zs zs' ri ri'] at this;exact this
 | .lst c,y,A,v,w,_,_,qx,qy,ru,rt,hu=>by
  have hu0:A.units<cLine:=by omega
  cases vw S qx ru with | lst _ a vs its q zs ri p=>
  cases vw S qy rt with
  | non=>exact .list_none p hu0
  | bl b=>exact .list_bool b p hu0
  | int b t=>exact .list_int b t p hu0
  | str b t=>exact .list_str _ t p hu0
  | tup _ _ _ _ _ _ _ p'=>exact .list_tuple p p' hu0
  | lst b a' vs' its' q' zs' ri' p'=>
   have key:=pairs_D S c b A.in1 vs vs' its its' zs zs' ri ri' (by
    show A.units+1+_<cLine;simp only [D.dep] at hu
    omega)
   by_cases hab:a=a'
   ·subst hab
    have e2:=zmz S q q';subst e2;have e1:=RepDs.inj S c b vs zs zs';subst e1;refine (show D.eqb (.lst c) (.lst c)=true from D.eqb_refl _)▸SeqAt.EqAt.same _
   ·refine SeqAt.EqAt.of_refs hab ?_
    show SeqAt.RcAt A s _ _ (D.eqbs c b);have l1:=zs.length;have l2:=zs'.length;have l3:=ri.length;have l4:=ri'.length
    by_cases hl:c.length=b.length
    ·have:=SeqAt.RcAt.lists (e:=zaX c b) p p' (by simp;omega) hu0 (λj h1 h2=>by
      have:=key j (by simpa using h1) (by simpa using h2)
      simpa using this)
     have hm:its.toArray.size=c.length:=by simp;omega
     rw [hm,zdL c b (λx y=>x.eqb y) hl (zaX c b) (λj x y h1 h2=>by simp [zaX,h1,h2]),<-zdJ c b hl] at this;exact this
    ·rw [zdG c b hl]
     exact SeqAt.RcAt.lists_lengths p p' (by simp;omega) hu0
theorem pairs_D (S:zcv X s H):∀ (xs ys:List D) (A:Around) (vs ws:List V) (us ts:List Value),RepDs X.K A0 H xs vs->RepDs X.K A0 H ys ws->Vals vs us->Vals ws ts->A.units+min (D.deps xs) (D.deps ys)<cLine →
  ∀ (j:Nat) (h1:j<us.length) (h2:j<ts.length),SeqAt.EqAt A s us[j] ts[j] (zaX xs ys j)
 | [],ys,A,vs,ws,us,ts,qx,qy,ru,rt,hu,j,h1,h2=>by
  have l1:=qx.length;have l2:=ru.length;rw [List.length_nil] at l1;omega
 | x :: xs,ys,A,vs,ws,us,ts,qx,qy,ru,rt,hu,j,h1,h2=>by
  rw [RepDs] at qx;obtain ⟨v,vs,rfl,qx1,qx2⟩:=qx
  cases ru with
  | cons ru1 ru2=>
   cases ys with
   | nil=>
    have l1:=qy.length;have l2:=rt.length;rw [List.length_nil] at l1;omega
   | cons y ys=>
    rw [RepDs] at qy;obtain ⟨w,ws,rfl,qy1,qy2⟩:=qy
    cases rt with
    | cons rt1 rt2=>
     simp only [D.deps] at hu
     cases j with
     | zero=>
      simp only [List.getElem_cons_zero,zaX,List.getElem?_cons_zero];exact zpI S x y A v w _ _ (RdD.of qx1) (RdD.of qy1) ru1 rt1 (by omega)
     | succ j=>
      simp only [List.getElem_cons_succ]
      have:=pairs_D S xs ys A vs ws _ _ qx2 qy2 ru2 rt2 (by omega) j (by simpa using h1) (by simpa using h2)
      simpa only [zaX,List.getElem?_cons_succ] using this
end
end
end
end IT
namespace IT
open PySem PySem.Spec L2
open PySem.StrLaws Builtin.Str
theorem zlG (x y:List Nat) (i:Nat):At (zaj x) (zaj y) (zaj x).length i↔(i+y.length<=x.length/\y.isPrefixOf (x.drop i)=true):=by
 unfold At subAt;rw [zay,zay,beq_toList]
 have e:((zaj x).cps.extract i (i+y.length)).toList=(x.drop i).take y.length:=by
  simp [zaj,List.extract_eq_take_drop]
 rw [e,List.isPrefixOf_iff_prefix,List.prefix_iff_eq_take];simp only [zaj,beq_iff_eq];constructor
 ·rintro ⟨h1,h2⟩;exact ⟨h1,h2.symm⟩
 ·rintro ⟨h1,h2⟩;exact ⟨h1,h2.symm⟩
theorem zkl {y:List Nat}:∀ {x:List Nat} {i:Nat},i<=x.length->y.isPrefixOf (x.drop i)=true->(∀ k,k<i->¬ y.isPrefixOf (x.drop k)=true)->fnd y x=some i
 | [],i,hi,h,hn=>by
  have e:i=0:=by simpa using hi
  subst e;simp only [fnd];rw [if_pos (by simpa using h)]
 | c::r,0,hi,h,hn=>by
  simp only [fnd];rw [if_pos (by simpa using h)]
 | c::r,i+1,hi,h,hn=>by
  simp only [fnd];rw [if_neg (by simpa using hn 0 (by omega)),zkl (x:=r) (i:=i) (by simpa using hi) (by simpa using h) (λk hk=>by simpa using hn (k+1) (by omega))]
theorem zjN {y:List Nat}:∀ {x:List Nat},(∀ k,k<=x.length->¬ y.isPrefixOf (x.drop k)=true)->fnd y x=none
 | [],hn=>by
  simp only [fnd];rw [if_neg (by simpa using hn 0 (by simp))]
 | c::r,hn=>by
  simp only [fnd];rw [if_neg (by simpa using hn 0 (by simp)),zjN (x:=r) (λk hk=>by simpa using hn (k+1) (by simpa using hk))]
theorem zrX {x y:List Nat} (limit:Nat) (hl:1<=limit):(fnd y x=none/\occurrences (zaj x) (zaj y) 0 (zaj x).length limit=[])\/∃ i r,fnd y x=some i/\i+y.length<=x.length/\occurrences (zaj x) (zaj y) 0 (zaj x).length limit=i::r:=by
 have fits:∀ k,k<=x.length->y.isPrefixOf (x.drop k)=true->k+y.length<=x.length:=λk hk h=>by
  have h1:=(List.isPrefixOf_iff_prefix.mp h).length_le;simp at h1;omega
 rcases occ_head (zaj x) (zaj y) limit hl with ⟨e,hn⟩ | ⟨i,r,e,h,hn⟩
 ·exact .inl ⟨zjN λk hk h=>hn k ((zlG x y k).mpr ⟨fits k hk h,h⟩),e⟩
 ·have h':=(zlG x y i).mp h
  refine .inr ⟨i,r,zkl (by omega) h'.2 (λk hk q=>hn k hk ((zlG x y k).mpr ⟨fits k (by omega) q,q⟩)),h'.1,e⟩
theorem zqe (x y:List Nat):(!(occurrences (zaj x) (zaj y) 0 (zaj x).length 1).isEmpty)=(fnd y x).isSome:=by
 rcases zrX (x:=x) (y:=y) 1 (by omega) with ⟨e1,e2⟩ | ⟨i,r,e1,_,e2⟩
 ·rw [e1,e2];rfl
 ·rw [e1,e2];rfl
theorem ssi (lo hi:Option Int) (n:Nat):strSliceIndices lo hi 1 n=(List.range (HT.sIx n n hi-HT.sIx n 0 lo)).map λk=>HT.sIx n 0 lo+k:=by
 have clip:∀ v:Int,(max 0 (min (if v<0 then v+(n:Int) else v) (n:Int)))=(((if v<0 then (v+(n:Int)).toNat else min v.toNat n):Nat):Int):=by
  intro v
  by_cases hv:v<0
  ·simp only [if_pos hv];omega
  ·simp only [if_neg hv];omega
 have rng:∀ i j:Nat,sliceRange (i:Int) (j:Int) 1=(List.range (j-i)).map λk=>i+k:=by
  intro i j;unfold sliceRange
  have h1:(1:Int)>0:=by omega
  simp only [h1,if_true,Int.ediv_one]
  have e:(if (i:Int)<(j:Int) then (j:Int)-i+1-1 else 0).toNat=j-i:=by split<;>omega
  rw [e];refine List.map_congr_left λk _=>?_;omega
 unfold strSliceIndices
 have h1:(1:Int)>0:=by omega
 simp only [h1,if_true]
 cases lo with
 | none=>
  cases hi with
  | none=>exact rng 0 n
  | some u=>simp only [clip];exact rng 0 _
 | some l=>
  cases hi with
  | none=>simp only [clip];exact rng _ n
  | some u=>simp only [clip];exact rng _ _
theorem pick_run (x:List Nat) (i:Nat):∀ k,i+k<=x.length->(((List.range k).map λm=>i+m).filterMap λj=>x[j]?)=(x.drop i).take k
 | 0,_=>by simp
 | k+1,h=>by
  rw [List.range_succ,List.map_append,List.filterMap_append,pick_run x i k (by omega),List.take_succ]
  congr 1
  have hx:i+k<x.length:=by omega
  simp [List.getElem?_eq_getElem hx]
theorem znt (x:List Nat) (lo hi:Option Int):Txt.slice (zaj x) lo hi=zaj (cut x lo hi):=by
 have eI:∀ n d o,sIx n d o=HT.sIx n d o:=λn d o=>by cases o<;>rfl
 unfold Txt.slice cut;rw [zay,ssi,eI,eI];have h1:=HT.sIx_le x.length x.length (Nat.le_refl _) hi;have h2:=HT.sIx_le x.length 0 (Nat.zero_le _) lo;generalize HT.sIx x.length x.length hi=j at *;generalize HT.sIx x.length 0 lo=i at *
 have e:((List.map (λk=>i+k) (List.range (j-i))).filterMap λk=>(zaj x).cps[k]?)=(x.drop i).take (j-i):=by
  have:=pick_run x i (j-i)
  by_cases hij:i<=j
  ·simpa [zaj] using this (by omega)
  ·have z:j-i=0:=by omega
   rw [z];simp
 split
 ·rename_i hc
  have hl:j-i=x.length:=by simpa using hc
  rw [hl]
  by_cases hn:x.length=0
  ·have:x=[]:=List.length_eq_zero_iff.mp hn
   subst this;simp
  ·have:i=0:=by omega
   subst this;simp
 ·rw [e];rfl
end IT
namespace PySem
open Sem (wp)
open Builtin AutoSeq1
theorem zjj (l:Addr) (items:Array Value) (n:Nat) (dd:Option Addr) (sl:Array (Option Value)) (b:Addr) (items2:Array Value) (n2:Nat) (dd2:Option Addr) (sl2:Array (Option Value)) (hc0:items.size+items2.size<=sizeLine) :
  Meets (Builtin.«list.__add__» ⟨[.ref l,.ref b],[]⟩) (λ_ R s=>s.heap.get? l=some { cls:=.type "list",dict:=dd,data:=.seq items n,slots:=sl }/\s.heap.get? b=some { cls:=.type "list",dict:=dd2,data:=.seq items2 n2,slots:=sl2 }/\R (.ok (.ret (Value.ref s.heap.objs.size))) { s with heap:=s.heap.push { cls:=Value.type "list",data:=Data.seq (items++items2) } }):=
 .of_wp λprog w A R s h=>by obtain ⟨hp,g,d,tk,os⟩:=s;obtain ⟨hl,hb,h⟩:=h;have f1:=idx_int;have f2:=sub_tuple_tuple;have f3:=sub_list_list;have f4:=sub_tuple_list;have f5:=sub_list_tuple;wp_walk using wpAny_loadPart' hl,wpAny_loadPart' hb;exact ⟨_,rfl,h⟩
theorem zf4 (l:Addr) (items:Array Value) (n:Nat) (b:Addr) (items2:Array Value) (n2:Nat) (dd2:Option Addr) (sl2:Array (Option Value)) (hc0:¬(!items.isEmpty&&Builtin.List.listTooLong (items.size+items2.size))=true) (hc1:items.size<=sizeLine) (hs2:items.size+items2.size<=sizeLine+1) :
  Meets (Builtin.«list.extend» ⟨[.ref l,.ref b],[]⟩) (λ_ R s=>s.heap.get? l=some { cls:=.type "list",dict:=none,data:=.seq items n,slots:=#[] }/\s.heap.get? b=some { cls:=.type "list",dict:=dd2,data:=.seq items2 n2,slots:=sl2 }/\R (.ok (.ret Value.none)) { s with heap:=s.heap.update l (Obj.mapSeq λx=>x++items2),toks:=s.toks }):=
 .of_wp λprog w A R s h=>by
  obtain ⟨hp,g,d,tk,os⟩:=s;obtain ⟨hl,hb,h⟩:=h;have f1:=idx_int;have f2:=sub_tuple_tuple;have f3:=sub_list_list;have f4:=sub_tuple_list;have f5:=sub_list_tuple;
  have hz':(items++items2).size<=sizeLine+1:=by rw [Array.size_append];exact hs2
  wp_walk using (wpAny_updateSeq hl rfl (hz:=hc1) (_hz':=hz')),wpAny_loadPart' hl,wpAny_loadPart' hb;exact ⟨_,rfl,h⟩
end PySem
namespace IT
open PySem PySem.Spec L2
section
variable {X:Cx}
theorem zmw:OpR X (binaryOp .Add) (λx y H Q=>∃ l b xs zs,x=.ref l/\y=.ref b/\SqL X.K H l xs/\SqL X.K H b zs/\xs.length+zs.length<=sizeLine/\∀ p,H p=none->Q (.ref p) (upd H p (.lst (xs++zs)))):=by
 intro pins s σ H x y v u Q I rx ry h;obtain ⟨l,b,xs,zs,rfl,rfl,hH,hB,hz,q⟩:=h;cases rx;cases ry;obtain ⟨its,r,⟨o,n,e,hc,hd,hs⟩,_⟩:=I.list hH;obtain ⟨its2,r2,⟨o2,n2,e2,hc2,hd2,hs2⟩,_⟩:=I.list hB;have hl:=r.length;have hl2:=r2.length;obtain ⟨cls,dd,data,sl⟩:=o;obtain ⟨cls2,dd2,data2,sl2⟩:=o2;simp only at hc hd hs hc2 hd2 hs2;subst hc hd hs hc2 hd2 hs2
 refine concat_meets ⟨_,e,rfl⟩ ⟨_,e2,rfl⟩ noFill_list_add seq_list_add F.slot_list_add F.entry_list_add (F.args_list_add_2 _ _) (zjj l its.toArray n none sl b its2.toArray n2 none sl2 (by rw [List.size_toArray,List.size_toArray];omega)) ⟨e,e2,?_⟩
 have ea:its.toArray++its2.toArray=(its++its2).toArray:=by simp
 rw [ea]
 exact ⟨.ref _,_,I.lnew (t':=s.toks) (r.append r2) (by rw [List.length_append];omega),rfl,q _ I.fresh⟩
theorem zkK:MtM X "list.extend" (λx vs H Q=>∃ l b xs zs,x=.ref l/\vs=[.ref b]/\H l=some (.lst xs)/\SqL X.K H b zs/\xs.length+zs.length<=sizeLine/\Q .non (upd H l (.lst (xs++zs)))):=by
 intro pins s σ H x vs v us Q I rx rv h;obtain ⟨l,b,xs,zs,rfl,rfl,hH,hB,hz,q⟩:=h;cases rx;obtain ⟨u,rfl,ru⟩:=rv.one;cases ru;obtain ⟨z,its,n,r,hl,e⟩:=I.lstM hH;obtain ⟨its2,r2,⟨o2,n2,e2,hc2,hd2,hs2⟩,_⟩:=I.list hB;have hl2:=r2.length;obtain ⟨cls2,dd2,data2,sl2⟩:=o2;simp only at hc2 hd2 hs2;subst hc2 hd2 hs2
 have hsz:its.toArray.size+its2.toArray.size<=sizeLine:=by rw [List.size_toArray,List.size_toArray];omega
 have hlong:¬ (!its.toArray.isEmpty&&Builtin.List.listTooLong (its.toArray.size+its2.toArray.size))=true:=by
  rw [zn5 hsz,Bool.and_false];exact Bool.false_ne_true
 refine call_meets F.slot_list_extend ⟨_,e,rfl⟩ F.entry_list_extend (F.args_list_extend_2 _ _)
  (zf4 l its.toArray n b its2.toArray n2 none sl2 hlong (by rw [List.size_toArray];omega) (by omega)) ⟨e,e2,?_⟩
 refine ⟨.non,_,I.lset (its':=its++its2) hH e (by simp) (r.append r2) ?_,rfl,q⟩;rw [List.length_append];omega
end
section
variable {A0:Addr->Prop} {H:Hp} {X:Cx} {s:Shared}
theorem zuy (S:zcv X s H) (x y:D) (A:Around) (v w:V) (u t:Value) (qx:RdD X.K A0 H x v) (qy:RdD X.K A0 H y w) (ru:RelV v u) (rt:RelV w t) (hu:A.units+min x.dep y.dep<cLine):SeqAt.RcAt A s u t (x.eqb y):=by
 have hu0:A.units<cLine:=by omega
 cases vw S qx ru with
 | non=>
  cases vw S qy rt with
  | non=>exact .none_none
  | bl b=>exact .none_bool b
  | int b t=>exact .none_int b t
  | str b t=>exact .none_str _ t
  | tup _ _ _ _ _ _ _ p=>exact .none_tuple p hu0
  | lst _ _ _ _ _ _ _ p=>exact .none_list p hu0
 | bl c=>
  cases vw S qy rt with
  | non=>exact .bool_none c
  | bl b=>exact .bool_bool c b
  | int b t=>exact .bool_int c b t
  | str b t=>exact .bool_str c _ t
  | tup _ _ _ _ _ _ _ p=>exact .bool_tuple c p hu0
  | lst _ _ _ _ _ _ _ p=>exact .bool_list c p hu0
 | int c u=>
  cases vw S qy rt with
  | non=>exact .int_none c u
  | bl b=>exact .int_bool c u b
  | int b t=>exact .int_int c u b t
  | str b t=>exact .int_str c u _ t
  | tup _ _ _ _ _ _ _ p=>exact .int_tuple c u p hu0
  | lst _ _ _ _ _ _ _ p=>exact .int_list c u p hu0
 | str c u=>
  cases vw S qy rt with
  | non=>exact .str_none _ u
  | bl b=>exact .str_bool _ u b
  | int b t=>exact .str_int _ u b t
  | str b t=>have z:=SeqAt.RcAt.str_str (A:=A) (s:=s) (zaj c) u (zaj b) t;rw [zgw] at z;exact z
  | tup _ _ _ _ _ _ _ p=>exact .str_tuple _ u p hu0
  | lst _ _ _ _ _ _ _ p=>exact .str_list _ u p hu0
 | tup c a vs its q zs ri p=>
  cases vw S qy rt with
  | non=>exact .tuple_none p hu0
  | bl b=>exact .tuple_bool b p hu0
  | int b t=>exact .tuple_int b t p hu0
  | str b t=>exact .tuple_str _ t p hu0
  | lst _ _ _ _ _ _ _ p'=>exact .tuple_list p p' hu0
  | tup b a' vs' its' q' zs' ri' p'=>
   have key:=pairs_D S c b A.in1 vs vs' its its' zs zs' ri ri' (by show A.units+1+_<cLine;simp only [D.dep] at hu;omega)
   have:=SeqAt.RcAt.tuples (e:=zaX c b) p p' hu0 (λj h1 h2=>by have:=key j (by simpa using h1) (by simpa using h2);simpa using this)
   rw [zgC zs zs' ri ri'] at this;exact this
 | lst c a vs its q zs ri p=>
  cases vw S qy rt with
  | non=>exact .list_none p hu0
  | bl b=>exact .list_bool b p hu0
  | int b t=>exact .list_int b t p hu0
  | str b t=>exact .list_str _ t p hu0
  | tup _ _ _ _ _ _ _ p'=>exact .list_tuple p p' hu0
  | lst b a' vs' its' q' zs' ri' p'=>
   have key:=pairs_D S c b A.in1 vs vs' its its' zs zs' ri ri' (by show A.units+1+_<cLine;simp only [D.dep] at hu;omega)
   have l1:=zs.length;have l2:=zs'.length;have l3:=ri.length;have l4:=ri'.length
   show SeqAt.RcAt A s _ _ (D.eqbs c b)
   by_cases hl:c.length=b.length
   ·have:=SeqAt.RcAt.lists (e:=zaX c b) p p' (by simp;omega) hu0 (λj h1 h2=>by have:=key j (by simpa using h1) (by simpa using h2);simpa using this)
    have hm:its.toArray.size=c.length:=by simp;omega
    rw [hm,zdL c b (λx y=>x.eqb y) hl (zaX c b) (λj x y h1 h2=>by simp [zaX,h1,h2]),<-zdJ c b hl] at this;exact this
   ·rw [zdG c b hl]
    exact SeqAt.RcAt.lists_lengths p p' (by simp;omega) hu0
theorem zps (S:zcv X s H) (x y:D) (A:Around) (v w:V) (u t:Value) (qx:RdD X.K A0 H x v) (qy:RdD X.K A0 H y w) (ru:RelV v u) (rt:RelV w t) (hu:A.units+min x.dep y.dep<cLine):SeqAt.RcNeAt A s u t (!x.eqb y):=by
 have hu0:A.units<cLine:=by omega
 cases vw S qx ru with
 | non=>
  cases vw S qy rt with
  | non=>exact .none_none
  | bl b=>exact .none_bool b
  | int b t=>exact .none_int b t
  | str b t=>exact .none_str _ t
  | tup _ _ _ _ _ _ _ p=>exact .none_tuple p hu0
  | lst _ _ _ _ _ _ _ p=>exact .none_list p hu0
 | bl c=>
  cases vw S qy rt with
  | non=>exact .bool_none c
  | bl b=>exact .bool_bool c b
  | int b t=>exact .bool_int c b t
  | str b t=>exact .bool_str c _ t
  | tup _ _ _ _ _ _ _ p=>exact .bool_tuple c p hu0
  | lst _ _ _ _ _ _ _ p=>exact .bool_list c p hu0
 | int c u=>
  cases vw S qy rt with
  | non=>exact .int_none c u
  | bl b=>exact .int_bool c u b
  | int b t=>exact .int_int c u b t
  | str b t=>exact .int_str c u _ t
  | tup _ _ _ _ _ _ _ p=>exact .int_tuple c u p hu0
  | lst _ _ _ _ _ _ _ p=>exact .int_list c u p hu0
 | str c u=>
  cases vw S qy rt with
  | non=>exact .str_none _ u
  | bl b=>exact .str_bool _ u b
  | int b t=>exact .str_int _ u b t
  | str b t=>have z:=SeqAt.RcNeAt.str_str (A:=A) (s:=s) (zaj c) u (zaj b) t;rw [zgw] at z;exact z
  | tup _ _ _ _ _ _ _ p=>exact .str_tuple _ u p hu0
  | lst _ _ _ _ _ _ _ p=>exact .str_list _ u p hu0
 | tup c a vs its q zs ri p=>
  cases vw S qy rt with
  | non=>exact .tuple_none p hu0
  | bl b=>exact .tuple_bool b p hu0
  | int b t=>exact .tuple_int b t p hu0
  | str b t=>exact .tuple_str _ t p hu0
  | lst _ _ _ _ _ _ _ p'=>exact .tuple_list p p' hu0
  | tup b a' vs' its' q' zs' ri' p'=>
   have key:=pairs_D S c b A.in1 vs vs' its its' zs zs' ri ri' (by show A.units+1+_<cLine;simp only [D.dep] at hu;omega)
   have:=SeqAt.RcNeAt.tuples (e:=zaX c b) p p' hu0 (λj h1 h2=>by have:=key j (by simpa using h1) (by simpa using h2);simpa using this)
   rw [zgC zs zs' ri ri'] at this;exact this
 | lst c a vs its q zs ri p=>
  cases vw S qy rt with
  | non=>exact .list_none p hu0
  | bl b=>exact .list_bool b p hu0
  | int b t=>exact .list_int b t p hu0
  | str b t=>exact .list_str _ t p hu0
  | tup _ _ _ _ _ _ _ p'=>exact .list_tuple p p' hu0
  | lst b a' vs' its' q' zs' ri' p'=>
   have key:=pairs_D S c b A.in1 vs vs' its its' zs zs' ri ri' (by show A.units+1+_<cLine;simp only [D.dep] at hu;omega)
   have l1:=zs.length;have l2:=zs'.length;have l3:=ri.length;have l4:=ri'.length
   show SeqAt.RcNeAt A s _ _ (!D.eqbs c b)
   by_cases hl:c.length=b.length
   ·have:=SeqAt.RcNeAt.lists (e:=zaX c b) p p' (by simp;omega) hu0 (λj h1 h2=>by have:=key j (by simpa using h1) (by simpa using h2);simpa using this)
    have hm:its.toArray.size=c.length:=by simp;omega
    rw [hm,zdL c b (λx y=>x.eqb y) hl (zaX c b) (λj x y h1 h2=>by simp [zaX,h1,h2]),<-zdJ c b hl] at this;exact this
   ·rw [zdG c b hl]
    exact SeqAt.RcNeAt.lists_lengths p p' (by simp;omega) hu0
end
section
variable {X:Cx}
theorem zpy:OpR X (binaryOp .Add) (λx y H Q=>∃ a b ys,x=.ref a/\y=.ref b/\SqT X.K H a []/\SqT X.K H b ys/\Q (.ref b) H):=by
 intro pins s σ H x y v u Q I rx ry h;obtain ⟨a,b,ys,rfl,rfl,ha,hb,q⟩:=h
 cases rx;cases ry
 obtain ⟨its,r1,p1,_⟩:=I.tuple ha;obtain ⟨its2,r2,p2,_⟩:=I.tuple hb;have hi:its=[]:=r1.nil_iff.mpr rfl;subst hi;obtain ⟨⟨cls,dd,data,sl⟩,ho,hc,n,hd⟩:=id p1;obtain ⟨⟨cls2,dd2,data2,sl2⟩,ho2,hc2,n2,hd2⟩:=id p2;simp only at hc hd hc2 hd2;subst hc hd hc2 hd2;refine PySem.concat_meets ⟨_,ho,rfl⟩ ⟨_,ho2,rfl⟩ PySem.noFill_tuple_add PySem.seq_tuple_add PySem.F.slot_tuple_add PySem.F.entry_tuple_add (PySem.F.args_tuple_add_2 _ _) (PyProof.Rows.tuple_addW0 a b _ its2.toArray n n2 dd dd2 sl sl2 ?_) ⟨ho,ho2,?_⟩
 ·rfl
 ·exact ⟨.ref b,H,I,rfl,q⟩
theorem zlD (h1:0<=i) (h2:0<=j):Builtin.bitAnd i j=((i.toNat &&& j.toNat:Nat):Int):=by
 unfold Builtin.bitAnd;rw [decide_eq_true h1,decide_eq_true h2]
theorem zoS (h1:0<=i) (h2:0<=j):Builtin.bitOr i j=((i.toNat ||| j.toNat:Nat):Int):=by
 unfold Builtin.bitOr Builtin.bitAnd Builtin.bitNot;rw [decide_eq_false (show ¬ 0<=-i-1 by omega),decide_eq_false (show ¬ 0<=-j-1 by omega)];simp only;rw [show-(-i-1)-1=i by omega,show-(-j-1)-1=j by omega];omega
theorem zoE:OpD X (binaryOp .BitAnd) (bop .band):=by
 intro pins s σ H v u v' u' Q I rv ru q;obtain ⟨μ,h,a,b,z,R0,qa,qb,e,k⟩:=q
 cases a with
 | int i=>
  cases b with
  | int j=>
   simp only [RdD,RepD] at qa qb
   (change (if _=true then _ else _)=some _ at e;simp only [Bool.and_eq_true,decide_eq_true_eq] at e)
   split at e
   ·rename_i hf
    cases e
    exact zsC pins s σ H v u v' u' Q I rv ru ⟨i,j,qa,qb,by show Q (V.int (Builtin.bitAnd i j)) H;rw [zlD hf.1 hf.2];exact k μ H _ Stp.refl R0 (by simp only [RepD])⟩
   ·cases e
  | _=>exact zae e
 | _=>cases b<;>exact zae e
theorem zr3:OpD X (binaryOp .BitOr) (bop .bor):=by
 intro pins s σ H v u v' u' Q I rv ru q;obtain ⟨μ,h,a,b,z,R0,qa,qb,e,k⟩:=q
 cases a with
 | int i=>
  cases b with
  | int j=>
   simp only [RdD,RepD] at qa qb
   (change (if _=true then _ else _)=some _ at e;simp only [Bool.and_eq_true,decide_eq_true_eq] at e)
   split at e
   ·rename_i hf
    cases e
    exact zvk pins s σ H v u v' u' Q I rv ru ⟨i,j,qa,qb,by show Q (V.int (Builtin.bitOr i j)) H;rw [zoS hf.1 hf.2];exact k μ H _ Stp.refl R0 (by simp only [RepD])⟩
   ·cases e
  | _=>exact zae e
 | _=>cases b<;>exact zae e
theorem zrg:OpD X (binaryOp .Add) (bop .add):=by
 intro pins s σ H v u v' u' Q I rv ru q;obtain ⟨μ,h,a,b,z,R0,qa,qb,e,k⟩:=q
 cases a with
 | int i=>
  cases b with
  | int j=>
   simp only [RdD,RepD] at qa qb;replace e:=Option.some.inj e;subst e;exact zud pins s σ H v u v' u' Q I rv ru ⟨i,j,qa,qb,k μ H _ Stp.refl R0 (by simp only [RepD])⟩
  | _=>exact zae e
 | str x=>
  cases b with
  | str y=>
   simp only [RdD,RepD] at qa qb;change (if _=true then _ else _)=some _ at e
   split at e
   ·rename_i hf
    cases e
    exact zk9 pins s σ H v u v' u' Q I rv ru ⟨zaj x,zaj y,qa,qb,by rw [zay,zay];exact of_decide_eq_true hf,by rw [zlM];exact k μ H _ Stp.refl R0 (by simp only [RepD])⟩
   ·cases e
  | _=>exact zae e
 | tup xs=>
  cases b with
  | tup ys=>
   simp only [RdD,RepD] at qa qb;obtain ⟨p,vs,rfl,q1,z1⟩:=qa;obtain ⟨p',vs',rfl,q2,z2⟩:=qb;change (if _=true then _ else _)=some _ at e
   split at e
   ·rename_i hf
    cases e;have l1:=z1.length;have l2:=z2.length;have hlen:xs.length+ys.length<=sizeLine:=of_decide_eq_true hf
    by_cases hv:vs=[]
    ·subst hv
     have hx:xs=[]:=by cases xs with | nil=>rfl | cons _ _=>simp at l1
     subst hx
     exact zpy pins s σ H _ _ v' u' Q I rv ru ⟨p,p',vs',rfl,rfl,q1,q2,k μ H _ Stp.refl R0 (by simp only [RepD];exact ⟨p',vs',rfl,q2,z2⟩)⟩
    refine zrB pins s σ H _ _ v' u' Q I rv ru ⟨p,p',vs,vs',rfl,rfl,q1,q2,hv,by omega,λhn=>?_,λ_ r hr=>?_⟩
    ·subst hn
     cases ys with
     | nil=>
      rw [List.append_nil] at k
      exact k μ H _ Stp.refl R0 (by simp only [RepD];exact ⟨p,vs,rfl,q1,z1⟩)
     | cons _ _=>simp at l2
    ·have s2:Stp μ h H μ h (upd H r (.tup (vs++vs'))):=Stp.fresh hr
     refine k μ _ (.ref r) s2 (R0.fresh hr) ?_;simp only [RepD];exact ⟨r,vs++vs',rfl,SqT.of zao,RepDs.stp s2 R0 (z1.app z2)⟩
   ·cases e
  | _=>exact zae e
 | lst xs=>
  cases b with
  | lst ys=>
   obtain ⟨p,vs,rfl,q1,z1⟩:=qa;obtain ⟨p',vs',rfl,q2,z2⟩:=qb;change (if _=true then _ else _)=some _ at e
   split at e
   ·rename_i hf
    cases e;have l1:=z1.length;have l2:=z2.length;have hlen:xs.length+ys.length<=sizeLine:=of_decide_eq_true hf;refine zmw pins s σ H _ _ v' u' Q I rv ru ⟨p,p',vs,vs',rfl,rfl,q1,q2,by omega,λr hr=>?_⟩;have s2:Stp μ h H μ h (upd H r (.lst (vs++vs'))):=Stp.fresh hr;refine k μ _ (.ref r) s2 (R0.fresh hr) ?_;simp only [RepD];refine ⟨r,vs++vs',rfl,.inl ⟨λl=>?_,.inl zao⟩,RepDs.stp s2 R0 (z1.app z2)⟩;obtain ⟨ws,w,_⟩:=R0.liveAt l
    rw [hr] at w;cases w
   ·cases e
  | _=>exact zae e
 | _=>cases b<;>exact zae e
theorem zsa:OpD X (binaryOp .Pow) (bop .pow):=by
 intro pins s σ H v u v' u' Q I rv ru q;obtain ⟨μ,h,a,b,z,R0,qa,qb,e,k⟩:=q
 cases a with
 | int i=>
  cases b with
  | int j=>
   simp only [RdD,RepD] at qa qb;change (if _=true then _ else _)=some _ at e
   split at e
   ·rename_i hf
    simp only [Bool.and_eq_true] at hf;cases e;exact ztA pins s σ H v u v' u' Q I rv ru ⟨i,j,qa,qb,⟨of_decide_eq_true hf.1.1,of_decide_eq_true hf.1.2,of_decide_eq_true hf.2⟩,k μ H _ Stp.refl R0 (by simp only [RepD])⟩
   ·cases e
  | _=>exact zae e
 | _=>cases b<;>exact zae e
theorem zqR:OpD X (binaryOp .Sub) (bop .sub):=by
 intro pins s σ H v u v' u' Q I rv ru q;obtain ⟨μ,h,a,b,z,R0,qa,qb,e,k⟩:=q
 cases a with
 | int i=>
  cases b with
  | int j=>
   simp only [RdD,RepD] at qa qb;replace e:=Option.some.inj e;subst e;exact zsh pins s σ H v u v' u' Q I rv ru ⟨i,j,qa,qb,k μ H _ Stp.refl R0 (by simp only [RepD])⟩
  | _=>exact zae e
 | _=>cases b<;>exact zae e
theorem zpo:OpD X (binaryOp .FloorDiv) (bop .fdiv):=by
 intro pins s σ H v u v' u' Q I rv ru q;obtain ⟨μ,h,a,b,z,R0,qa,qb,e,k⟩:=q
 cases a with
 | int i=>
  cases b with
  | int j=>
   simp only [RdD,RepD] at qa qb;change (if _=true then _ else _)=some _ at e
   split at e
   ·rename_i hf
    rw [Bool.and_eq_true] at hf;cases e;have h0:(0:Int)<j:=of_decide_eq_true hf.1;have h1:j<1000000000000000000000000000000000000000000000000000000000000:=of_decide_eq_true hf.2;subst qa qb;obtain ⟨t1,rfl⟩:=rv;obtain ⟨t2,rfl⟩:=ru;refine PyProof.Rows.floordiv_int (by omega) ?_ (.inl (PyProof.noPylong_of_log2 ?_))
    ·have ef:i.fdiv j=i / j:=Int.fdiv_eq_ediv_of_nonneg i (by omega)
     rw [ef];exact ⟨.int (i / j),H,I.tok _,⟨_,rfl⟩,k μ H _ Stp.refl R0 (by simp only [RepD])⟩
    ·have hj:j.natAbs<2 ^ 200:=by
      omega
     have hj0:j.natAbs≠0:=by omega
     have:=(Nat.log2_lt hj0).mpr hj
     omega
   ·cases e
  | _=>exact zae e
 | _=>cases b<;>exact zae e
theorem zqD:OpD X (binaryOp .Mod) (bop .mod):=by
 intro pins s σ H v u v' u' Q I rv ru q;obtain ⟨μ,h,a,b,z,R0,qa,qb,e,k⟩:=q
 cases a with
 | int i=>
  cases b with
  | int j=>
   simp only [RdD,RepD] at qa qb;change (if _=true then _ else _)=some _ at e
   split at e
   ·rename_i hf
    cases e;exact zup pins s σ H v u v' u' Q I rv ru ⟨i,j,qa,qb,of_decide_eq_true hf,k μ H _ Stp.refl R0 (by simp only [RepD])⟩
   ·cases e
  | _=>exact zae e
 | _=>cases b<;>exact zae e
theorem zsE (hu:X.A.units+64<cLine):OpD X (compareOp .Eq) (cop .eq):=by
 intro pins s σ H v u v' u' Q I rv ru q;obtain ⟨μ,h,a,b,z,R0,qa,qb,e,k⟩:=q
 (delta cop at e;(try dsimp only at e))
 split at e
 ·rename_i hf
  cases e;have hd:min a.dep b.dep<=60:=of_decide_eq_true hf;exact zuy (zdw I) a b X.A v u v' u' qa qb rv ru (by omega) X.prog X.w X.xe _ ⟨.bl _,H,I,rfl,k μ H _ Stp.refl R0 (by simp only [RepD])⟩
 ·cases e
theorem zst (hu:X.A.units+64<cLine):OpD X (compareOp .NotEq) (cop .ne):=by
 intro pins s σ H v u v' u' Q I rv ru q;obtain ⟨μ,h,a,b,z,R0,qa,qb,e,k⟩:=q
 (delta cop at e;(try dsimp only at e))
 split at e
 ·rename_i hf
  cases e;have hd:min a.dep b.dep<=60:=of_decide_eq_true hf;exact zps (zdw I) a b X.A v u v' u' qa qb rv ru (by omega) X.prog X.w X.xe _ ⟨.bl _,H,I,rfl,k μ H _ Stp.refl R0 (by simp only [RepD])⟩
 ·cases e
theorem zts:OpD X (compareOp .Lt) (cop .lt):=by
 intro pins s σ H v u v' u' Q I rv ru q;obtain ⟨μ,h,a,b,z,R0,qa,qb,e,k⟩:=q
 cases a with
 | int i=>
  cases b with
  | int j=>
   simp only [RdD,RepD] at qa qb;replace e:=Option.some.inj e;subst e;exact zu6 pins s σ H v u v' u' Q I rv ru ⟨i,j,qa,qb,k μ H _ Stp.refl R0 (by simp only [RepD])⟩
  | _=>exact zae e
 | _=>cases b<;>exact zae e
theorem zub:OpD X (compareOp .LtE) (cop .le):=by
 intro pins s σ H v u v' u' Q I rv ru q;obtain ⟨μ,h,a,b,z,R0,qa,qb,e,k⟩:=q
 cases a with
 | int i=>
  cases b with
  | int j=>
   simp only [RdD,RepD] at qa qb;replace e:=Option.some.inj e;subst e;exact zvv pins s σ H v u v' u' Q I rv ru ⟨i,j,qa,qb,k μ H _ Stp.refl R0 (by simp only [RepD])⟩
  | _=>exact zae e
 | _=>cases b<;>exact zae e
theorem zt6:OpD X (compareOp .Gt) (cop .gt):=by
 intro pins s σ H v u v' u' Q I rv ru q;obtain ⟨μ,h,a,b,z,R0,qa,qb,e,k⟩:=q
 cases a with
 | int i=>
  cases b with
  | int j=>
   simp only [RdD,RepD] at qa qb;replace e:=Option.some.inj e;subst e;exact zvo pins s σ H v u v' u' Q I rv ru ⟨i,j,qa,qb,k μ H _ Stp.refl R0 (by simp only [RepD])⟩
  | _=>exact zae e
 | _=>cases b<;>exact zae e
theorem zuA:OpD X (compareOp .GtE) (cop .ge):=by
 intro pins s σ H v u v' u' Q I rv ru q;obtain ⟨μ,h,a,b,z,R0,qa,qb,e,k⟩:=q
 cases a with
 | int i=>
  cases b with
  | int j=>
   simp only [RdD,RepD] at qa qb;replace e:=Option.some.inj e;subst e;exact zvt pins s σ H v u v' u' Q I rv ru ⟨i,j,qa,qb,k μ H _ Stp.refl R0 (by simp only [RepD])⟩
  | _=>exact zae e
 | _=>cases b<;>exact zae e
theorem zju (hu:X.A.units+64<cLine) (I:Inv X pins σ H s) (qa:RdD X.K (Live μ h) H a v) (rv:RelV v v') (hd:a.dep<=60)
  {xs:List D} {ws:List V} {its:List Value} (q:RepDs X.K (Live μ h) H xs ws) (r:Vals ws its) :
  ∃ f:Value->Bool,(∀ y,y∈its.toArray->SeqAt.EqAt X.A.in1 s y v' (f y))/\∀ (j:Nat) (x:D) (y:Value),xs[j]?=some x->its[j]?=some y->f y=x.eqb a:=by
 have S:=zdw I
 classical
 have base:∀ (y:Value) (x:D) (w:V),RepD X.K (Live μ h) H x w->RelV w y->SeqAt.EqAt X.A.in1 s y v' (x.eqb a):=λy x w qx rx=>
  zpI S x a X.A.in1 w v y v' (RdD.of qx) qa rx rv (by show X.A.units+1+_<cLine;omega)
 have at':∀ (j:Nat) (y:Value),its[j]?=some y->∃ x w,xs[j]?=some x/\RepD X.K (Live μ h) H x w/\RelV w y:=by
  intro j y hy;have hj:j<its.length:=(List.getElem?_eq_some_iff.mp hy).1
  have hj2:j<ws.length:=by rw [r.length];exact hj
  obtain ⟨x,hx,qx⟩:=q.get' (List.getElem?_eq_getElem hj2);obtain ⟨u,hu',ru⟩:=r.get (List.getElem?_eq_getElem hj2);rw [hy] at hu';cases hu';exact ⟨x,_,hx,qx,ru⟩
 refine ⟨λy=>decide (∃ (x:D) (w:V),RepD X.K (Live μ h) H x w/\RelV w y/\x.eqb a=true),λy hy=>?_,λj x y hx hy=>?_⟩
 ·obtain ⟨j,hj⟩:=List.getElem?_of_mem (show y∈its by simpa using hy)
  obtain ⟨x,w,hx,qx,rx⟩:=at' j y hj;dsimp only
  by_cases hx':∃ (x:D) (w:V),RepD X.K (Live μ h) H x w/\RelV w y/\x.eqb a=true
  ·rw [decide_eq_true hx']
   obtain ⟨x',w',q',r',e'⟩:=hx';rw [<-e'];exact base y x' w' q' r'
  ·rw [decide_eq_false hx']
   cases ex:x.eqb a with
   | true=>exact absurd ⟨x,_,qx,rx,ex⟩ hx'
   | false=>rw [<-ex];exact base y x _ qx rx
 ·obtain ⟨x1,w,hx1,qx,rx⟩:=at' j y hy
  rw [hx] at hx1;cases hx1;dsimp only
  cases ex:x.eqb a with
  | true=>exact decide_eq_true ⟨x,w,qx,rx,ex⟩
  | false=>
   refine decide_eq_false λq_=>?_;obtain ⟨x',w',q',r',e'⟩:=q_;have ew:=RelV.inj rx r';rw [RepD.inj S x x' w' (ew▸qx) q'] at ex;rw [ex] at e';cases e'
theorem zhi (hu:X.A.units+64<cLine) (I:Inv X pins σ H s) (qa:RdD X.K (Live μ h) H a v) (rv:RelV v v') (hd:a.dep<=60)
  {xs:List D} {ws:List V} {its:List Value} (q:RepDs X.K (Live μ h) H xs ws) (r:Vals ws its) :
  ∃ f:Value->Bool,(∀ y,y∈its.toArray->SeqAt.EqAt X.A.in1 s y v' (f y))/\its.toArray.any f=xs.any λy=>y.eqb a:=by
 obtain ⟨f,f1,f2⟩:=zju hu I qa rv hd q r;refine ⟨f,f1,?_⟩;have l1:=q.length;have l2:=r.length
 have e:its.map f=xs.map λy=>y.eqb a:=List.ext_getElem? λj=>by
  rw [List.getElem?_map,List.getElem?_map]
  by_cases c:j<xs.length
  ·have c2:j<its.length:=by omega
   rw [List.getElem?_eq_getElem c,List.getElem?_eq_getElem c2];exact congrArg some (f2 j _ _ (List.getElem?_eq_getElem c) (List.getElem?_eq_getElem c2))
  ·rw [List.getElem?_eq_none (by omega),List.getElem?_eq_none (by omega)];rfl
 have:=congrArg (List.any · id) e
 simpa [List.any_map] using this
theorem zoq (hu:X.A.units+64<cLine):OpD X (compareOp .In) (cop .isin):=by
 intro pins s σ H v u v' u' Q I rv ru q;obtain ⟨μ,h,a,b,z,R0,qa,qb,e,k⟩:=q;have S:=zdw I
 (delta cop at e;(try dsimp only at e))
 cases b with
 | tup ys=>
  simp only [items] at e
  split at e
  ·rename_i hf
   cases e;simp only [RdD,RepD] at qb;obtain ⟨p,vs,rfl,q1,z1⟩:=qb;cases ru;obtain ⟨its,r1,p1⟩:=S.tup p vs q1;obtain ⟨f,hf1,hf2⟩:=zhi hu I qa rv (of_decide_eq_true hf) z1 r1
   exact SeqAt.in_tupleAt f p1 hf1 ⟨.bl _,H,I,rfl,by rw [hf2];exact k μ H _ Stp.refl R0 (by simp only [RepD])⟩
  ·cases e
 | lst ys=>
  simp only [items] at e
  split at e
  ·rename_i hf
   cases e;obtain ⟨p,vs,rfl,q1,z1⟩:=qb;cases ru;obtain ⟨its,r1,p1⟩:=S.lst p vs q1;obtain ⟨f,hf1,hf2⟩:=zhi hu I qa rv (of_decide_eq_true hf) z1 r1
   exact SeqAt.in_listAt f p1 hf1 ⟨.bl _,H,I,rfl,by rw [hf2];exact k μ H _ Stp.refl R0 (by simp only [RepD])⟩
  ·cases e
 | str x=>
  simp only [items] at e
  cases a with
  | str y=>
   cases e;simp only [RdD,RepD] at qa qb;subst qa qb;refine zmr pins s σ H _ _ v' u' Q I rv ru ⟨zaj y,zaj x,rfl,rfl,?_⟩;rw [zqe];exact k μ H _ Stp.refl R0 (by simp only [RepD])
  | _=>cases e
 | _=>simp [items] at e
theorem zlW (hu:X.A.units+64<cLine):OpD X (compareOp .NotIn) (cop .notin):=by
 intro pins s σ H v u v' u' Q I rv ru q;obtain ⟨μ,h,a,b,z,R0,qa,qb,e,k⟩:=q;have S:=zdw I
 (delta cop at e;(try dsimp only at e))
 cases b with
 | tup ys=>
  simp only [items] at e
  split at e
  ·rename_i hf
   cases e;simp only [RdD,RepD] at qb;obtain ⟨p,vs,rfl,q1,z1⟩:=qb;cases ru;obtain ⟨its,r1,p1⟩:=S.tup p vs q1;obtain ⟨f,hf1,hf2⟩:=zhi hu I qa rv (of_decide_eq_true hf) z1 r1
   exact SeqAt.notIn_tupleAt f p1 hf1 ⟨.bl _,H,I,rfl,by rw [hf2];exact k μ H _ Stp.refl R0 (by simp only [RepD])⟩
  ·cases e
 | lst ys=>
  simp only [items] at e
  split at e
  ·rename_i hf
   cases e;obtain ⟨p,vs,rfl,q1,z1⟩:=qb;cases ru;obtain ⟨its,r1,p1⟩:=S.lst p vs q1;obtain ⟨f,hf1,hf2⟩:=zhi hu I qa rv (of_decide_eq_true hf) z1 r1
   exact SeqAt.notIn_listAt f p1 hf1 ⟨.bl _,H,I,rfl,by rw [hf2];exact k μ H _ Stp.refl R0 (by simp only [RepD])⟩
  ·cases e
 | str x=>
  simp only [items] at e
  cases a with
  | str y=>
   cases e;simp only [RdD,RepD] at qa qb;subst qa qb;refine zhG pins s σ H _ _ v' u' Q I rv ru ⟨zaj y,zaj x,rfl,rfl,?_⟩;rw [zqe];exact k μ H _ Stp.refl R0 (by simp only [RepD])
  | _=>cases e
 | _=>simp [items] at e
end
end IT
namespace PySem
open Sem (wp)
open Builtin
theorem zdk:fillsNumberSlot (.type "tuple") "mul"=pure false:=
 fillsNumberSlot_seq (id:="tuple.__mul__") (r:=some (.builtin "tuple.__rmul__")) F.slot_tuple_mul.lookup (by decide +kernel) F.slot_tuple_rmul.lookup (by decide +kernel)
theorem zfo:seqRepeat? (.type "tuple")=pure (some (.builtin "tuple.__mul__")):=by
 unfold seqRepeat?;rw [seqSlot_of (T:="tuple") (name:="__mul__") (id:="tuple.__mul__") F.slot_tuple_mul.lookup (by decide +kernel),seqSlot_of (T:="tuple") (name:="__rmul__") (id:="tuple.__rmul__") F.slot_tuple_rmul.lookup (by decide +kernel)];rfl
theorem zgz (a:Int) (t:Tok) (l:Addr) (items:Array Value) (n:Nat) (dd:Option Addr) (sl:Array (Option Value)) :
  Meets (Builtin.«int.__rmul__» ⟨[.int a t,.ref l],[]⟩) (λ_ R s=>s.heap.get? l=some { cls:=.type "tuple",dict:=dd,data:=.seq items n,slots:=sl }/\R (.ok (.ret Value.notImplemented)) s):=
 .of_wp λprog w A R s h=>by obtain ⟨hp,g,d,tk,os⟩:=s;obtain ⟨hl,h⟩:=h;wp_walk;exact ⟨_,rfl,h⟩
theorem zgG (t:Tok) (l:Addr) (items:Array Value) (n:Nat) (dd:Option Addr) (sl:Array (Option Value)) :
  Meets (Builtin.«tuple.__mul__» ⟨[.ref l,.int 1 t],[]⟩) (λ_ R s=>s.heap.get? l=some { cls:=.type "tuple",dict:=dd,data:=.seq items n,slots:=sl }/\R (.ok (.ret (.ref l))) s):=
 .of_wp λprog w A R s h=>by obtain ⟨hp,g,d,tk,os⟩:=s;obtain ⟨hl,h⟩:=h;wp_walk;exact ⟨_,rfl,h⟩
theorem zhh (t:Tok) (l:Addr) (items:Array Value) (n:Nat) (dd:Option Addr) (sl:Array (Option Value)) (hc:items.isEmpty=false) :
  Meets (Builtin.«tuple.__mul__» ⟨[.ref l,.int 0 t],[]⟩) (λ_ R s=>s.heap.get? l=some { cls:=.type "tuple",dict:=dd,data:=.seq items n,slots:=sl }/\R (.ok (.ret (.ref s.heap.objs.size))) { s with heap:=s.heap.push { cls:=.type "tuple",data:=.seq #[] } }):=
 .of_wp λprog w A R s h=>by obtain ⟨hp,g,d,tk,os⟩:=s;obtain ⟨hl,h⟩:=h;wp_walk;exact ⟨_,rfl,h⟩
theorem zdq (items:Array Value):∀ (m:Nat) (acc:Array Value),((List.replicate m items).foldl (·++·) acc).toList=acc.toList++(List.replicate m items.toList).flatten
 | 0,acc=>by simp
 | m+1,acc=>by rw [List.replicate_succ,List.foldl_cons,zdq items m,List.replicate_succ,List.flatten_cons,Array.toList_append,List.append_assoc]
theorem zjb (items:Array Value) (m:Nat):((List.replicate m items).foldl (·++·) #[]).size=items.size*m:=by
 rw [<-Array.length_toList,zdq]
 induction m with
 | zero=>simp
 | succ m ih=>
  rw [List.replicate_succ,List.flatten_cons,<-List.append_assoc];simp only [List.length_append,List.nil_append] at ih ⊢;rw [Array.length_toList,Nat.mul_succ];omega
theorem zgW (k:Int) (t:Tok) (l:Addr) (items:Array Value) (n:Nat) (dd:Option Addr) (sl:Array (Option Value)) (hc:items.isEmpty=false) (h1:1<k) (h2:k<=16777216) (h3:items.size*k.toNat<=sizeLine) :
  Meets (Builtin.«tuple.__mul__» ⟨[.ref l,.int k t],[]⟩) (λ_ R s=>s.heap.get? l=some { cls:=.type "tuple",dict:=dd,data:=.seq items n,slots:=sl }/\R (.ok (.ret (.ref s.heap.objs.size))) { s with heap:=s.heap.push { cls:=.type "tuple",data:=.seq ((List.replicate k.toNat items).foldl (·++·) #[]) } }):=
 .of_wp λprog w A R s h=>by
  obtain ⟨hp,g,d,tk,os⟩:=s;obtain ⟨hl,h⟩:=h
  have hk:(items.size:Int)*k=((items.size*k.toNat:Nat):Int):=by
   rw [Int.natCast_mul,Int.toNat_of_nonneg (by omega)]
  rw [sizeLine_eq] at h3
  have c1:(decide (k < -(2 ^ 63))||decide (k ≥ 2 ^ 63))=false:=by simp;omega
  have c2:(items.isEmpty||k==1)=false:=by rw [hc];simp;omega
  have c3:(decide (k<=0)||items.isEmpty)=false:=by rw [hc];simp;omega
  have c4:¬ ((items.size:Int)*k>(2 ^ 63-1) / 8):=by rw [hk];omega
  have c5:Tuple.tupleTooMany ((items.size:Int)*k)=false:=by
   rw [hk];unfold Tuple.tupleTooMany;rw [sizeLine_eq];exact decide_eq_false (by omega)
  wp_walk
  rw [if_neg (by rw [c1];decide)]
  wp_walk
  dsimp only
  rw [if_neg (by rw [c2];decide)]
  rw [if_neg (by rw [c3];decide)]
  rw [if_neg c4]
  rw [if_neg (by rw [c5];decide)]
  wp_walk
  rw [if_neg (by rw [zjb,sizeLine_eq];omega)]
  wp_walk
  exact ⟨_,rfl,h⟩
end PySem
namespace IT
open PySem PySem.Spec L2
section
variable {X:Cx}
theorem Vals.rep (r:Vals xs us):∀ m:Nat,Vals (List.replicate m xs).flatten (List.replicate m us).flatten
 | 0=>.nil
 | m+1=>by rw [List.replicate_succ,List.replicate_succ,List.flatten_cons,List.flatten_cons];exact r.append (Vals.rep r m)
theorem RepDs.rep (q:RepDs K A H xs vs):∀ m:Nat,RepDs K A H (List.replicate m xs).flatten (List.replicate m vs).flatten
 | 0=>.nil
 | m+1=>by rw [List.replicate_succ,List.replicate_succ,List.flatten_cons,List.flatten_cons];exact q.app (RepDs.rep q m)
theorem znJ {α:Type} (xs:List α):∀ m:Nat,(List.replicate m xs).flatten.length=xs.length*m
 | 0=>by simp
 | m+1=>by rw [List.replicate_succ,List.flatten_cons,List.length_append,znJ xs m,Nat.mul_succ,Nat.add_comm]
theorem zja:OpR X (binaryOp .Mult) (λx y H Q=>∃ p k xs,x=.ref p/\y=.int k/\SqT X.K H p xs/\xs≠[]/\((k=1/\Q (.ref p) H)\/(k=0/\∀ r,H r=none->Q (.ref r) (upd H r (.tup []))) ∨
  (1<k/\k<=16777216/\xs.length*k.toNat<=sizeLine/\∀ r,H r=none->Q (.ref r) (upd H r (.tup (List.replicate k.toNat xs).flatten))))):=by
 intro pins s σ H x y v u Q I rx ry q;obtain ⟨p,k,xs,rfl,rfl,hq,hn,q⟩:=q;cases rx;obtain ⟨t,rfl⟩:=ry;obtain ⟨its,r,pt,hz⟩:=I.tuple hq;have hl:=r.length;obtain ⟨⟨cls,dd,data,sl⟩,ho,hc,n,hd⟩:=id pt;simp only at hc hd;subst hc hd
 have hne:its.toArray.isEmpty=false:=by
  cases its with
  | nil=>cases xs with
   | nil=>exact absurd rfl hn
   | cons _ _=>simp at hl
  | cons _ _=>simp
 refine wpAny_binaryOp_repeat_ref (T:="tuple") (U:="int") (by decide) ⟨_,ho,rfl⟩ (λs'=>typeIs_int s' k t) zdk F.fills_int_mul F.slot_int_rmul zfo F.slot_int_index.lookup
  (call_meets F.slot_int_rmul (typeIs_int s k t) F.entry_int_rmul (F.args_int_rmul_2 _ _) (zgz k t p its.toArray n dd sl)
   ⟨ho,rfl,⟨_,ho,rfl⟩,?_⟩)
 rcases q with ⟨rfl,q⟩ | ⟨rfl,q⟩ | ⟨k1,k2,k3,q⟩
 ·exact call_meets F.slot_tuple_mul ⟨_,ho,rfl⟩ F.entry_tuple_mul (F.args_tuple_mul_2 _ _) (zgG t p its.toArray n dd sl) ⟨ho,⟨.ref p,H,I,rfl,q⟩⟩
 ·refine call_meets F.slot_tuple_mul ⟨_,ho,rfl⟩ F.entry_tuple_mul (F.args_tuple_mul_2 _ _) (zhh t p its.toArray n dd sl hne) ⟨ho,?_⟩
  have hf:H s.heap.objs.size=none:=I.hok.fresh (Nat.le_refl _);refine ⟨.ref s.heap.objs.size,upd H s.heap.objs.size (.tup []),I.laid (t':=s.toks) (λb u e=>Heap.get?_push_of_some _ e) (Nat.le_refl _) ?_,rfl,q _ hf⟩;exact ⟨Nat.zero_le _,[],.nil,zdT.new _ _⟩
 ·refine call_meets F.slot_tuple_mul ⟨_,ho,rfl⟩ F.entry_tuple_mul (F.args_tuple_mul_2 _ _) (zgW k t p its.toArray n dd sl hne k1 k2 (by rw [List.size_toArray,<-hl];exact k3)) ⟨ho,?_⟩
  have hf:H s.heap.objs.size=none:=I.hok.fresh (Nat.le_refl _)
  have e:(List.replicate k.toNat its.toArray).foldl (·++·) #[]=((List.replicate k.toNat its).flatten).toArray:=by
   apply Array.ext';rw [zdq];simp
  rw [e];refine ⟨.ref s.heap.objs.size,upd H s.heap.objs.size (.tup (List.replicate k.toNat xs).flatten),I.laid (t':=s.toks) (λb u e=>Heap.get?_push_of_some _ e) (Nat.le_refl _) ?_,rfl,q _ hf⟩
  exact ⟨by rw [znJ];exact k3,_,Vals.rep r _,zdT.new _ _⟩
theorem zq4:OpD X (binaryOp .Mult) (bop .mul):=by
 intro pins s σ H v u v' u' Q I rv ru q;obtain ⟨μ,h,a,b,z,R0,qa,qb,e,k⟩:=q
 cases a with
 | int i=>
  cases b with
  | int j=>
   simp only [RdD,RepD] at qa qb;change (if _=true then _ else _)=some _ at e
   split at e
   ·rename_i hf
    cases e;refine zsq pins s σ H v u v' u' Q I rv ru ⟨i,j,qa,qb,?_,k μ H _ Stp.refl R0 (by simp only [RepD])⟩;rw [Bool.or_eq_true] at hf
    rcases hf with hf | hf
    ·simp only [ziA,Bool.and_eq_true] at hf
     exact .inl ⟨of_decide_eq_true hf.1,of_decide_eq_true hf.2⟩
    ·simp only [ziA,Bool.and_eq_true] at hf
     exact .inr ⟨of_decide_eq_true hf.1,of_decide_eq_true hf.2⟩
   ·cases e
  | _=>exact zae e
 | tup xs=>
  cases b with
  | int j=>
   simp only [RdD,RepD] at qa qb;obtain ⟨p,vs,rfl,q1,z1⟩:=qa;have l1:=z1.length;change (if _=true then _ else _)=some _ at e
   split at e
   ·cases e
   ·rename_i hne
    cases e;simp only [Bool.or_eq_true,Bool.not_eq_true',not_or,decide_eq_true_eq] at hne;obtain ⟨⟨⟨n1,n2⟩,n3⟩,n4⟩:=hne
    have n4:fit (xs.length*j.toNat)=true:=by simpa using n4
    have n4:xs.length*j.toNat<=sizeLine:=of_decide_eq_true n4
    have hn:vs≠[]:=by
     rintro rfl
     cases xs with
     | nil=>simp at n1
     | cons _ _=>simp at l1
    by_cases h0:j=0
    ·subst h0
     refine zja pins s σ H _ u v' u' Q I rv ru ⟨p,0,vs,rfl,qb,q1,hn,.inr (.inl ⟨rfl,λr hr=>?_⟩)⟩;have s2:Stp μ h H μ h (upd H r (.tup [])):=Stp.fresh hr;refine k μ _ (.ref r) s2 (R0.fresh hr) ?_;simp only [RepD];exact ⟨r,[],rfl,SqT.of zao,.nil⟩
    ·by_cases h1:j=1
     ·subst h1
      refine zja pins s σ H _ u v' u' Q I rv ru ⟨p,1,vs,rfl,qb,q1,hn,.inl ⟨rfl,k μ H _ Stp.refl R0 ?_⟩⟩;simp only [RepD];rw [show (List.replicate (1:Int).toNat xs).flatten=xs from by simp];exact ⟨p,vs,rfl,q1,z1⟩
     ·refine zja pins s σ H _ u v' u' Q I rv ru ⟨p,j,vs,rfl,qb,q1,hn,.inr (.inr ⟨by omega,by omega,by rw [<-l1];exact n4,λr hr=>?_⟩)⟩
      have s2:Stp μ h H μ h (upd H r (.tup (List.replicate j.toNat vs).flatten)):=Stp.fresh hr;refine k μ _ (.ref r) s2 (R0.fresh hr) ?_;simp only [RepD];exact ⟨r,_,rfl,SqT.of zao,RepDs.stp s2 R0 (RepDs.rep z1 _)⟩
  | _=>exact zae e
 | str x=>
  cases b with
  | int j=>
   simp only [RdD,RepD] at qa qb;subst qa qb;obtain ⟨t1,rfl⟩:=rv;obtain ⟨t2,rfl⟩:=ru;change (if decide (j=0)=true then some (D.str []) else if decide (j=1)=true then some (D.str x) else none)=some _ at e
   by_cases h0:j=0
   ·subst h0
    cases e;refine PySem.SB.mul ⟨by decide,λz=>absurd (by decide) z,λz=>absurd (by decide) z⟩ λt' k'=>?_;exact ⟨.str (zaj []),H,I.tok k',⟨t',rfl⟩,k μ H _ Stp.refl R0 (by simp only [RepD])⟩
   ·rw [if_neg (by simpa using h0)] at e
    by_cases h1:j=1
    ·subst h1
     cases e;refine PySem.SB.mul ⟨by decide,λ_ z=>absurd z (by simp),λ_ z=>absurd z (by simp)⟩ λt' k'=>?_;exact ⟨.str (zaj x),H,I.tok k',⟨t',rfl⟩,k μ H _ Stp.refl R0 (by simp only [RepD])⟩
    ·rw [if_neg (by simpa using h1)] at e
     cases e
  | _=>exact zae e
 | _=>cases b<;>exact zae e
theorem zjH (q:RdD K A0 H a v):decide (v=.non)=zap a:=by
 cases a with
 | non=>simp only [RdD,RepD] at q;subst q;rfl
 | bl b=>simp only [RdD,RepD] at q;subst q;rfl
 | int b=>simp only [RdD,RepD] at q;subst q;rfl
 | str b=>simp only [RdD,RepD] at q;subst q;rfl
 | tup b=>simp only [RdD,RepD] at q;obtain ⟨p,vs,rfl,_⟩:=q;rfl
 | lst b=>obtain ⟨p,vs,rfl,_⟩:=q;rfl
theorem zqq:OpD X (compareOp .Is) (cop .isN):=by
 intro pins s σ H v u v' u' Q I rv ru q;obtain ⟨μ,h,a,b,z,R0,qa,qb,e,k⟩:=q
 cases b with
 | non=>
  simp only [RdD,RepD] at qb;replace e:=Option.some.inj e;subst e
  exact zsB pins s σ H v u v' u' Q I rv ru ⟨qb,by rw [zjH qa];exact k μ H _ Stp.refl R0 (by simp only [RepD])⟩
 | bl c=>
  cases a with
  | bl d=>
   simp only [RdD,RepD] at qa qb;replace e:=Option.some.inj e;subst e qa qb;have e1:v'=Value.bool d:=rv;have e2:u'=Value.bool c:=ru;subst e1 e2;exact PyProof.Rows.is_bool ⟨.bl (d==c),H,I,rfl,k μ H _ Stp.refl R0 (by simp only [RepD])⟩
  | _=>exact zae e
 | _=>cases a<;>exact zae e
theorem zkU:OpD X (compareOp .IsNot) (cop .isnotN):=by
 intro pins s σ H v u v' u' Q I rv ru q;obtain ⟨μ,h,a,b,z,R0,qa,qb,e,k⟩:=q
 cases b with
 | non=>
  simp only [RdD,RepD] at qb;replace e:=Option.some.inj e;subst e
  exact zqA pins s σ H v u v' u' Q I rv ru ⟨qb,by rw [zjH qa];exact k μ H _ Stp.refl R0 (by simp only [RepD])⟩
 | bl c=>
  cases a with
  | bl d=>
   simp only [RdD,RepD] at qa qb;replace e:=Option.some.inj e;subst e qa qb;have e1:v'=Value.bool d:=rv;have e2:u'=Value.bool c:=ru;subst e1 e2;exact PyProof.Rows.isnot_bool ⟨.bl (d != c),H,I,rfl,k μ H _ Stp.refl R0 (by simp only [RepD])⟩
  | _=>exact zae e
 | _=>cases a<;>exact zae e
theorem zkg {α:Type} {xs:List α} {i:Int} {x:α} (e:at' xs i=some x):∃ j,ixN xs.length i=some j/\xs[j]?=some x:=by
 unfold at' at e
 cases q:ixn xs.length i with
 | none=>rw [q] at e;cases e
 | some j=>rw [q] at e;exact ⟨j,q,e⟩
theorem ix':IxR X (λv u H Q=>∃ μ h a b z,Rep X.K μ h H/\RdD X.K (Live μ h) H a v/\RdD X.K (Live μ h) H b u/\idxD a b=some z/\∀ μ' H' w,Stp μ h H μ' h H'->Rep X.K μ' h H'->RepD X.K (Live μ' h) H' z w->Q w H'):=by
 intro value slice pins s σ H v u v' u' Q I rv ru q hs;obtain ⟨μ,h,a,b,z,R0,qa,qb,e,k⟩:=q
 cases a with
 | tup xs=>
  cases b with
  | int i=>
   simp only [RdD,RepD] at qa qb;obtain ⟨p,vs,rfl,q1,z1⟩:=qa;obtain ⟨j,e1,e2⟩:=zkg (show at' xs i=some z from e);obtain ⟨w,e3,qw⟩:=z1.get e2;refine zsm value slice pins s σ H _ u v' u' Q I rv ru ⟨p,vs,i,w,rfl,qb,q1,?_,k μ H w Stp.refl R0 qw⟩ hs;unfold atI;rw [<-z1.length,e1];exact e3
  | _=>exact zae e
 | lst xs=>
  cases b with
  | int i=>
   simp only [RdD,RepD] at qb;obtain ⟨p,vs,rfl,q1,z1⟩:=qa;obtain ⟨j,e1,e2⟩:=zkg (show at' xs i=some z from e);obtain ⟨w,e3,qw⟩:=z1.get e2;refine zl4 value slice pins s σ H _ u v' u' Q I rv ru ⟨p,vs,i,w,rfl,qb,q1,?_,k μ H w Stp.refl R0 qw⟩ hs;unfold atI;rw [<-z1.length,e1];exact e3
  | _=>exact zae e
 | str x=>
  cases b with
  | int i=>
   simp only [RdD,RepD] at qa qb
   (delta idxD at e;(try dsimp only at e))
   split at e
   ·rename_i hf
    cases ec:at' x i with
    | none=>rw [ec] at e;cases e
    | some c=>
     rw [ec] at e;cases e;obtain ⟨j,e1,e2⟩:=zkg ec
     refine zsI value slice pins s σ H _ u v' u' Q I rv ru ⟨zaj x,i,c,qa,qb,by rw [zay];exact of_decide_eq_true hf,?_,k μ H _ Stp.refl R0 (by simp only [RepD];rfl)⟩ hs
     show atI x i=some c;unfold atI;rw [e1];exact e2
   ·cases e
  | _=>exact zae e
 | _=>exact zae e
theorem zti (ha:IE X a f) (hb:IE X b g) (hs:zg8 b):IE X (.Subscript a b pos) (λσ=>bnd (f σ) λx=>bnd (g σ) λy=>mD idxD x y):=by
 refine PE.imp (ztF ix' ha hb hs) λσ H Q q=>?_;obtain ⟨μ,h,env,R0,re,r,h',e,k⟩:=q;simp only [mD,zab,zac,zaN] at e;obtain ⟨x,h1,e1,y,h2,e2,dx,h3,e3,dy,h4,e4,z,h5,⟨e5,rfl⟩,rfl,rfl⟩:=e;refine ⟨μ,h,env,R0,re,x,h1,e1,λμ1 H1 v s1 R1 q1=>⟨μ1,h1,env,R1,re.stp s1 R0,y,h2,e2,λμ2 H2 u s2 R2 q2=>?_⟩⟩;obtain ⟨rfl,zx⟩:=zbE R2 (q1.stp s2 R1) e3;obtain ⟨rfl,zy⟩:=zbE R2 q2 e4;exact ⟨μ2,_,dx,dy,z,R2,zx,zy,e5,λμ3 H3 w s3 R3 q3=>k μ3 H3 w ((s1.trans s2).trans s3) R3 q3⟩
end
end IT
namespace HT
open PySem PyProof.Rows
section
variable {prog:Program} {w:World} {A:Around} {E:Value->Shared->Prop} {s:Shared}
theorem getItem_tuple_whole {lo hi:Option Int} (ht:IsTup s.heap t items) (hs:s.heap.IsSliceOf sl vl vu .none) (pl:IsPart vl lo) (pu:IsPart vu hi)
  (hw:sIx items.size 0 lo=0/\sIx items.size items.size hi=items.size) (h:Q (.ref t) s):wpAny (model prog w) A (getItem (.ref t) (.ref sl)) Q E s:=by
 obtain ⟨os,hos,hcs,hds⟩:=id hs;have hTs:s.TypeIs (.ref sl) "slice":=⟨os,hos,hcs⟩;unfold getItem
 try with_reducible refine wpAny_holding ?_
 first | refine wpAny_bind (wpAny_pure ?_) | skip
 refine wpAny_bind (wpAny_sequenceKey ht.typeIs (by decide) ?_)
 refine wpAny_bind (wpAny_callSpecial?_slot (name:=Str.ofString "__getitem__") ht.typeIs PyProof.Rows.slot_tuple_getitem
  (wpAny_call_entry PyProof.Rows.slot_tuple_getitem ht.typeIs entry_tuple_getitem ?_ (args_tuple_getitem _ _)))
 show wpAny _ _ (Builtin.Tuple.tupleItemsOf (.ref t) >>= _) _ _ s;refine wpAny_bind (tupleItemsOf_ ht ?_);refine wpAny_bind (wpAny_typeOf hTs ?_);rw [if_pos (by decide)];refine wpAny_bind (zch hs pl pu ?_)
 have hyes:(((sIx items.size 0 lo:Nat):Int)==0&&(1:Int)==1&&(sIx items.size items.size hi-sIx items.size 0 lo)==items.size)=true:=by
  rw [hw.1,hw.2];simp
 show wpAny _ _ (if (((sIx items.size 0 lo:Nat):Int)==0&&(1:Int)==1&&(sIx items.size items.size hi-sIx items.size 0 lo)==items.size)=true then _ else _) _ _ s;rw [if_pos hyes];unfold Builtin.Tuple.tupleIsExact;refine wpAny_bind (wpAny_bind (wpAny_typeOf ht.typeIs (wpAny_pure ?_)));rw [if_pos (by decide)]
 first
  | exact wpAny_bind (wpAny_rule (wpAny_pure ⟨_,rfl,wpAny_pure h⟩))
  | exact wpAny_bind (wpAny_rule (wpAny_bind (wpAny_pure (wpAny_pure ⟨_,rfl,wpAny_pure h⟩))))
  | exact wpAny_bind (wpAny_rule (wpAny_bind (wpAny_pure ⟨_,rfl,wpAny_pure h⟩)))
end
end HT
namespace IT
open PySem PySem.Spec L2
section
variable {X:Cx}
theorem zqY:SlR X (λx lo hi H Q=>∃ a xs,x=.ref a/\SqT X.K H a xs/\(HT.sIx xs.length 0 lo=0/\HT.sIx xs.length xs.length hi=xs.length)/\Q (.ref a) H):=by
 intro pins s σ H x v vl vu lo hi sl Q I rx hs pl pu h;obtain ⟨a,xs,rfl,hx,hw,q⟩:=h;cases rx;obtain ⟨its,r,ht,hz⟩:=I.tuple hx
 have hlen:its.toArray.size=xs.length:=by rw [List.size_toArray];exact r.length.symm
 refine ⟨"tuple",_,PyProof.Rows.slot_tuple_getitem.lookup,ht.typeIs,?_⟩
 exact HT.getItem_tuple_whole ht hs pl pu (by rw [hlen];exact hw) ⟨.ref a,H,I,rfl,q⟩
theorem zj0 (n d:Nat) (o:Option Int):sIx n d o=HT.sIx n d o:=by cases o<;>rfl
theorem RepDs.cut (q:RepDs K A H xs vs) (lo hi:Option Int):RepDs K A H (IT.cut xs lo hi) (cutV vs lo hi):=by
 unfold IT.cut cutV;rw [zj0,zj0,q.length];exact (q.drop _).take _
theorem sl':SlR X (λv lo hi H Q=>∃ μ h a z,Rep X.K μ h H/\RdD X.K (Live μ h) H a v/\cutD a lo hi=some z/\∀ μ' H' w,Stp μ h H μ' h H'->Rep X.K μ' h H'->RepD X.K (Live μ' h) H' z w->Q w H'):=by
 intro pins s σ H x v vl vu lo hi sl Q I rx hs pl pu q;obtain ⟨μ,h,a,z,R0,qa,e,k⟩:=q
 cases a with
 | tup xs=>
  simp only [RdD,RepD] at qa;obtain ⟨p,vs,rfl,q1,z1⟩:=qa;cases e
  by_cases hw:HT.sIx vs.length 0 lo=0/\HT.sIx vs.length vs.length hi=vs.length
  ·refine zqY pins s σ H _ v vl vu lo hi sl Q I rx hs pl pu ⟨p,vs,rfl,q1,hw,k μ H _ Stp.refl R0 ?_⟩
   simp only [RepD];refine ⟨p,vs,rfl,q1,?_⟩
   have e2:cut xs lo hi=xs:=by
    unfold cut;rw [zj0,zj0,z1.length,hw.1,hw.2,List.drop_zero,Nat.sub_zero,<-z1.length,List.take_length]
   rw [e2];exact z1
  ·refine zsH pins s σ H _ v vl vu lo hi sl Q I rx hs pl pu ⟨p,vs,rfl,q1,hw,λr hr=>?_⟩
   have s2:Stp μ h H μ h (upd H r (.tup (cutV vs lo hi))):=Stp.fresh hr;refine k μ _ (.ref r) s2 (R0.fresh hr) ?_;simp only [RepD];exact ⟨r,cutV vs lo hi,rfl,SqT.of zao,RepDs.stp s2 R0 (z1.cut lo hi)⟩
 | lst xs=>
  obtain ⟨p,vs,rfl,q1,z1⟩:=qa;cases e;refine zsb pins s σ H _ v vl vu lo hi sl Q I rx hs pl pu ⟨p,vs,rfl,q1,λr hr=>?_⟩;have s2:Stp μ h H μ h (upd H r (.lst (cutV vs lo hi))):=Stp.fresh hr;refine k μ _ (.ref r) s2 (R0.fresh hr) ?_;simp only [RepD];refine ⟨r,cutV vs lo hi,rfl,.inl ⟨λl=>?_,.inl zao⟩,RepDs.stp s2 R0 (z1.cut lo hi)⟩;obtain ⟨ws,w,_⟩:=R0.liveAt l
  rw [hr] at w;cases w
 | str xs=>
  (delta cutD at e;(try dsimp only at e))
  split at e
  ·rename_i hf
   cases e;simp only [RdD,RepD] at qa;subst qa;obtain ⟨t,rfl⟩:=(show ∃ t',v=Value.str (zaj xs) t' from rx)
   have hz:(zaj xs).length<=sizeLine:=by rw [zay];exact of_decide_eq_true hf
   have fin:∀ t' k',EP X pins σ Q (.str (Txt.slice (zaj xs) lo hi) t') { s with toks:=k' }:=λt' k'=>⟨.str (Txt.slice (zaj xs) lo hi),H,I.tok _,⟨_,rfl⟩,k μ H _ Stp.refl R0 (by rw [znt];simp only [RepD])⟩
   obtain ⟨os,hos,hcs,hds⟩:=id hs
   have part:∀ {v:Value} {o:Option Int},IsPart v o->∃ p:Option (Int×Tok),v=partValue p/\p.map (·.1)=o:=by
    intro v o p
    cases p with
    | none=>exact ⟨none,rfl,rfl⟩
    | int i t=>exact ⟨some (i,t),rfl,rfl⟩
   obtain ⟨p1,rfl,e1⟩:=part pl;obtain ⟨p2,rfl,e2⟩:=part pu;refine ⟨"str",_,PySem.F.slot_str_getitem.lookup,typeIs_str _ _ _,wpAny_getItem_str_slice (l:=p1) (u:=p2) (st:=none) ⟨os,hos,hcs,hds⟩ rfl ?_⟩;unfold sliceMade slicePicked;rw [e1,e2];exact post_val_or_str ⟨Nat.le_trans (Txt.slice_le _ lo hi) hz,fin⟩
  ·cases e
 | _=>cases e
inductive tO (K:PySem.W.Frag) (f:IT.Env->M R) (σ:St) (H:Hp) (Q:Option Int->Hp->Prop):Prop where
 | mk (μ:List Addr) (h:Sto) (env:IT.Env) (R0:Rep K μ h H) (re:RepE K μ h H env σ) (d:D) (h':Sto) (o:Option Int) (e:f env h=some (.d d,h')) (ep:part d=some o) (k:∀ μ' H',Stp μ h H μ' h' H'->Rep K μ' h' H'->Q o H')
theorem PO.imp (h:PO X oe t) (i:∀ σ H Q,t' σ H Q->t σ H Q):PO X oe t':=λpins s σ H Q I q=>h pins s σ H Q I (i σ H Q q)
theorem zq2:PO X none (tO X.K λ_=>ok (.d .non)):=by
 refine PO.imp zqw λσ H Q q0=>?_;obtain ⟨μ,h,env,R0,re,d,h',o,e,ep,k⟩:=q0;simp only [zac,R.d.injEq] at e;obtain ⟨rfl,rfl⟩:=e;simp only [part,Option.some.injEq] at ep;subst ep;exact k μ H Stp.refl R0
theorem zmS (h:IE X e f):PO X (some e) (tO X.K f):=by
 intro pins s σ H Q I ⟨μ,h0,env,R0,re,d,h',o,ef,ep,k⟩;rw [evalPart_some];refine thn (h pins s σ H (λx H1=>(∃ i,x=.int i/\Q (some i) H1)\/(x=.non/\Q none H1)) I ⟨μ,h0,env,R0,re,.d d,h',ef,λμ1 H1 v s1 R1 q1=>?_⟩) λu s1 ⟨x,H1,I1,r1,q1⟩=>?_
 ·cases d with
  | int i=>
   simp only [RepR,RepD] at q1;simp only [part,Option.some.injEq] at ep;subst ep;exact .inl ⟨i,q1,k μ1 H1 s1 R1⟩
  | non=>
   simp only [RepR,RepD] at q1;simp only [part,Option.some.injEq] at ep;subst ep;exact .inr ⟨q1,k μ1 H1 s1 R1⟩
  | _=>simp [part] at ep
 ·rcases q1 with ⟨i,rfl,q⟩ | ⟨rfl,q⟩
  ·obtain ⟨t,rfl⟩:=r1
   exact ⟨some i,H1,I1,.int i t,q⟩
  ·cases r1
   exact ⟨none,H1,I1,.none,q⟩
theorem ztJ (ha:IE X a f) (hl:PO X lo (tO X.K g)) (hu:PO X hi (tO X.K k)):IE X (.Subscript a (.Slice lo hi none p2) pos)
  (λσ=>bnd (f σ) λx=>bnd (g σ) λl=>bnd (k σ) λu=>bnd (rd x) λx=>bnd (rd l) λl=>bnd (rd u) λu=>bnd (opt (sliD x l u)) λz=>ok (.d z)):=by
 refine PE.imp (zoH sl' ha hl hu) λσ H Q q0=>?_;obtain ⟨μ,h,env,R0,re,r,h',e,kk⟩:=q0;simp only [zab,zac,zaN] at e;obtain ⟨x,h1,e1,l,h2,e2,u,h3,e3,dx,h4,e4,dl,h5,e5,du,h6,e6,z,h7,⟨e7,rfl⟩,rfl,rfl⟩:=e
 (delta sliD at e7;(try dsimp only at e7))
 have isd:∀ (r:R) (d:D) (h h':Sto),rd r h=some (d,h')->∀ o,part d=some o->r=.d d/\h'=h:=by
  intro r d h h' e o ep
  cases r with
  | d x=>simp only [rd,zac] at e;exact ⟨by rw [e.1],e.2.symm⟩
  | loc l=>
   obtain ⟨o,_,_,rfl,_⟩:=zfe e;simp [part] at ep
 cases pl:part dl with
 | none=>rw [pl] at e7;cases e7
 | some lo'=>
  cases pu:part du with
  | none=>rw [pl,pu] at e7;cases e7
  | some hi'=>
   rw [pl,pu] at e7;replace e7:cutD dx lo' hi'=some z:=e7;obtain ⟨rfl,hh5⟩:=isd l dl h4 h5 e5 lo' pl;subst hh5;obtain ⟨rfl,hh6⟩:=isd u du _ h6 e6 hi' pu;subst hh6;refine ⟨μ,h,env,R0,re,x,h1,e1,λμ1 H1 v s1 R1 q1=>⟨μ1,h1,env,R1,re.stp s1 R0,dl,h2,lo',e2,pl,λμ2 H2 s2 R2=>⟨μ2,h2,env,R2,re.stp (s1.trans s2) R0,du,h3,hi',e3,pu,λμ3 H3 s3 R3=>?_⟩⟩⟩;obtain ⟨rfl,zx⟩:=zbE R3 ((q1.stp s2 R1).stp s3 R2) e4;exact ⟨μ3,_,dx,z,R3,zx,e7,λμ4 H4 w s4 R4 q4=>kk μ4 H4 w (((s1.trans s2).trans s3).trans s4) R4 q4⟩
inductive zp2 (K:PySem.W.Frag) (g:List D->Option D) (vs:List V) (H:Hp) (Q:VK):Prop where
 | mk (μ:List Addr) (h:Sto) (ds:List D) (z:D) (R0:Rep K μ h H) (pr:Paired (RdD K (Live μ h) H) ds vs) (e:g ds=some z) (k:∀ μ' H' w,Stp μ h H μ' h H'->Rep K μ' h H'->RepD K (Live μ' h) H' z w->Q w H')
noncomputable def zrP (X:Cx) (f:Value) (g:List D->Option D):Prop:=zdX X f λvs H Q=>zp2 X.K g vs H Q
theorem zjf
  (q:tE X.K (λσ=>bnd (fs σ) λrs=>bnd (rds rs) λds=>bnd (opt (biD t ds)) λz=>ok (.d z)) σ H Q) :
  tAs X.K fs σ H λvs H1=>zp2 X.K (biD t) vs H1 Q:=by
 obtain ⟨μ,h,env,R0,re,r,h',e,k⟩:=q;simp only [zab,zac,zaN] at e;obtain ⟨rs,h1,e1,ds,h2,e2,z,h3,⟨e3,rfl⟩,rfl,rfl⟩:=e;refine ⟨μ,h,env,R0,re,rs,h1,e1,λμ1 H1 vs s1 R1 q1=>?_⟩;obtain ⟨rfl,zs⟩:=zqa R1 q1 e2;exact ⟨μ1,_,ds,z,R1,zs,e3,λμ2 H2 w s2 R2 q2=>k μ2 H2 w (s1.trans s2) R2 q2⟩
theorem zl5:zrP X (.builtin "len") (biD .len):=by
 intro pins s σ H vs us Q I r q;obtain ⟨μ,h,ds,z,R0,pr,e,k⟩:=q
 cases pr with
 | nil=>exact zae e
 | @cons d v ds vs qd pr=>
  cases pr with
  | cons _ _=>cases d<;>exact zae e
  | nil=>
   cases d with
   | tup xs=>
    simp only [RdD,RepD] at qd;obtain ⟨p,ws,rfl,q1,z1⟩:=qd;replace e:=Option.some.inj e;subst e
    exact zeJ pins s σ H _ us Q I r ⟨.ref p,ws.length,rfl,.inr ⟨ws,q1,rfl⟩,k μ H _ Stp.refl R0 (by simp only [RepD];rw [z1.length])⟩
   | lst xs=>
    obtain ⟨p,ws,rfl,q1,z1⟩:=qd;replace e:=Option.some.inj e;subst e
    exact zeJ pins s σ H _ us Q I r ⟨.ref p,ws.length,rfl,.inl ⟨ws,q1,rfl⟩,k μ H _ Stp.refl R0 (by simp only [RepD];rw [z1.length])⟩
   | str x=>
    simp only [RdD,RepD] at qd;subst qd
    (delta biD at e;(try dsimp only at e))
    split at e
    ·rename_i hf
     cases e
     exact zeJ pins s σ H _ us Q I r ⟨.str (zaj x),x.length,rfl,⟨by rw [zay];exact of_decide_eq_true hf,by rw [zay]⟩,k μ H _ Stp.refl R0 (by simp only [RepD])⟩
    ·cases e
   | _=>exact zae e
theorem zjg:zrP X (.type "tuple") (biD .tuple):=by
 intro pins s σ H vs us Q I r q;obtain ⟨μ,h,ds,z,R0,pr,e,k⟩:=q
 cases pr with
 | nil=>exact zae e
 | @cons d v ds vs qd pr=>
  cases pr with
  | cons _ _=>cases d<;>exact zae e
  | nil=>
   cases d with
   | tup xs=>
    simp only [RdD,RepD] at qd;obtain ⟨p,ws,rfl,q1,z1⟩:=qd;replace e:=Option.some.inj e;subst e
    exact zdO pins s σ H _ us Q I r ⟨p,ws,rfl,.inr ⟨q1,k μ H _ Stp.refl R0 (by simp only [RepD];exact ⟨p,ws,rfl,q1,z1⟩)⟩⟩
   | lst xs=>
    obtain ⟨p,ws,rfl,q1,z1⟩:=qd;replace e:=Option.some.inj e;subst e;refine zdO pins s σ H _ us Q I r ⟨p,ws,rfl,.inl ⟨q1,λl hl=>?_⟩⟩;have s2:Stp μ h H μ h (upd H l (.tup ws)):=Stp.fresh hl;refine k μ _ (.ref l) s2 (R0.fresh hl) ?_;simp only [RepD];exact ⟨l,ws,rfl,SqT.of zao,RepDs.stp s2 R0 z1⟩
   | _=>exact zae e
theorem zlI:zrP X (.type "int") (biD .int):=by
 intro pins s σ H vs us Q I r q;obtain ⟨μ,h,ds,z,R0,pr,e,k⟩:=q
 cases pr with
 | nil=>exact zae e
 | @cons d v ds vs qd pr=>
  cases pr with
  | cons _ _=>cases d<;>exact zae e
  | nil=>
   cases d with
   | bl b=>
    simp only [RdD,RepD] at qd;subst qd;replace e:=Option.some.inj e;subst e;exact zh5 pins s σ H _ us Q I r (.inr ⟨b,rfl,k μ H _ Stp.refl R0 (by simp only [RepD])⟩)
   | int i=>
    simp only [RdD,RepD] at qd;subst qd;replace e:=Option.some.inj e;subst e;exact zh5 pins s σ H _ us Q I r (.inl ⟨i,rfl,k μ H _ Stp.refl R0 (by simp only [RepD])⟩)
   | _=>exact zae e
end
section
variable {X:Cx}
theorem Rep.placeL (R0:Rep K μ h H) {l:Nat} {o:Ob} (e:μ[l]?=some a) (ho:h[l]?=some o) (il:o.isL=true):∃ vs,H a=some (.lst vs)/\RepDs K (Live μ h) H o.items vs:=
 (R0.obj l a o e ho).isL il
theorem Rep.placeO (R0:Rep K μ h H) {l:Nat} (e:μ[l]?=some a):∃ o,h[l]?=some o:=by
 have hl:l<h.length:=by rw [<-R0.len];exact (List.getElem?_eq_some_iff.mp e).1
 exact ⟨h[l],List.getElem?_eq_getElem hl⟩
theorem zlq {f:IT.Env->M R} (ho:IE X o f) (ha:IA X (e::es) fs) (hname:name=("append":Str))
  (hbase:attributeBase o name X.env (eval o X.env)=eval o X.env)
  (hfew:((backTo cpos (starEach (e::es) X.env)).all (λx=>!x.1)&&(backToKw cpos (keywordEach [] X.env)).all (λx=>x.1.isSome)
   && decide ((e::es).length+([]:List Keyword).length+(if ([]:List Keyword).isEmpty then 0 else 1)<30))=true)
  (hline:(apos.endLine==cpos.line)=true) (hs:starEach (e::es) X.env=(false,eval e X.env)::starEach es X.env) (hplain:(backTo cpos (starEach es X.env)).any (·.1)=false) :
  IE X (.Call (.Attribute o name apos) (e::es) [] cpos) (λσ=>bnd (f σ) λx=>bnd (zeE x) λ_=>bnd (fs σ) λrs=>meth .append x rs):=by
 subst hname;refine PE.imp (znK PySem.F.plainAttrs_list PySem.F.slot_list_append PySem.F.type_list_append zmT ho ha hbase hfew hline hs hplain) λσ H Q q0=>?_;obtain ⟨μ,h,env,R0,re,r,h',e,k⟩:=q0;simp only [zab] at e;obtain ⟨x,h1,e1,_,h1',e0,rs,h2,e2,e3⟩:=e;obtain ⟨l,o1,rfl,ho1,il1,rfl⟩:=zee e0;refine ⟨μ,h,env,R0,re,.loc l,_,e1,λμ1 H1 v s1 R1 q1=>?_⟩
 ·skip
  obtain ⟨a,ea,rfl⟩:=q1;obtain ⟨vs1,hH1,z1⟩:=R1.placeL ea ho1 il1;refine ⟨.inl ⟨rfl,vs1,.inl (.inl hH1)⟩,μ1,_,env,R1,re.stp s1 R0,rs,h2,e2,λμ2 H2 ws s2 R2 q2=>?_⟩
  cases q2 with
  | nil=>exact zae e3
  | @cons rr w rs' ws' qr q2=>
   cases q2 with
   | cons _ _=>exact zae e3
   | nil=>
    (delta meth at e3;(try dsimp only at e3);simp only [zab] at e3)
    obtain ⟨d,h3,e4,e5⟩:=e3;obtain ⟨s3,R3,zd⟩:=zn9 R2 qr e4;have ea2:=s2.pre l a ea
    split at e5
    ·rename_i xs hx
     split at e5
     ·rename_i hlen
      simp only [Option.some.injEq,Prod.mk.injEq] at e5;obtain ⟨rfl,rfl⟩:=e5;obtain ⟨vs3,hH3,z3⟩:=R3.placeL ea2 hx rfl
      have hlen':vs3.length<sizeLine:=by
       have:=z3.length
       have h4:xs.length<big:=of_decide_eq_true hlen;have h5:big=sizeLine:=rfl;simp only [Ob.items] at this;omega
      refine ⟨a,vs3,w,rfl,rfl,hH3,hlen',?_⟩;obtain ⟨s4,R4⟩:=write R3 ea2 hx (z3.app (RepDs.one zd));exact k μ2 _ .non (((s1.trans s2).trans s3).trans s4) R4 (by simp only [RepR,RepD])
     ·cases e5
    ·cases e5
noncomputable def spF (K:PySem.W.Frag) (np:Nat) (m:List R->M R):Sp:=λvs H Q _=>vs.length=np/\∃ μ h rs,Rep K μ h H/\zaU K μ h H rs vs/\Post K μ h H (RepR K) (m rs h) Q
structure zlf (X:Cx) (n:Nat) (x:Str) (np:Nat) (dfl:List D) (m:List R->M R):Prop where
 ex:∃ f fd ps dvs,FnOk X.prog X.w X.K X.mg X.base CX0 n f fd ps (spF X.K np m)/\X.mg x=some (.ref f)/\PySem.W.keepIn X.K (.ref f)=true/\(∀ A H,RepDs X.K A H dfl dvs)/\(∀ j,j<=dfl.length->∃ ds,zcp X.K fd ps ds/\Vals (dvs.drop j) ds)
 fill:∀ rs,m rs=m (zau np dfl rs)
 len:∀ rs h p,m rs h=some p->(zau np dfl rs).length=np
theorem zbk (h:rs.length+dfl.length<np):zau np dfl rs=rs:=by unfold zau;rw [if_pos h]
theorem zaS (h:¬ rs.length+dfl.length<np):zau np dfl rs=rs++(dfl.drop (rs.length+dfl.length-np)).map R.d:=by unfold zau;rw [if_neg h]
theorem zaU.app (a:zaU K μ h H rs vs) (b:zaU K μ h H ss ws):zaU K μ h H (rs++ss) (vs++ws):=by
 induction a with
 | nil=>exact b
 | cons q _ ih=>exact .cons q ih
theorem RepDs.rs:∀ {ds:List D} {vs:List V},RepDs K (Live μ h) H ds vs->zaU K μ h H (ds.map R.d) vs
 | [],vs,q=>by simp only [RepDs] at q;subst q;exact .nil
 | x::xs,vs,q=>by
  simp only [RepDs] at q;obtain ⟨v,r,rfl,h1,h2⟩:=q;exact .cons h1 h2.rs
theorem znH {p pos:Pos} {fs:IT.Env->M (List R)} (hF:zlf X n x np dfl m) (hr:Room n X.A) (hg:Gl X x) (ha:IA X (e::es) fs) (hf:∀ σ h rs h',fs σ h=some (rs,h')->rs.length=(e::es).length)
  (hdb:(x==("__debug__":Str))=false) (he:starEach (e::es) X.env=(false,eval e X.env)::starEach es X.env) (hpl:(backTo pos (starEach es X.env)).any (·.1)=false) :
  IE X (.Call (.Name x p) (e::es) [] pos) (λσ=>bnd (fs σ) λrs=>m rs):=by
 obtain ⟨f,fd,ps,dvs,F,hm,hk,hd,hb⟩:=hF.ex
 by_cases hj:(e::es).length+dfl.length-np<=dfl.length/\¬ (e::es).length+dfl.length<np
 ·obtain ⟨hj,hj2⟩:=hj
  obtain ⟨ds,hb,hv⟩:=hb _ hj;refine PE.imp (zi5 F hr hg hm hk hb hv zix ha hdb he hpl) λσ H Q q0=>?_;obtain ⟨μ,h,env,R0,re,r,h',ee,k⟩:=q0;simp only [zab] at ee;obtain ⟨rs,h1,e1,e2⟩:=ee;refine ⟨μ,h,env,R0,re,rs,h1,e1,λμ1 H1 vs s1 R1 q1=>?_⟩;have hlen:=hF.len _ _ _ e2;rw [hF.fill rs] at e2
  have qq:zaU X.K μ1 h1 H1 (zau np dfl rs) (vs++dvs.drop ((e::es).length+dfl.length-np)):=by
   rw [zaS (by rw [hf _ _ _ _ e1];exact hj2),hf _ _ _ _ e1]
   exact q1.app (RepDs.drop _ (hd _ _)).rs
  exact ⟨by rw [<-qq.length];exact hlen,μ1,h1,zau np dfl rs,R1,qq,r,h',e2,λμ2 H2 v s2 R2 q2=>k μ2 H2 v (s1.trans s2) R2 q2⟩
 ·obtain ⟨ds,hb,hv⟩:=hb dfl.length (Nat.le_refl _)
  refine PE.imp (zi5 F hr hg hm hk hb hv zix ha hdb he hpl) λσ H Q q0=>?_;obtain ⟨μ,h,env,R0,re,r,h',ee,k⟩:=q0;simp only [zab] at ee;obtain ⟨rs,h1,e1,e2⟩:=ee;refine ⟨μ,h,env,R0,re,rs,h1,e1,λμ1 H1 vs s1 R1 q1=>?_⟩
  exfalso
  have hlen:=hF.len _ _ _ e2;have hrs:=hf _ _ _ _ e1
  by_cases hs:rs.length+dfl.length<np
  ·rw [zbk hs] at hlen
   omega
  ·rw [zaS hs] at hlen
   simp only [List.length_append,List.length_map,List.length_drop] at hlen;omega
theorem zo3 (hF:zlf X n x np dfl m) (hr:Room n X.A) (hg:Gl X x) (hdb:(x==("__debug__":Str))=false):IE X (.Call (.Name x p) [] [] pos) (λ_=>m []):=by
 obtain ⟨f,fd,ps,dvs,F,hm,hk,hd,hb⟩:=hF.ex
 by_cases hj:dfl.length-np<=dfl.length/\¬ dfl.length<np
 ·obtain ⟨hj,hj2⟩:=hj
  obtain ⟨ds,hb,hv⟩:=hb _ hj;refine PE.imp (zjS F hr hg hm hk hb hv zix hdb) λσ H Q q0=>?_;obtain ⟨μ,h,env,R0,re,r,h',e2,k⟩:=q0;have hlen:=hF.len _ _ _ e2;rw [hF.fill []] at e2
  have qq:zaU X.K μ h H (zau np dfl []) ([]++dvs.drop (dfl.length-np)):=by
   rw [zaS (by simpa using hj2)];simp only [List.nil_append,List.length_nil,Nat.zero_add];exact (RepDs.drop _ (hd _ _)).rs
  exact ⟨by rw [<-qq.length];exact hlen,μ,h,zau np dfl [],R0,qq,r,h',e2,k⟩
 ·obtain ⟨ds,hb,hv⟩:=hb dfl.length (Nat.le_refl _)
  refine PE.imp (zjS F hr hg hm hk hb hv zix hdb) λσ H Q q0=>?_;obtain ⟨μ,h,env,R0,re,r,h',e2,k⟩:=q0
  exfalso
  have hlen:=hF.len _ _ _ e2
  by_cases hs:([]:List R).length+dfl.length<np
  ·rw [zbk hs] at hlen
   simp at hlen hs;omega
  ·simp at hs
   omega
inductive tG (K:PySem.W.Frag) (t:Tg) (v:V) (σ:St) (H:Hp) (Q:St->Hp->Prop):Prop where
 | mk (μ:List Addr) (h:Sto) (env:IT.Env) (r:R) (env':IT.Env) (R0:Rep K μ h H) (re:RepE K μ h H env σ) (qr:RepR K μ h H r v) (e:zaT t r env h=some (env',h)) (k:∀ σ',RepE K μ h H env' σ'->Q σ' H)
inductive tGs (K:PySem.W.Frag) (ts:List Tg) (vs:List V) (σ:St) (H:Hp) (Q:St->Hp->Prop):Prop where
 | mk (μ:List Addr) (h:Sto) (env:IT.Env) (xs:List D) (env':IT.Env) (R0:Rep K μ h H) (re:RepE K μ h H env σ) (qr:RepDs K (Live μ h) H xs vs) (e:bindTs ts xs env h=some (env',h)) (k:∀ σ',RepE K μ h H env' σ'->Q σ' H)
theorem PG.imp (h:PG X tg t) (i:∀ v σ H Q,t' v σ H Q->t v σ H Q):PG X tg t':=λpins s σ H v u Q I r q=>h pins s σ H v u Q I r (i v σ H Q q)
theorem PGs.imp (h:PGs X tg t) (i:∀ v σ H Q,t' v σ H Q->t v σ H Q):PGs X tg t':=λpins s σ H v u Q I r q=>h pins s σ H v u Q I r (i v σ H Q q)
theorem zrk (hN:X.N.Nodup) (hi:X.N[i]?=some x) (hx:Loc X.env.scope x) (hf:X.fn x=true\/X.env.scope.names.lookup x=some .local):PG X (.Name x pos) (tG X.K (.name i)):=by
 refine PG.imp (zmR hN hi hx hf) λv σ H Q q_=>?_;obtain ⟨μ,h,env,r,env',R0,re,qr,e,k⟩:=q_;simp only [zaT,zac] at e;obtain ⟨rfl,_⟩:=e;exact k _ (re.set i qr)
theorem zsf:PGs X [] (tGs X.K []):=by
 refine PGs.imp zmG λvs σ H Q q_=>?_;obtain ⟨μ,h,env,xs,env',R0,re,qx,e,k⟩:=q_
 cases xs with
 | nil=>
  simp only [RepDs] at qx;simp only [bindTs,zac] at e;obtain ⟨rfl,_⟩:=e;exact ⟨qx,k σ re⟩
 | cons _ _=>exact zae e
theorem zbC:∀ (t:Tg) (r:R) (env env':IT.Env) (h h':Sto),zaT t r env h=some (env',h')->h'=h:=by
 intro t
 refine Tg.rec (motive_1:=λt=>∀ (r:R) (env env':IT.Env) (h h':Sto),zaT t r env h=some (env',h')->h'=h)
  (motive_2:=λts=>∀ (xs:List D) (env env':IT.Env) (h h':Sto),bindTs ts xs env h=some (env',h')->h'=h) ?_ ?_ ?_ ?_ t
 ·intro i r env env' h h' e
  simp only [zaT,zac] at e;exact e.2.symm
 ·intro ts ih r env env' h h' e
  simp only [zaT,zab] at e;obtain ⟨d,h1,e1,e2⟩:=e
  have hh:h1=h:=by
   cases r with
   | d x=>simp only [rd,zac] at e1;exact e1.2.symm
   | loc l=>
    exact (zfe e1).choose_spec.2.2.2
  subst hh
  cases d with
  | tup xs=>exact ih xs env env' _ h' e2
  | _=>cases e2
 ·intro xs env env' h h' e
  cases xs with
  | nil=>simp only [bindTs,zac] at e;exact e.2.symm
  | cons _ _=>exact zae e
 ·intro t ts iht ihts xs env env' h h' e
  cases xs with
  | nil=>exact zae e
  | cons x xs=>
   simp only [bindTs,zab] at e;obtain ⟨env1,h1,e1,e2⟩:=e
   have:=iht _ _ _ _ _ e1
   subst this;exact ihts _ _ _ _ _ e2
theorem zd1:∀ (ts:List Tg) (xs:List D) (env env':IT.Env) (h h':Sto),bindTs ts xs env h=some (env',h')->xs.length=ts.length
 | [],[],_,_,_,_,_=>rfl
 | [],_::_,_,_,_,_,e=>by exact zae e
 | _::_,[],_,_,_,_,e=>by exact zae e
 | t::ts,x::xs,env,env',h,h',e=>by
  simp only [bindTs,zab] at e;obtain ⟨env1,h2,e3,e4⟩:=e;simp only [List.length_cons];rw [zd1 ts xs env1 env' h2 h' e4]
theorem znT (h1:PG X e (tG X.K t)) (h2:PGs X es (tGs X.K ts)) (hs:(assignEach (e::es) X.env).map (·.2)=assign e X.env::(assignEach es X.env).map (·.2)):PGs X (e::es) (tGs X.K (t::ts)):=by
 refine PGs.imp (zgU h1 h2 hs) λvs σ H Q q_=>?_;obtain ⟨μ,h,env,xs,env',R0,re,qx,e,k⟩:=q_
 cases xs with
 | nil=>exact zae e
 | cons x xs=>
  simp only [RepDs] at qx;obtain ⟨v,r,rfl,q1,q2⟩:=qx;simp only [bindTs,zab] at e;obtain ⟨env1,h1',e1,e2⟩:=e
  have:=zbC _ _ _ _ _ _ e1
  subst this;refine ⟨v,r,rfl,μ,_,env,.d x,env1,R0,re,q1,e1,λσ1 re1=>⟨μ,_,env1,xs,env',R0,re1,q2,e2,k⟩⟩
theorem zs0 (hc:X.calm=true) (h:PGs X es (tGs X.K ts)) (hl:es.length=ts.length) (hn:(assignEach es X.env).length=es.length) (hst:(assignEach es X.env).findIdx? (·.1)=none):PG X (.Tuple es n pos) (tG X.K (.tup ts)):=by
 refine PG.imp (zpL (n:=es.length) hc h hn hst) λv σ H Q q_=>?_;obtain ⟨μ,h,env,r,env',R0,re,qr,e,k⟩:=q_;simp only [zaT,zab] at e;obtain ⟨d,h1,e1,e2⟩:=e;obtain ⟨rfl,zd⟩:=zbE R0 qr e1
 cases d with
 | tup xs=>
  simp only [RdD,RepD] at zd;obtain ⟨a,vs,rfl,q1,z1⟩:=zd;refine ⟨a,vs,rfl,q1,?_,μ,_,env,xs,env',R0,re,z1,e2,k⟩;rw [<-z1.length,hl];exact zd1 _ _ _ _ _ _ e2
 | _=>cases e2
noncomputable def RepI (K:PySem.W.Frag) (μ:List Addr) (h:Sto) (H:Hp):Ite->V->Prop
 | .r r,v=>RepR K μ h H r v
 | .en i r,v=>∃ p w,v=.ref p/\H p=some (.tup [.int i,w])/\RepR K μ h H r w
inductive tGI (K:PySem.W.Frag) (t:Tg) (v:V) (σ:St) (H:Hp) (Q:St->Hp->Prop):Prop where
 | mk (μ:List Addr) (h:Sto) (env:IT.Env) (x:Ite) (env':IT.Env) (R0:Rep K μ h H) (re:RepE K μ h H env σ) (qx:RepI K μ h H x v) (e:zas t x env h=some (env',h)) (k:∀ σ',RepE K μ h H env' σ'->Q σ' H)
inductive tGe (K:PySem.W.Frag) (a b:Tg) (vs:List V) (σ:St) (H:Hp) (Q:St->Hp->Prop):Prop where
 | mk (μ:List Addr) (h:Sto) (env:IT.Env) (i:Int) (r:R) (w:V) (env1 env':IT.Env) (R0:Rep K μ h H) (re:RepE K μ h H env σ) (ev:vs=[.int i,w]) (qr:RepR K μ h H r w) (e1:zaT a (.d (.int i)) env h=some (env1,h)) (e2:zaT b r env1 h=some (env',h)) (k:∀ σ',RepE K μ h H env' σ'->Q σ' H)
theorem zvD (ha:PG X ea (tG X.K a)) (hb:PG X eb (tG X.K b)) (h1:(assignEach [ea,eb] X.env).map (·.2)=assign ea X.env::(assignEach [eb] X.env).map (·.2)) (h2:(assignEach [eb] X.env).map (·.2)=assign eb X.env::(assignEach [] X.env).map (·.2)):PGs X [ea,eb] (tGe X.K a b):=by
 refine PGs.imp (zgU ha (zgU hb zmG h2) h1) λvs σ H Q q0=>?_;obtain ⟨μ,h,env,i,r,w,env1,env',R0,re,rfl,qr,e1,e2,k⟩:=q0;exact ⟨.int i,[w],rfl,μ,h,env,.d (.int i),env1,R0,re,by simp only [RepR,RepD],e1,λσ1 re1=>⟨w,[],rfl,μ,h,env1,r,env',R0,re1,qr,e2,λσ2 re2=>⟨rfl,k σ2 re2⟩⟩⟩
theorem zdV (e:zas t x env h=some (env',h')):h'=h:=by
 cases x with
 | r r=>rw [zas] at e;exact zbC _ _ _ _ _ _ e
 | en i r=>
  match t,e with
  | .tup [a,b],e=>
   rw [zas,zab] at e;obtain ⟨env1,h1,e1,e2⟩:=e
   have:=zbC _ _ _ _ _ _ e1
   subst this;exact zbC _ _ _ _ _ _ e2
  | .name _,e=>exact zae e
  | .tup [],e=>exact zae e
  | .tup [_],e=>exact zae e
  | .tup (_::_::_::_),e=>exact zae e
theorem zod (hg:PG X e (tG X.K (.name i))):PG X e (tGI X.K (.name i)):=by
 refine PG.imp hg λv σ H Q q0=>?_;obtain ⟨μ,h,env,x,env',R0,re,qx,eb,k⟩:=q0
 cases x with
 | r r=>exact ⟨μ,h,env,r,env',R0,re,qx,by rw [zas] at eb;exact eb,k⟩
 | en i r=>exact zae eb
theorem zr9 (hn:ts.length≠2) (hg:PG X e (tG X.K (.tup ts))):PG X e (tGI X.K (.tup ts)):=by
 refine PG.imp hg λv σ H Q q0=>?_;obtain ⟨μ,h,env,x,env',R0,re,qx,eb,k⟩:=q0
 cases x with
 | r r=>exact ⟨μ,h,env,r,env',R0,re,qx,by rw [zas] at eb;exact eb,k⟩
 | en i r=>
  match ts,hn,eb with
  | [],_,eb=>exact zae eb
  | [_],_,eb=>exact zae eb
  | [_,_],hn,_=>exact absurd rfl hn
  | _::_::_::_,_,eb=>exact zae eb
theorem zqB (hc:X.calm=true) (hs:PGs X [ea,eb] (tGs X.K [a,b])) (he:PGs X [ea,eb] (tGe X.K a b)) (hn:(assignEach [ea,eb] X.env).length=2) (hst:(assignEach [ea,eb] X.env).findIdx? (·.1)=none):PG X (.Tuple [ea,eb] n pos) (tGI X.K (.tup [a,b])):=by
 have both:PGs X [ea,eb] (λvs σ H Q=>tGs X.K [a,b] vs σ H Q\/tGe X.K a b vs σ H Q):=λpins s σ H v u Q I r q=>by
  rcases q with q | q
  ·exact hs pins s σ H v u Q I r q
  ·exact he pins s σ H v u Q I r q
 refine PG.imp (zpL (n:=2) hc both hn hst) λv σ H Q q0=>?_;obtain ⟨μ,h,env,x,env',R0,re,qx,eb,k⟩:=q0
 cases x with
 | r r=>
  rw [zas] at eb;simp only [zaT,zab] at eb;obtain ⟨d,h1,e1,e2⟩:=eb;obtain ⟨rfl,zd⟩:=zbE R0 qx e1
  cases d with
  | tup xs=>
   simp only [RdD,RepD] at zd;obtain ⟨p,vs,rfl,q1,z1⟩:=zd;refine ⟨p,vs,rfl,q1,?_,.inl ⟨μ,_,env,xs,env',R0,re,z1,e2,k⟩⟩;rw [<-z1.length];exact zd1 _ _ _ _ _ _ e2
  | _=>cases e2
 | en i r=>
  obtain ⟨p,w,rfl,hp,qr⟩:=qx;rw [zas,zab] at eb;obtain ⟨env1,h1,e1,e2⟩:=eb
  have:=zbC _ _ _ _ _ _ e1
  subst this;exact ⟨p,[.int i,w],rfl,SqT.of hp,rfl,.inr ⟨μ,_,env,i,r,w,env1,env',R0,re,rfl,qr,e1,e2,k⟩⟩
end
structure Wlk (K:PySem.W.Frag) (J:L2.It) (w:Wk) (μ:List Addr) (h:Sto) (H:Hp):Prop where
 go:∀ μ1 h1 H1 (i:Nat) x,Stp μ h H μ1 h1 H1->Rep K μ1 h1 H1->zaE w.l h h1=true->w.xs[i]?=some x->J.go i H1/\∀ v H',J.yld i H1 v H'->Stp μ1 h1 H1 μ1 h1 H'/\Rep K μ1 h1 H'/\RepI K μ1 h1 H' x v
 stop:∀ μ1 h1 H1,Stp μ h H μ1 h1 H1->Rep K μ1 h1 H1->zaE w.l h h1=true->J.stop w.xs.length H1
theorem zib {xs:List D} {i:Nat} (e:(xs.map dI)[i]?=some x):∃ d,xs[i]?=some d/\x=.r (.d d):=by
 rw [List.getElem?_map,Option.map_eq_some_iff] at e;obtain ⟨d,e1,e2⟩:=e;exact ⟨d,e1,e2.symm⟩
section
variable {K:PySem.W.Frag} {μ:List Addr} {h:Sto} {H:Hp}
theorem zjP {a:Addr} {xs:List D} (R0:Rep K μ h H) (q:LsR K (Live μ h) H a vs) (z:RepDs K (Live μ h) H xs vs):Wlk K (Itl K a) ⟨xs.map dI,none⟩ μ h H:=by
 refine ⟨λμ1 h1 H1 i x st R1 _ e=>?_,λμ1 h1 H1 st R1 _=>?_⟩
 ·obtain ⟨d,ed,rfl⟩:=zib e
  have q1:=st.lsR q;have z1:=RepDs.stp st R0 z;obtain ⟨v,e1,z2⟩:=z1.get ed;refine ⟨⟨vs,v,q1.sq,e1⟩,λv' H' q_=>?_⟩;obtain ⟨hH,hv⟩:=q_;subst hH
  have:=hv vs q1.sq
  rw [e1] at this;cases this;exact ⟨Stp.refl,R1,z2⟩
 ·exact ⟨vs,(st.lsR q).sq,by rw [List.length_map,<-z.length];exact Nat.le_refl _⟩
theorem zrd {a:Addr} {xs:List D} (R0:Rep K μ h H) (q:SqT K H a vs) (z:RepDs K (Live μ h) H xs vs):Wlk K (Itt K a) ⟨xs.map dI,none⟩ μ h H:=by
 have qs:∀ μ1 h1 H1,Stp μ h H μ1 h1 H1->SqT K H1 a vs:=λμ1 h1 H1 st=>q.imp (st.rdT R0 a vs) λz=>z;refine ⟨λμ1 h1 H1 i x st R1 _ e=>?_,λμ1 h1 H1 st R1 _=>?_⟩
 ·obtain ⟨d,ed,rfl⟩:=zib e
  have q1:=qs _ _ _ st;have z1:=RepDs.stp st R0 z;obtain ⟨v,e1,z2⟩:=z1.get ed;refine ⟨⟨vs,v,q1,e1⟩,λv' H' q_=>?_⟩;obtain ⟨hH,hv⟩:=q_;subst hH
  have:=hv vs q1
  rw [e1] at this;cases this;exact ⟨Stp.refl,R1,z2⟩
 ·exact ⟨vs,qs _ _ _ st,by rw [List.length_map,<-z.length];exact Nat.le_refl _⟩
theorem Ob.same_isL {o o':Ob} (s:o.same o'=true) (il:o.isL=true):o'.isL=true/\o'.items=o.items:=by
 cases o with
 | lst xs=>simp only [Ob.same,Bool.and_eq_true] at s;exact ⟨s.1,(D.sames_eq _ _ s.2).symm⟩
 | fro xs=>simp only [Ob.same,Bool.and_eq_true] at s;exact ⟨s.1,(D.sames_eq _ _ s.2).symm⟩
 | ins _ _=>cases il
 | ols _=>cases il
 | dfr _=>cases il
theorem zhQ:∀ {a b:List (D×D)},zcC a b=true->a=b
  | [],[],_=>rfl
  | [],_::_,h=>by cases h
  | _::_,[],h=>by cases h
  | (p1,p2)::r,(q1,q2)::t,h=>by
    simp only [zcC,Bool.and_eq_true] at h;rw [D.same_eq _ _ h.1.1,D.same_eq _ _ h.1.2,zhQ h.2]
theorem zfr:∀ a:List (D×D),zcC a a=true
 | []=>rfl
 | p::r=>by simp only [zcC,D.same_refl,zfr r,Bool.and_self]
theorem zhe (ho:h[l]?=some o) (s:zaE (some l) h h1=true):∃ o',h1[l]?=some o'/\o.same o'=true:=by
 simp only [zaE,ho] at s
 cases q:h1[l]? with
 | none=>rw [q] at s;cases s
 | some o'=>rw [q] at s;exact ⟨o',rfl,s⟩
theorem zl1 {a:Addr} {l:Nat} (R0:Rep K μ h H) (ea:μ[l]?=some a) (ho:h[l]?=some o) (il:o.isL=true):Wlk K (Itl K a) ⟨o.items.map dI,some l⟩ μ h H:=by
 refine ⟨λμ1 h1 H1 i x st R1 sy e=>?_,λμ1 h1 H1 st R1 sy=>?_⟩
 ·obtain ⟨d,ed,rfl⟩:=zib e
  obtain ⟨o',ho',eo⟩:=zhe ho sy;obtain ⟨il',eo⟩:=Ob.same_isL eo il;obtain ⟨vs,q1,z1⟩:=R1.placeL (st.pre l a ea) ho' il';rw [eo] at z1;obtain ⟨v,e1,z2⟩:=z1.get ed;refine ⟨⟨vs,v,.inl (.inl q1),e1⟩,λv' H' q_=>?_⟩;obtain ⟨hH,hv⟩:=q_;subst hH
  have:=hv vs (.inl (.inl q1))
  rw [e1] at this;cases this;exact ⟨Stp.refl,R1,z2⟩
 ·obtain ⟨o',ho',eo⟩:=zhe ho sy
  obtain ⟨il',eo⟩:=Ob.same_isL eo il;obtain ⟨vs,q1,z1⟩:=R1.placeL (st.pre l a ea) ho' il';rw [eo] at z1
  exact ⟨vs,.inl (.inl q1),by rw [List.length_map,<-z1.length];exact Nat.le_refl _⟩
theorem zeb {α β:Type} {F:α->β->Prop}:∀ {xs:List α} {ys:List β} {i:Nat} {x:α},Paired F xs ys->xs[i]?=some x->∃ y,ys[i]?=some y/\F x y
 | _,_,_,_,.nil,e=>by simp at e
 | _,_,0,_,.cons r _,e=>by simp at e;subst e;exact ⟨_,rfl,r⟩
 | _,_,i+1,x,.cons _ t,e=>by
  obtain ⟨y,h1,h2⟩:=zeb (i:=i) (x:=x) t (by simpa using e);exact ⟨y,by simpa using h1,h2⟩
theorem zlF {l:Nat} {ls:List Nat} (R0:Rep K μ h H) (ea:μ[l]?=some a) (ho:h[l]?=some (.ols ls)):Wlk K (Itl K a) ⟨ls.map λl=>.r (.loc l),some l⟩ μ h H:=by
 have at1:∀ μ1 h1 H1,Stp μ h H μ1 h1 H1->Rep K μ1 h1 H1->zaE (some l) h h1=true->∃ vs,H1 a=some (.lst vs)/\Paired (λ(l:Nat) (v:V)=>∃ b,μ1[l]?=some b/\v=.ref b) ls vs:=by
  intro μ1 h1 H1 st R1 sy;obtain ⟨o',ho',eo⟩:=zhe ho sy
  cases o' with
  | ols ls'=>
   simp only [Ob.same] at eo
   have:=eq_of_beq eo
   subst this;exact R1.obj l a _ (st.pre l a ea) ho'
  | _=>cases eo
 refine ⟨λμ1 h1 H1 i x st R1 sy e=>?_,λμ1 h1 H1 st R1 sy=>?_⟩
 ·rw [List.getElem?_map,Option.map_eq_some_iff] at e
  obtain ⟨k,e,rfl⟩:=e;obtain ⟨vs,q1,z1⟩:=at1 _ _ _ st R1 sy;obtain ⟨v,e1,b,eb,rfl⟩:=zeb z1 e;refine ⟨⟨vs,.ref b,.inl (.inl q1),e1⟩,λv' H' q_=>?_⟩;obtain ⟨hH,hv⟩:=q_;subst hH
  have:=hv vs (.inl (.inl q1))
  rw [e1] at this;cases this;exact ⟨Stp.refl,R1,b,eb,rfl⟩
 ·obtain ⟨vs,q1,z1⟩:=at1 _ _ _ st R1 sy
  exact ⟨vs,.inl (.inl q1),by rw [List.length_map,<-z1.length];exact Nat.le_refl _⟩
theorem zhs:∀ (n:Nat) (lo:Int) (i:Nat) (x:D),(za6 lo n)[i]?=some x->i<n/\x=.int (lo+i)
 | 0,lo,i,x,e=>by simp [za6] at e
 | n+1,lo,i,x,e=>by
  cases i with
  | zero=>simp [za6] at e;exact ⟨by omega,by rw [<-e];simp⟩
  | succ i=>
   simp only [za6,List.getElem?_cons_succ] at e;obtain ⟨h1,h2⟩:=zhs n (lo+1) i x e;refine ⟨by omega,?_⟩;rw [h2]
   congr 1
   push_cast
   omega
theorem zeZ:∀ (n:Nat) (lo:Int),(za6 lo n).length=n
 | 0,_=>rfl
 | n+1,lo=>by simp [za6,zeZ n]
theorem zrv (lo:Int) (n:Nat):Wlk K (Itr lo n) ⟨(za6 lo n).map dI,none⟩ μ h H:=by
 refine ⟨λμ1 h1 H1 i x st R1 _ e=>?_,λμ1 h1 H1 st R1 _=>?_⟩
 ·obtain ⟨d,ed,rfl⟩:=zib e
  obtain ⟨h1',rfl⟩:=zhs n lo i d ed
  exact ⟨h1',λv H' ⟨hH,hv⟩=>by subst hH;exact ⟨Stp.refl,R1,by rw [hv];simp only [RepI,RepR,RepD]⟩⟩
 ·show n<=((za6 lo n).map dI).length
  rw [List.length_map,zeZ];exact Nat.le_refl _
end
noncomputable def Its (x:Str):L2.It:=⟨λi _=>i<x.cps.size,λi H v H'=>H'=H/\∃ c,x.cps[i]?=some c/\v=.str ⟨#[c]⟩,λi _=>x.cps.size<=i⟩
theorem zq1 {K:PySem.W.Frag} {μ:List Addr} (x:List Nat):Wlk K (Its (zaj x)) ⟨(x.map λc=>D.str [c]).map dI,none⟩ μ h H:=by
 refine ⟨λμ1 h1 H1 i d st R1 _ e=>?_,λμ1 h1 H1 st R1 _=>?_⟩
 ·obtain ⟨d,ed,rfl⟩:=zib e
  simp only [List.getElem?_map,Option.map_eq_some_iff] at ed;obtain ⟨c,hc,rfl⟩:=ed;refine ⟨?_,λv H' ⟨hH,c',hc',hv⟩=>?_⟩
  ·show i<x.toArray.size
   simpa using (List.getElem?_eq_some_iff.mp hc).1
  ·subst hH
   refine ⟨Stp.refl,R1,?_⟩
   have e2:x[i]?=some c':=by simpa [zaj] using hc'
   rw [hc] at e2;cases e2;rw [hv];simp only [RepI,RepR,RepD];rfl
 ·show x.toArray.size<=_
  simp
theorem zpx (x:Str) (t:Tok) (it:Addr):Turn P w K tg (Its x) [it] it (λi h=>h.IsStrIter it (strIterType x) x t i) where
 mem:=by simp
 obj:=λi h st b hb=>by
  have e:b=it:=by simpa using hb
  subst e;obtain ⟨o,e,c,d⟩:=st
  exact ⟨o,e,λv z=>by rw [d] at z;cases z⟩
 keep:=λi h h' st k=>by
  obtain ⟨o,e,r⟩:=st;exact ⟨o,k it (by simp) o e,r⟩
 item:=by
  intro X hP hw hK hc i pins s σ H E I hf st hg;subst hP hw hK;obtain ⟨f0,f1,f2,f3,f4,f5⟩:=hf it (by simp);have hg':i<x.cps.size:=hg;obtain ⟨c,hx⟩:∃ c,x.cps[i]?=some c:=⟨x.cps[i]'hg',by simp⟩
  have go:∀ h',h'.IsStrIter it (strIterType x) x t (i+1)->Heap.SameBut it s.heap h'->∃ u,some (Value.str ⟨#[c]⟩ s.toks)=some u ∧
    wpAny (model X.prog X.w) X.A (letOwnedTupleGo tg (.ref it) u) (λ_ s2=>∃ x' H',Inv X pins σ H' s2/\RelV x' u/\(Its x).yld i H x' H'/\s2.heap.IsStrIter it (strIterType x) x t (i+1)/\∀ b∈[it],H' b=none) E { s with heap:=h',toks:=s.toks+1 }:=by
   intro h' st' sb;have I1:Inv X pins σ H { s with heap:=h',toks:=s.toks+1 }:=I.turned (t':=s.toks+1) (λb o hb e=>(sb.2 b hb).trans e) f0 f1 f3 f4 f5;obtain ⟨o,e,cl,d⟩:=id st';refine ⟨_,rfl,zov (s:={ s with heap:=h',toks:=s.toks+1 }) e cl d ?_ ⟨.str ⟨#[c]⟩,H,I1,⟨_,rfl⟩,⟨rfl,_,hx,rfl⟩,st',λb hb=>(hf b hb).1⟩⟩;unfold strIterType
   split<;>decide
  unfold strIterType at st go ⊢
  split at st
  ·rename_i ha
   simp only [ha,if_true] at go ⊢;exact wpAny_pyNext_ascii_item st hx go
  ·rename_i ha
   simp only [ha] at go ⊢;exact wpAny_pyNext_wide_item st hx go
 done:=by
  intro X hP hw hK hc i pins s σ H E I hf st hg;subst hP hw hK;obtain ⟨f0,f1,f2,f3,f4,f5⟩:=hf it (by simp)
  have hx:x.cps[i]?=none:=by
   have hg':x.cps.size<=i:=hg
   simp;omega
  unfold strIterType at st
  split at st
  ·exact wpAny_pyNext_ascii_end (I.ok.hd hc) st hx λh' eb=>⟨rfl,I.turned (t':=s.toks) (λb o hb e=>eb b o hb e) f0 f1 f3 f4 f5⟩
  ·exact wpAny_pyNext_wide_end (I.ok.hd hc) st hx λh' eb=>⟨rfl,I.turned (t':=s.toks) (λb o hb e=>eb b o hb e) f0 f1 f3 f4 f5⟩
 self:=λ_ _ _ _ _ st h=>by
  unfold strIterType at st
  split at st
  ·exact wpAny_pyIter_striter_ascii st h
  ·exact wpAny_pyIter_striter_wide st h
inductive tI (K:PySem.W.Frag) (f:IT.Env->M Wk) (σ:St) (H:Hp) (R:It->Hp->Prop):Prop where
 | mk (μ:List Addr) (h:Sto) (env:IT.Env) (R0:Rep K μ h H) (re:RepE K μ h H env σ) (w:Wk) (h':Sto) (e:f env h=some (w,h')) (k:∀ μ' H' J,Stp μ h H μ' h' H'->Rep K μ' h' H'->Wlk K J w μ' h' H'->w.xs.length<=sizeLine->R J H')
section
variable {X:Cx} {tg:Expr}
theorem PI.imp (h:PI X tg l t) (i:∀ σ H R,t' σ H R->t σ H R):PI X tg l t':=λpins s σ H R I q=>h pins s σ H R I (i σ H R q)
theorem zsX (hl:PE X l tl):PI X tg l (λσ H R=>tl σ H λx H1=>(∃ a xs,x=.ref a/\SqL X.K H1 a xs/\(xs.length<=sizeLine->R (Itl X.K a) H1))\/(∃ a xs,x=.ref a/\SqT X.K H1 a xs/\(xs.length<=sizeLine->R (Itt X.K a) H1))\/(∃ z:Str,x=.str z/\R (Its z) H1)):=by
 intro pins s σ H R I h;refine thn (hl pins s σ H _ I h) λv s1 q_=>?_;obtain ⟨x,H1,I1,r1,q1⟩:=q_
 rcases q1 with ⟨a,xs,e,hq,q⟩ | ⟨a,xs,e,hq,q⟩ | ⟨z,e,q⟩
 ·subst e
  cases r1;obtain ⟨its,rv,p,hz⟩:=I1.list hq;refine wpAny_pyIter_list p.isList ?_;refine ⟨s1.heap.objs.size,[s1.heap.objs.size],_,_,H1,rfl,I1.kept (t':=s1.toks) λb o e=>Heap.get?_push_of_some _ e,zmQ a _,⟨_,Heap.get?_push_size _ rfl,rfl,rfl⟩,λb hb=>?_,q hz⟩
  have e:b=s1.heap.objs.size:=by simpa using hb
  subst e;exact I1.fpOk (Nat.le_refl _) (I1.hok.fresh (Nat.le_refl _))
 ·subst e
  cases r1;obtain ⟨its,rv,p,hz⟩:=I1.tuple hq;refine wpAny_pyIter_tuple (show s1.heap.IsTuple a its.toArray from p) ?_;refine ⟨s1.heap.objs.size,[s1.heap.objs.size],_,_,H1,rfl,I1.kept (t':=s1.toks) λb o e=>Heap.get?_push_of_some _ e,zkn a _,⟨_,Heap.get?_push_size _ rfl,rfl,rfl⟩,λb hb=>?_,q hz⟩
  have e:b=s1.heap.objs.size:=by simpa using hb
  subst e;exact I1.fpOk (Nat.le_refl _) (I1.hok.fresh (Nat.le_refl _))
 ·subst e
  obtain ⟨t,rfl⟩:=(show ∃ t',v=Value.str z t' from r1);refine wpAny_pyIter_strU ?_;refine ⟨s1.heap.objs.size,[s1.heap.objs.size],_,_,H1,rfl,I1.kept (t':=s1.toks) λb o e=>Heap.get?_push_of_some _ e,zpx z t _,⟨_,Heap.get?_push_size _ rfl,rfl,rfl⟩,λb hb=>?_,q⟩
  have e:b=s1.heap.objs.size:=by simpa using hb
  subst e;exact I1.fpOk (Nat.le_refl _) (I1.hok.fresh (Nat.le_refl _))
theorem zb0 (e:zbF r h=some (o,h')):h'=h/\match o with
  | some ls=>∃ l,r=.loc l/\h[l]?=some (.ols ls)
  | none=>True:=by
 cases r with
 | d x=>simp only [zbF,Option.some.injEq,Prod.mk.injEq] at e;obtain ⟨rfl,rfl⟩:=e;exact ⟨rfl,trivial⟩
 | loc l=>
  (delta zbF at e;(try dsimp only at e))
  split at e
  ·rename_i ls hl
   simp only [Option.some.injEq,Prod.mk.injEq] at e;obtain ⟨rfl,rfl⟩:=e;exact ⟨rfl,l,rfl,hl⟩
  ·simp only [Option.some.injEq,Prod.mk.injEq] at e
   obtain ⟨rfl,rfl⟩:=e;exact ⟨rfl,trivial⟩
noncomputable def WkIs (K:PySem.W.Frag) (v:V) (w:Wk) (μ:List Addr) (h:Sto) (H:Hp):Prop:=
 (∃ a vs,v=.ref a/\SqL K H a vs/\vs.length=w.xs.length/\Wlk K (Itl K a) w μ h H)\/(∃ a vs,v=.ref a/\SqT K H a vs/\vs.length=w.xs.length/\Wlk K (Itt K a) w μ h H)\/(∃ z:Str,v=.str z/\w.xs.length<=sizeLine/\Wlk K (Its z) w μ h H)
theorem zvn (R1:Rep K μ h H) (q1:RepR K μ h H r v) (e:zbe r h=some (w,h')):h'=h/\WkIs K v w μ h H:=by
 (delta zbe at e;simp only [zab] at e)
 obtain ⟨o,h1,e1,e2⟩:=e;obtain ⟨rfl,ho⟩:=zb0 e1
 cases o with
 | some ls=>
  obtain ⟨l,rfl,ho⟩:=ho;obtain ⟨a,ea,rfl⟩:=q1;simp only [zac] at e2;obtain ⟨rfl,rfl⟩:=e2;obtain ⟨vs,q2,z2⟩:=R1.obj l a _ ea ho
  exact ⟨rfl,.inl ⟨a,vs,rfl,.inl (.inl q2),by rw [List.length_map];exact z2.length.symm,zlF R1 ea ho⟩⟩
 | none=>
  simp only [zab] at e2;obtain ⟨d,h2,e3,e4⟩:=e2
  cases r with
  | loc l=>
   obtain ⟨a,ea,rfl⟩:=q1;obtain ⟨o,ho,il,rfl,rfl⟩:=zfe e3;obtain ⟨vs,q2,z2⟩:=R1.placeL ea ho il
   (delta wkOf items at e4;(try dsimp only at e4);simp only [zac] at e4)
   obtain ⟨rfl,rfl⟩:=e4
   exact ⟨rfl,.inl ⟨a,vs,rfl,.inl (.inl q2),by rw [List.length_map];exact z2.length.symm,zl1 R1 ea ho il⟩⟩
  | d x=>
   simp only [rd,zac] at e3;obtain ⟨rfl,rfl⟩:=e3
   cases x with
   | tup xs=>
    (delta wkOf items at e4;(try dsimp only at e4);simp only [zac] at e4)
    obtain ⟨rfl,rfl⟩:=e4;simp only [RepR,RepD] at q1;obtain ⟨a,vs,rfl,q2,z2⟩:=q1
    exact ⟨rfl,.inr (.inl ⟨a,vs,rfl,q2,by rw [List.length_map];exact z2.length.symm,zrd R1 q2 z2⟩)⟩
   | lst xs=>
    (delta wkOf items at e4;(try dsimp only at e4);simp only [zac] at e4)
    obtain ⟨rfl,rfl⟩:=e4;simp only [RepR,RepD] at q1;obtain ⟨a,vs,rfl,q2,z2⟩:=q1
    exact ⟨rfl,.inl ⟨a,vs,rfl,q2.sq,by rw [List.length_map];exact z2.length.symm,zjP R1 q2 z2⟩⟩
   | str xs=>
    (delta wkOf items at e4;(try dsimp only at e4))
    split at e4
    ·rename_i hf
     obtain ⟨rfl,rfl⟩:=zac.mp e4;simp only [RepR,RepD] at q1;subst q1
     exact ⟨rfl,.inr (.inr ⟨zaj xs,rfl,by rw [List.length_map,List.length_map];exact of_decide_eq_true hf,zq1 xs⟩)⟩
    ·cases e4
   | _=>exact zae e4
theorem zuh (hl:IE X l f):PI X tg l (tI X.K λσ=>bnd (f σ) λr=>zbe r):=by
 refine PI.imp (zsX hl) λσ H R q0=>?_;obtain ⟨μ,h,env,R0,re,w,h',e,k⟩:=q0;simp only [zab] at e;obtain ⟨r,h1,e1,e2⟩:=e;refine ⟨μ,h,env,R0,re,r,h1,e1,λμ1 H1 v s1 R1 q1=>?_⟩;obtain ⟨rfl,W⟩:=zvn R1 q1 e2
 rcases W with ⟨a,vs,rfl,q2,hl,W⟩ | ⟨a,vs,rfl,q2,hl,W⟩ | ⟨z,rfl,hz,W⟩
 ·exact .inl ⟨a,vs,rfl,q2,λhz=>k μ1 H1 _ s1 R1 W (by rw [<-hl];exact hz)⟩
 ·exact .inr (.inl ⟨a,vs,rfl,q2,λhz=>k μ1 H1 _ s1 R1 W (by rw [<-hl];exact hz)⟩)
 ·exact .inr (.inr ⟨z,rfl,k μ1 H1 _ s1 R1 W hz⟩)
theorem ztn (hg:Gl X "range") (hm:X.mg "range"=none) (ha:IE X e f) (hs:starEach [e] X.env=[(false,eval e X.env)]):PI X tg (.Call (.Name "range" p) [e] [] pos) (tI X.K λσ=>bnd (f σ) λr=>zgu r):=by
 refine PI.imp (zlp hg hm (zbu ha zc1 hs) hs) λσ H R q0=>?_;obtain ⟨μ,h,env,R0,re,w,h',e,k⟩:=q0;simp only [zab] at e;obtain ⟨r,h1,e1,e2⟩:=e;refine ⟨μ,h,env,R0,re,r,h1,e1,λμ1 H1 v s1 R1 q1=>?_⟩
 (delta zgu at e2;(try dsimp only at e2))
 split at e2
 ·rename_i n
  split at e2
  ·rename_i hb
   rw [Bool.and_eq_true] at hb;obtain ⟨rfl,rfl⟩:=zac.mp e2;simp only [RepR,RepD] at q1;have h3:n<=16777216:=of_decide_eq_true hb.2
   exact ⟨n,by rw [q1],of_decide_eq_true hb.1,by omega,k μ1 H1 _ s1 R1 (zrv 0 n.toNat) (by show ((za6 0 n.toNat).map dI).length<=sizeLine;rw [List.length_map,zeZ];show n.toNat<=16777216;omega)⟩
  ·cases e2
 ·cases e2
noncomputable def zu5 (K:PySem.W.Frag) (μ:List Addr) (h:Sto) (D:Ends) (fl:Fl) (σ:St) (H:Hp):Prop:=match fl with
 | .nx=>D.nx σ H
 | .brk=>D.bk σ H
 | .cnt=>D.ct σ H
 | .ret r=>∀ v,RepR K μ h H r v->D.rt v H
inductive tS (K:PySem.W.Frag) (f:IT.Env->M (Fl×IT.Env)) (D:Ends) (σ:St) (H:Hp):Prop where
 | mk (μ:List Addr) (h:Sto) (env:IT.Env) (R0:Rep K μ h H) (re:RepE K μ h H env σ) (fl:Fl) (env':IT.Env) (h':Sto) (e:f env h=some ((fl,env'),h')) (k:∀ μ' H' σ',Stp μ h H μ' h' H'->Rep K μ' h' H'->RepE K μ' h' H' env' σ'->zu5 K μ' h' D fl σ' H')
theorem PS.imp (h:PS X st t) (i:∀ D σ H,t' D σ H->t D σ H):PS X st t':=λpins s σ H D I q=>h pins s σ H D I (i D σ H q)
theorem PSs.imp (h:PSs X st t) (i:∀ D σ H,t' D σ H->t D σ H):PSs X st t':=λpins s σ H D I q=>h pins s σ H D I (i D σ H q)
theorem zr4:PS X (.Return none pos) (tS X.K λσ=>ok (.ret (.d .non),σ)):=by
 refine PS.imp zrZ λD σ H q0=>?_;obtain ⟨μ,h,env,R0,re,fl,env',h',e,k⟩:=q0;simp only [zac,Prod.mk.injEq] at e;obtain ⟨⟨rfl,rfl⟩,rfl⟩:=e;exact k μ H σ Stp.refl R0 re .non (by simp only [RepR,RepD])
theorem zux (he:IE X e f):PS X (.Return (some e) pos) (tS X.K λσ=>bnd (f σ) λr=>ok (.ret r,σ)):=by
 refine PS.imp (zsu he) λD σ H q0=>?_;obtain ⟨μ,h,env,R0,re,fl,env',h',e,k⟩:=q0;simp only [zab,zac,Prod.mk.injEq] at e;obtain ⟨r,h1,e1,⟨rfl,rfl⟩,rfl⟩:=e;exact ⟨μ,h,env,R0,re,r,h1,e1,λμ1 H1 v s1 R1 q1=>k μ1 H1 σ s1 R1 (re.stp s1 R0) v q1⟩
theorem zpY (he:IE X e f) (hs:swapsWith e none pos.line X.env=pure false):PS X (.Expr e pos) (tS X.K λσ=>bnd (f σ) λ_=>ok (.nx,σ)):=by
 refine PS.imp (zrL he hs) λD σ H q0=>?_;obtain ⟨μ,h,env,R0,re,fl,env',h',e,k⟩:=q0;simp only [zab,zac,Prod.mk.injEq] at e;obtain ⟨r,h1,e1,⟨rfl,rfl⟩,rfl⟩:=e;exact ⟨μ,h,env,R0,re,r,h1,e1,λμ1 H1 v s1 R1 q1=>k μ1 H1 σ s1 R1 (re.stp s1 R0)⟩
theorem zp8 (he:IE X e f) (hg:PG X tge (tG X.K t)) (hs:swapsWithSole [tge] e pos.line X.env=pure false) (hw:swappedStores [tge] e X.env=pure none) (h1:(assignEach [tge] X.env).map (·.2)=[assign tge X.env]) :
  PS X (.Assign [tge] e pos) (tS X.K λσ=>bnd (f σ) λr=>bnd (zaT t r σ) λσ'=>ok (.nx,σ')):=by
 refine PS.imp (znD he hg hs hw h1) λD σ H q0=>?_;obtain ⟨μ,h,env,R0,re,fl,env',h',e,k⟩:=q0;simp only [zab,zac,Prod.mk.injEq] at e;obtain ⟨r,h1,e1,env1,h2,e2,⟨rfl,rfl⟩,rfl⟩:=e
 have:=zbC _ _ _ _ _ _ e2
 subst this;exact ⟨μ,h,env,R0,re,r,_,e1,λμ1 H1 v s1 R1 q1=>⟨μ1,_,env,r,env1,R1,re.stp s1 R0,q1,e2,λσ' re'=>k μ1 H1 σ' s1 R1 re'⟩⟩
theorem zru (he:IE X e f) (ho:IE X o g) (hi:IE X i k)
  (ha:∀ v,assign (.Subscript o i p2) X.env v=(do let ov<-holding [v] (eval o X.env);let iv<-holding [v,ov] (eval i X.env);standAt p2;holding [v,ov,iv] (setItem ov iv v);release [v,ov,iv] []))
  (hs:swapsWithSole [.Subscript o i p2] e pos.line X.env=pure false) (hw:swappedStores [.Subscript o i p2] e X.env=pure none) (h1:(assignEach [.Subscript o i p2] X.env).map (·.2)=[assign (.Subscript o i p2) X.env]) :
  PS X (.Assign [.Subscript o i p2] e pos) (tS X.K λσ=>bnd (f σ) λr=>bnd (g σ) λx=>bnd (k σ) λy=>bnd (fz r) λd=>bnd (rd y) λy=>bnd (zf2 x y d) λ_=>ok (.nx,σ)):=by
 refine PS.imp (znD he (zsL ho hi zoO ha) hs hw h1) λD σ H q0=>?_;obtain ⟨μ,h,env,R0,re,fl,env',h',e,kk⟩:=q0;simp only [zab,zac,Prod.mk.injEq] at e;obtain ⟨r,h1,e1,x,h2,e2,y,h3,e3,d,h4,e4,dy,h5,e5,_,h6,e6,⟨rfl,rfl⟩,rfl⟩:=e;refine ⟨μ,h,env,R0,re,r,h1,e1,λμ1 H1 v s1 R1 q1=>⟨μ1,h1,env,R1,re.stp s1 R0,x,h2,e2,λμ2 H2 u s2 R2 q2=>⟨μ2,h2,env,R2,re.stp (s1.trans s2) R0,y,h3,e3,λμ3 H3 w s3 R3 q3=>?_⟩⟩⟩;obtain ⟨s4,R4,zd⟩:=zn9 R3 ((q1.stp s2 R1).stp s3 R2) e4;obtain ⟨rfl,zy⟩:=zbE R4 (q3.stp s4 R3) e5
 (delta zf2 at e6;(try dsimp only at e6))
 split at e6
 ·rename_i l k'
  obtain ⟨a,ea,rfl⟩:=(q2.stp s3 R2).stp s4 R3
  split at e6
  ·rename_i xs hx
   split at e6
   ·rename_i j hj
    simp only [Option.some.injEq,Prod.mk.injEq] at e6;obtain ⟨_,rfl⟩:=e6;obtain ⟨vs4,hH4,z4⟩:=R4.placeL ea hx rfl;simp only [RdD,RepD] at zy
    refine ⟨a,vs4,k',j,rfl,zy,hH4,by rw [<-z4.length];exact hj,?_⟩
    obtain ⟨s5,R5⟩:=write R4 ea hx (z4.set zd j);exact kk μ3 _ σ ((((s1.trans s2).trans s3).trans s4).trans s5) R5 (re.stp ((((s1.trans s2).trans s3).trans s4).trans s5) R0)
   ·cases e6
  ·cases e6
 ·cases e6
theorem zuM (hc:IT' X c ft) (ha:PSs X a (tS X.K fa)) (hb:PSs X b (tS X.K fb)) :
  PS X (.If c a b pos) (tS X.K λσ=>bnd (ft σ) λt=>if t then fa σ else fb σ):=by
 refine PS.imp (zvd hc ha hb) λD σ H q0=>?_;obtain ⟨μ,h,env,R0,re,fl,env',h',e,k⟩:=q0;simp only [zab] at e;obtain ⟨t,h1,e1,e2⟩:=e;refine ⟨μ,h,env,R0,re,t,h1,e1,λμ1 H1 v s1 R1 hv=>?_⟩;subst hv
 cases t with
 | true=>
  simp only [if_true] at e2 ⊢;exact ⟨μ1,h1,env,R1,re.stp s1 R0,fl,env',h',e2,λμ2 H2 σ2 s2 R2 q2=>k μ2 H2 σ2 (s1.trans s2) R2 q2⟩
 | false=>
  simp only [Bool.false_eq_true,if_false] at e2 ⊢;exact ⟨μ1,h1,env,R1,re.stp s1 R0,fl,env',h',e2,λμ2 H2 σ2 s2 R2 q2=>k μ2 H2 σ2 (s1.trans s2) R2 q2⟩
theorem zr8:PSs X [] (tS X.K λσ=>ok (.nx,σ)):=by
 refine PSs.imp zql λD σ H q0=>?_;obtain ⟨μ,h,env,R0,re,fl,env',h',e,k⟩:=q0;simp only [zac,Prod.mk.injEq] at e;obtain ⟨⟨rfl,rfl⟩,rfl⟩:=e;exact k μ H σ Stp.refl R0 re
theorem zoj (h1:PS X st (tS X.K f)) (h2:PSs X sts (tS X.K g)):PSs X (st::sts) (tS X.K λσ=>bnd (f σ) λp=>match p.1 with | .nx=>g p.2 | _=>ok p):=by
 refine PSs.imp (zpb h1 h2) λD σ H q0=>?_;obtain ⟨μ,h,env,R0,re,fl,env',h',e,k⟩:=q0;simp only [zab] at e;obtain ⟨⟨fl1,env1⟩,h1,e1,e2⟩:=e;refine ⟨μ,h,env,R0,re,fl1,env1,h1,e1,λμ1 H1 σ1 s1 R1 q1=>?_⟩
 cases fl1 with
 | nx=>exact ⟨μ1,h1,env1,R1,q1,fl,env',h',e2,λμ2 H2 σ2 s2 R2 q2=>k μ2 H2 σ2 (s1.trans s2) R2 q2⟩
 | brk=>simp only [zac,Prod.mk.injEq] at e2;obtain ⟨⟨rfl,rfl⟩,rfl⟩:=e2;exact k μ1 H1 σ1 s1 R1 q1
 | cnt=>simp only [zac,Prod.mk.injEq] at e2;obtain ⟨⟨rfl,rfl⟩,rfl⟩:=e2;exact k μ1 H1 σ1 s1 R1 q1
 | ret r=>simp only [zac,Prod.mk.injEq] at e2;obtain ⟨⟨rfl,rfl⟩,rfl⟩:=e2;exact k μ1 H1 σ1 s1 R1 q1
theorem Ob.same_refl {o:Ob} (n:∀ c fs,o≠.ins c fs):o.same o=true:=by
 cases o with
 | lst xs=>simp only [Ob.same,Ob.isL,Ob.items,Bool.true_and];exact D.sames_refl _
 | fro xs=>simp only [Ob.same,Ob.isL,Ob.items,Bool.true_and];exact D.sames_refl _
 | ins c fs=>exact absurd rfl (n c fs)
 | ols ls=>simp only [Ob.same,beq_self_eq_true]
 | dfr kvs=>exact zfr kvs
theorem Ob.same_trans {a b c:Ob} (h1:a.same b=true) (h2:b.same c=true):a.same c=true:=by
 cases a with
 | ins _ _=>cases h1
 | dfr ls=>
  cases b with
  | dfr ls'=>have:=zhQ (show zcC ls ls'=true from h1);subst this;exact h2
  | _=>cases h1
 | ols ls=>
  cases b with
  | ols ls'=>simp only [Ob.same] at h1;have:=eq_of_beq h1;subst this;exact h2
  | _=>cases h1
 | lst xs=>
  obtain ⟨i1,e1⟩:=Ob.same_isL h1 rfl;obtain ⟨i2,e2⟩:=Ob.same_isL h2 i1;simp only [Ob.same,i2,Bool.true_and];rw [e2,e1];exact D.sames_refl _
 | fro xs=>
  obtain ⟨i1,e1⟩:=Ob.same_isL h1 rfl;obtain ⟨i2,e2⟩:=Ob.same_isL h2 i1;simp only [Ob.same,i2,Bool.true_and];rw [e2,e1];exact D.sames_refl _
noncomputable def WlOk (w:Wk) (h:Sto):Prop:=∀ i,w.l=some i->∃ o,h[i]?=some o/\∀ c fs,o≠.ins c fs
theorem zec (l:Option Nat) (h:Sto) (hl:∀ i,l=some i->∃ o,h[i]?=some o/\∀ c fs,o≠.ins c fs):zaE l h h=true:=by
 cases l with
 | none=>rfl
 | some i=>
  obtain ⟨o,ho,n⟩:=hl i rfl;simp only [zaE,ho];exact Ob.same_refl n
theorem za4 (a:zaE l h h1=true) (b:zaE l h1 h2=true):zaE l h h2=true:=by
 cases l with
 | none=>rfl
 | some i=>
  simp only [zaE] at a b ⊢
  cases e0:h[i]? with
  | none=>rw [e0] at a;cases a
  | some o0=>
   cases e1:h1[i]? with
   | none=>rw [e0,e1] at a;cases a
   | some o1=>
    cases e2:h2[i]? with
    | none=>rw [e1,e2] at b;cases b
    | some o2=>
     rw [e0,e1] at a;rw [e1,e2] at b;exact Ob.same_trans a b
theorem zua (hp:PassesOwn (model X.prog X.w) X.A X.env X.xe) (hc:X.calm=true) (hi:PI X tg iter (tI X.K fi)) (hg:PG X tg (tGI X.K t)) (hb:PSs X body (tS X.K fb))
  (hs:∀ x,foldedSetIterable iter X.env x=pure x) (hwl:∀ σ h w h',fi σ h=some (w,h')->WlOk w h') :
  PS X (.For tg iter body [] pos) (tS X.K λσ=>bnd (fi σ) λw=>loop w.l (λx σ=>bnd (zas t x σ) λσ'=>fb σ') w.xs σ):=by
 refine PS.imp (zqc hp hc hi hg hb hs) λD σ H q0=>?_;obtain ⟨μ,h,env,R0,re,fl,env',h',e,k⟩:=q0;simp only [zab] at e;obtain ⟨w,h1,e1,e2⟩:=e;refine ⟨μ,h,env,R0,re,w,h1,e1,λμ1 H1 J s1 R1 W1 _=>?_⟩
 refine ⟨λi m σ2 H2=>∃ μ2 h2 env2,Stp μ1 h1 H1 μ2 h2 H2/\zaE w.l h1 h2=true/\Rep X.K μ2 h2 H2/\RepE X.K μ2 h2 H2 env2 σ2/\i+m=w.xs.length ∧
   loop w.l (λx σ=>bnd (zas t x σ) λσ'=>fb σ') (w.xs.drop i) env2 h2=some ((fl,env'),h'),⟨w.xs.length,μ1,h1,env,Stp.refl,zec _ _ (hwl _ _ _ _ e1),R1,re.stp s1 R0,by omega,by rw [List.drop_zero];exact e2⟩,?_⟩
 rintro i m σ2 H2 ⟨μ2,h2,env2,s2,sy2,R2,re2,him,el⟩
 cases hx:w.xs[i]? with
 | none=>
  have hi':w.xs.length<=i:=by simpa using hx
  have hi2:i=w.xs.length:=by omega
  subst hi2;rw [List.drop_of_length_le (Nat.le_refl _)] at el;simp only [loop,zac,Prod.mk.injEq] at el;obtain ⟨⟨rfl,rfl⟩,rfl⟩:=el;exact .inl ⟨W1.stop μ2 h2 H2 s2 R2 sy2,k μ2 H2 σ2 (s1.trans s2) R2 re2⟩
 | some x=>
  have hil:i<w.xs.length:=(List.getElem?_eq_some_iff.mp hx).1
  have hdrop:w.xs.drop i=x::w.xs.drop (i+1):=by
   rw [List.drop_eq_getElem_cons hil]
   have:=(List.getElem?_eq_some_iff.mp hx).2
   rw [this]
  rw [hdrop] at el;simp only [loop] at el;obtain ⟨go,yld⟩:=W1.go μ2 h2 H2 i x s2 R2 sy2 hx
  cases ef:bnd (zas t x env2) (λσ'=>fb σ') h2 with
  | none=>rw [ef] at el;cases el
  | some p=>
   obtain ⟨⟨fl3,env3⟩,h3⟩:=p;rw [ef] at el;simp only [zab] at ef;obtain ⟨env4,h4,e4,e5⟩:=ef
   have:=zdV e4
   subst this
   refine .inr ⟨go,λσ' H'=>∃ m',m'<m/\∃ μ5 h5 env5,Stp μ1 h1 H1 μ5 h5 H'/\zaE w.l h1 h5=true/\Rep X.K μ5 h5 H'/\RepE X.K μ5 h5 H' env5 σ'/\(i+1)+m'=w.xs.length ∧
    loop w.l (λx σ=>bnd (zas t x σ) λσ'=>fb σ') (w.xs.drop (i+1)) env5 h5=some ((fl,env'),h'),λσ' H' hN=>hN,λv H' hy=>?_⟩
   obtain ⟨sy,Ry,zx⟩:=yld v H' hy;refine ⟨μ2,_,env2,x,env4,Ry,re2.stp sy R2,zx,e4,λσ4 re4=>⟨μ2,_,env4,Ry,re4,fl3,env3,h3,e5,λμ5 H5 σ5 s5' R5 re5=>?_⟩⟩;have s5:=sy.trans s5'
   cases fl3 with
   | nx=>
    simp only at el
    split at el
    ·rename_i sy5
     exact ⟨m-1,by omega,μ5,h3,env3,s2.trans s5,za4 sy2 sy5,R5,re5,by omega,el⟩
    ·cases el
   | cnt=>
    simp only at el
    split at el
    ·rename_i sy5
     exact ⟨m-1,by omega,μ5,h3,env3,s2.trans s5,za4 sy2 sy5,R5,re5,by omega,el⟩
    ·cases el
   | brk=>
    simp only [Option.some.injEq,Prod.mk.injEq] at el;obtain ⟨⟨rfl,rfl⟩,rfl⟩:=el;exact k μ5 H5 σ5 ((s1.trans s2).trans s5) R5 re5
   | ret r=>
    simp only [Option.some.injEq,Prod.mk.injEq] at el;obtain ⟨⟨rfl,rfl⟩,rfl⟩:=el;exact k μ5 H5 σ5 ((s1.trans s2).trans s5) R5 re5
end
end IT
namespace PySem
section
variable {prog:Program} {w:World} {A:Around} {R:Result->Shared->Prop} {s:Shared}
theorem ziU (I:Nat->Shared->Prop)
  (turn : ∀ n s,I n s->wpAny (model prog w) A (pyNext it) (λr s₁=>match r with
   | none=>R (.ok .next) s₁
   | some v=>wpAny (model prog w) A (letOwnedTupleGo target it v) (λ_ s₁'=>wpAny (model prog w) A (assign target env v) (λ_ s₂=>
     wpAny (model prog w) A (forIn ifs true λc r=>if r=true then do let ok<-isTrue c env (eval c env);pure (ForInStep.yield ok) else pure (ForInStep.yield r)) (λok s₃=>
      if ok=true then wpAny (model prog w) A (eval elt env) (λx s₄=>
       wpAny (model prog w) A (call (.builtin "list.append") [acc,x]) (λ_ s₅=>∃ m,m<n/\I m s₅) (λ_ _=>False) s₄) (λ_ _=>False) s₃
      else ∃ m,m<n/\I m s₃) (λ_ _=>False) s₂) (λ_ _=>False) s₁') (λ_ _=>False) s₁) (λ_ _=>False) s)
  (n:Nat) (h:I n s) :
  codeAny (model prog w) A (.compLoop (.ListComp elt [⟨target,iter,ifs,0⟩] scope pos) 0 it acc env) R s:=by
 refine codeAny_loop rfl I (λn s hI=>?_) n h
 show wpAny _ A ((compTurn (.ListComp elt [⟨target,iter,ifs,0⟩] scope pos) 0 it acc env).onRaise (λx=>do noteFrame x env;theTreesLotGoes x)) _ _ s
 refine wpAny_noted ?_;rw [compTurn_list];refine wpAny_bind (wpAny_standAt (wpAny_bind (wpAny_mono (turn n s hI) (λr s₁ h₁=>?_) λ_ _ h'=>h'.elim)))
 cases r with
 | none=>exact wpAny_pure h₁
 | some v=>
  refine wpAny_bind (wpAny_mono h₁ (λ_ s₁' h₁'=>?_) λ_ _ h'=>h'.elim);refine wpAny_bind (wpAny_mono h₁' (λ_ s₂ h₂=>wpAny_bind (wpAny_mono h₂ (λok s₃ h₃=>?_) λ_ _ h'=>h'.elim)) λ_ _ h'=>h'.elim)
  cases ok with
  | false=>exact wpAny_pure ⟨rfl,h₃⟩
  | true=>
   exact wpAny_bind (wpAny_bind (wpAny_mono h₃ (λx s₄ h₄=>wpAny_bind (wpAny_mono h₄ (λ_ s₅ h₅=>wpAny_pure (wpAny_pure ⟨rfl,h₅⟩)) λ_ _ h'=>h'.elim)) λ_ _ h'=>h'.elim))
end
theorem zdU (h:∀ x∈scope.names,x.2=.free->∃ c,env.cells.lookup x.1=some c) :
  ∃ cl,closureFor scope env=pure cl/\(∀ x c,cl.lookup x=some c->env.cells.lookup x=some c)/\∀ x∈scope.names,x.2=.free->∃ c,cl.lookup x.1=some c:=by
 unfold closureFor
 have gen:∀ (l:List (Str×NameKind)) (cs:List (Str×Addr)),(∀ x∈l,x.2=.free->∃ c,env.cells.lookup x.1=some c)->(∀ x c,cs.lookup x=some c->env.cells.lookup x=some c) →
   ∃ cl,(forIn l cs λ(x:Str×NameKind) (r:List (Str×Addr))=>(if x.2==.free then do let c<-cellOf env x.1;pure (ForInStep.yield ((x.1,c)::r)) else pure (ForInStep.yield r):Sem (ForInStep (List (Str×Addr)))))=pure cl ∧
    (∀ x c,cl.lookup x=some c->env.cells.lookup x=some c)/\(∀ x c,cs.lookup x=some c->∃ c',cl.lookup x=some c')/\∀ x∈l,x.2=.free->∃ c,cl.lookup x.1=some c:=by
  intro l
  induction l with
  | nil=>intro cs _ h2;exact ⟨cs,rfl,h2,λx c e=>⟨c,e⟩,λx hx=>absurd hx (by simp)⟩
  | cons y l ih=>
   intro cs h1 h2
   by_cases hy:y.2=.free
   ·obtain ⟨c,hc⟩:=h1 y (by simp) hy
    have hcell:cellOf env y.1=pure c:=by unfold cellOf;rw [hc]
    obtain ⟨cl,e,a1,a2,a3⟩:=ih ((y.1,c)::cs) (λx hx=>h1 x (by simp [hx])) (λx c' e=>by
     rw [List.lookup_cons] at e
     split at e
     ·rename_i hb
      cases e;rw [eq_of_beq hb];exact hc
     ·exact h2 x c' e)
    refine ⟨cl,?_,a1,λx c' e'=>?_,λx hx hf=>?_⟩
    ·rw [List.forIn_cons,if_pos (by rw [hy];rfl),hcell]
     exact e
    ·by_cases hb:(x==y.1)=true
     ·exact a2 x c (by rw [List.lookup_cons,hb])
     ·exact a2 x c' (by rw [List.lookup_cons];simp only [Bool.not_eq_true] at hb;rw [hb];exact e')
    ·rcases List.mem_cons.mp hx with rfl | hx
     ·exact a2 x.1 c (by rw [List.lookup_cons];simp)
     ·exact a3 x hx hf
   ·obtain ⟨cl,e,a1,a2,a3⟩:=ih cs (λx hx=>h1 x (by simp [hx])) h2
    refine ⟨cl,?_,a1,a2,λx hx hf=>?_⟩
    ·rw [List.forIn_cons,if_neg (by intro z;exact hy (eq_of_beq z))]
     exact e
    ·rcases List.mem_cons.mp hx with rfl | hx
     ·exact absurd hf hy
     ·exact a3 x hx hf
 obtain ⟨cl,e,a1,_,a3⟩:=gen scope.names [] h (λx c e=>by simp at e);refine ⟨cl,?_,a1,a3⟩
 show (forIn scope.names ([]:List (Str×Addr)) (λ(x:Str×NameKind) (r:List (Str×Addr))=>(if x.2==.free then do let c<-cellOf env x.1;pure (ForInStep.yield ((x.1,c)::r)) else pure (ForInStep.yield r):Sem (ForInStep (List (Str×Addr))))) >>= λcs=>pure cs)=pure cl
 rw [e];rfl
end PySem
namespace IT
open PySem PySem.Spec L2
noncomputable def clrS:List Nat->St->St
 | [],σ=>σ
 | i::r,σ=>clrS r (σ.set i none)
theorem zg4:∀ (own:List Nat) (σ:St),(clrS own σ).length=σ.length
 | [],_=>rfl
 | i::r,σ=>by simp [clrS,zg4 r]
theorem zhc:∀ (own:List Nat) (σ:St) (i:Nat) (v:V),(clrS own σ)[i]?=some (some v)->σ[i]?=some (some v)/\i ∉ own
 | [],σ,i,v,e=>⟨e,by simp⟩
 | j::r,σ,i,v,e=>by
  obtain ⟨e1,n1⟩:=zhc r (σ.set j none) i v e
  by_cases hij:i=j
  ·subst hij
   rw [List.getElem?_set] at e1;simp only [if_true] at e1
   split at e1<;>cases e1
  ·rw [List.getElem?_set_ne (Ne.symm hij)] at e1
   exact ⟨e1,by simp [hij,n1]⟩
noncomputable def blk (X:Cx) (N':List Str) (s₂:Shared) (H₂:Hp) (cenv:PySem.Env) (fp:List Addr) (pins:List (Addr×Obj)):Cx:=
 { X with N:=N',s₀:=s₂,H₀:=H₂,env:=cenv,outer:=X.stack,ex:=fp,fn:=λ_=>false,pn:=X.pn++pins }
noncomputable def PTs (X:Cx) (ifs:List Expr) (t:TT):Prop:=
 ∀ (pins:List (Addr×Obj)) (s:Shared) (σ:St) (H:Hp) (Q:Bool->Hp->Prop),Inv X pins σ H s->t σ H Q →
  wpAny (model X.prog X.w) X.A (forIn ifs true λc r=>if r=true then do let ok<-isTrue c X.env (eval c X.env);pure (ForInStep.yield ok) else pure (ForInStep.yield r)) (TP X pins σ Q) X.xe s
theorem zqH:PTs X [] (λ_ H Q=>Q true H):=λpins s σ H Q I q=>wpAny_tests_nil ⟨H,I,q⟩
theorem zrR (h:PT X c t):PTs X [c] t:=λpins s σ H Q I q=>wpAny_tests_one (h pins s σ H Q I q)
noncomputable def zkt (wi:TI) (own:List Nat) (g:TG) (tc:TT) (te:TE):TE:=λσ H Q=>wi σ H λJ H1=>∃ W:Nat->Nat->List V->Hp->Prop,(∃ m,W 0 m [] H1)/\∀ i m vs H,W i m vs H →
 (J.stop i H/\vs.length<=sizeLine/\∀ a,H a=none->Q (.ref a) (upd H a (.lst vs))) ∨
 (J.go i H/\vs.length<sizeLine/\∀ x H',J.yld i H x H'->g x (clrS own σ) H' λσ2 H2=>tc σ2 H2 λb H3=>if b=true then te σ2 H3 λv H4=>∃ m',m'<m/\W (i+1) m' (vs++[v]) H4 else ∃ m',m'<m/\W (i+1) m' vs H3)
section
variable {X:Cx}
theorem zqd {cl:List (Str×Addr)} (hcell:∀ y∈scope.names,y.2≠.cell) (hcl2:∀ x∈scope.names,x.2=.free->∃ c,cl.lookup x.1=some c):∀ x,Vis (relabel scope X.env) x->(relabel scope X.env).names.lookup x≠some .local->∃ c,cl.lookup x=some c:=by
 intro x hv hnl
 have : ∀ (l:List (Str×NameKind)),(∀ y∈l,y.2≠.cell)->(∀ y∈l,y.2=.free->∃ c,cl.lookup y.1=some c)->∀ k,(k=.cell\/k=.free) →
   (l.map λ(n,k)=>if (k==NameKind.free&&X.env.scope.kind==.function&&X.env.kindOf n==some .cell) then (n,NameKind.cell) else (n,k)).lookup x=some k->∃ c,cl.lookup x=some c:=by
  intro l
  induction l with
  | nil=>intro _ _ k _ e;simp at e
  | cons y l ih=>
   intro h1 h2 k hkk e;obtain ⟨n,kd⟩:=y;rw [List.map_cons] at e
   by_cases hb:(kd==NameKind.free&&X.env.scope.kind==.function&&X.env.kindOf n==some .cell)=true
   ·simp only [hb,if_true] at e
    rw [List.lookup_cons] at e
    split at e
    ·rename_i hx
     rw [eq_of_beq hx];refine h2 (n,kd) (by simp) ?_;rw [Bool.and_eq_true,Bool.and_eq_true] at hb;exact eq_of_beq hb.1.1
    ·exact ih (λy hy=>h1 y (by simp [hy])) (λy hy=>h2 y (by simp [hy])) k hkk e
   ·simp only [hb] at e
    rw [List.lookup_cons] at e
    split at e
    ·rename_i hx
     have e':kd=k:=by simpa using e
     subst e';rw [eq_of_beq hx]
     rcases hkk with z | z
     ·exact absurd z (h1 (n,kd) (by simp))
     ·exact h2 (n,kd) (by simp) z
    ·exact ih (λy hy=>h1 y (by simp [hy])) (λy hy=>h2 y (by simp [hy])) k hkk e
 rcases hv with z | z | z
 ·exact absurd z hnl
 ·exact this scope.names hcell hcl2 .cell (.inl rfl) z
 ·exact this scope.names hcell hcl2 .free (.inr rfl) z
theorem zq9 {own:List Nat} {H₂:Hp} {s₂:Shared} {fp:List Addr} {h₄:Heap} {tk:Nat}
  (hkind:scope.kind=.function) (hcell:∀ y∈scope.names,y.2≠.cell)
  (hN:∀ (i:Nat) (x:Str),N'[i]?=some x->Vis (relabel scope X.env) x->i∈own\/(X.N[i]?=some x/\(X.env.kindOf x=some .cell\/X.env.kindOf x=some .free)/\(relabel scope X.env).names.lookup x≠some .local))
  (hlen:N'.length=X.N.length) (hcl1:∀ x c,cl.lookup x=some c->X.env.cells.lookup x=some c) (hcl2:∀ x∈scope.names,x.2=.free->∃ c,cl.lookup x.1=some c)
  (I:Inv X pins σ H₂ s₂) (hf:∀ b∈fp,FpOk X pins H₂ b) (hex:∀ b∈fp,b<s₂.heap.objs.size)
  (hk:∀ b o,s₂.heap.get? b=some o->h₄.get? b=some o) (hns:∃ m,h₄.Ns (s₂.heap.objs.size+1) m) (hacc:h₄.get? s₂.heap.objs.size=some { cls:=.type "list",data:=.seq #[] }) :
  Inv (blk X N' s₂ H₂ (compEnvC scope cl (s₂.heap.objs.size+1) X.env) fp pins) [(s₂.heap.objs.size,{ cls:=.type "list",data:=.seq #[] })] (clrS own σ) H₂ { s₂ with heap:=h₄,toks:=tk }:=by
 have fsub:∀ b∈frs X.stack,b=X.env.locals\/b∈X.fs:=λb hb=>List.mem_cons.mp (I.stkSub b hb);have fresh:∀ b,s₂.heap.objs.size<=b->H₂ b=none:=λb hb=>I.hok.fresh hb
 have flt:∀ b∈frs X.stack,b<s₂.heap.objs.size:=λb hb=>by
  obtain ⟨_,o,ho,_⟩:=I.stack.mem hb;exact Heap.lt_size ho
 have vis_free:=zqd (X:=X) hcell hcl2
 refine ⟨⟨I.ok.mod,?_,I.ok.glob,I.ok.blt,Nat.le_succ _,λx y c e1 e2=>I.ok.inj x y c (hcl1 x c e1) (hcl1 y c e2),λx hx=>?_,λx c e=>absurd (show false=true from e) Bool.false_ne_true,I.ok.hd,I.ok.frames,.inl rfl,λb hb=>⟨?_,λx c e=>?_⟩,I.bs,Nat.le_trans I.ok.bsz I.sz,λb o e hb=>?_,λb hb hb2=>?_,I.stack,I.stkFree⟩,
  rfl,I.bare,Un.kept hk,?_,λx c e=>?_,fresh _ (Nat.le_succ _),λx c e=>I.freeC x c (hcl1 x c e),λp hp=>?_,I.hok.kept hk,?_⟩
 ·exact hkind
 ·rcases hx with z | z
  ·exact vis_free x (.inr (.inl z)) (by
    have z':(relabel scope X.env).names.lookup x=some .cell:=z
    rw [z'];decide)
  ·exact vis_free x (.inr (.inr z)) (by
    have z':(relabel scope X.env).names.lookup x=some .free:=z
    rw [z'];decide)
 ·exact Nat.ne_of_lt (Nat.lt_succ_of_lt (hex b hb))
 ·exact (hf b hb).2.2.2.2.1 x c (hcl1 x c e)
 ·rcases (hf b hb).2.2.2.1 with z | z
  ·exact I.ok.noex b o e z
  ·have h1:b<X.base.objs.size:=Heap.lt_size e
   have h2:=I.ok.bsz;exact absurd (Nat.lt_of_lt_of_le h1 (Nat.le_trans h2 z)) (Nat.lt_irrefl _)
 ·rcases fsub b hb2 with z | z
  ·exact (hf b hb).2.1 z
  ·exact (hf b hb).2.2.1 z
 ·obtain ⟨m,hm⟩:=hns
  obtain ⟨mX,_,hl⟩:=I.loc;refine ⟨m,hm,λi x v e1 e2 e3=>?_⟩;obtain ⟨e2',ni⟩:=zhc own σ i v e2
  rcases hN i x e1 e3 with z | ⟨z,zk,nl⟩
  ·exact absurd z ni
  ·have vx:Vis X.env.scope x:=by
    rcases zk with q | q
    ·exact .inr (.inl q)
    ·exact .inr (.inr q)
   obtain ⟨u,ru,lk⟩:=hl i x v z e2' vx;refine ⟨u,ru,?_⟩
   rcases lk with ⟨q,_⟩ | ⟨_,c,ec,hcv⟩
   ·rcases zk with q' | q'
    ·rw [q] at q';cases q'
    ·rw [q] at q';cases q'
   ·obtain ⟨c',ec'⟩:=vis_free x e3 nl
    have:=hcl1 x c' ec'
    rw [ec] at this;cases this;refine .inr ⟨?_,c,ec',hcv.keeps hk⟩
    rcases e3 with q | q | q
    ·exact absurd q nl
    ·exact .inl q
    ·exact .inr q
 ·obtain ⟨v,q⟩:=I.cell x c (hcl1 x c e)
  exact ⟨v,q.keeps hk⟩
 ·rcases List.mem_append.mp hp with z | z
  ·obtain ⟨e1,e2,e3,e4,e5⟩:=I.pin p z
   refine ⟨hk _ _ e1,e2,Nat.ne_of_lt (Nat.lt_succ_of_lt (Heap.lt_size e1)),λhb=>?_,e5⟩
   rcases fsub p.1 hb with q | q
   ·exact e3 q
   ·exact e4 q
  ·have ep:p=(s₂.heap.objs.size,({ cls:=.type "list",data:=.seq #[] }:Obj)):=by simpa using z
   subst ep;exact ⟨hacc,fresh _ (Nat.le_refl _),Nat.ne_of_lt (Nat.lt_succ_self _),λhb=>absurd (flt _ hb) (Nat.lt_irrefl _),λv q=>by cases q⟩
 ·show (clrS own σ).length=N'.length
  rw [zg4,hlen];exact I.len
theorem zin {own:List Nat} {σ σ':St} {H₂ H':Hp} {s₂ s':Shared} {fp:List Addr}
  (hcell:∀ y∈scope.names,y.2≠.cell)
  (hN:∀ (i:Nat) (x:Str),N'[i]?=some x->Vis (relabel scope X.env) x->i∈own\/(X.N[i]?=some x/\(X.env.kindOf x=some .cell\/X.env.kindOf x=some .free)/\(relabel scope X.env).names.lookup x≠some .local))
  (hlen:N'.length=X.N.length) (hcl1:∀ x c,cl.lookup x=some c->X.env.cells.lookup x=some c) (hcl2:∀ x∈scope.names,x.2=.free->∃ c,cl.lookup x.1=some c)
  (I:Inv X pins σ H₂ s₂) (hf:∀ b∈fp,FpOk X pins H₂ b) (J:Inv (blk X N' s₂ H₂ (compEnvC scope cl C X.env) fp pins) pl σ' H' s'):Inv (blk X N' s₂ H₂ (compEnvC scope cl C X.env) fp pins) pl (clrS own σ) H' s':=by
 refine ⟨J.ok,J.os,J.bare,J.base,?_,J.cell,J.free,J.freeC,J.pin,J.hok,?_⟩
 ·obtain ⟨m,hm,_⟩:=J.loc
  obtain ⟨mX,_,hl⟩:=I.loc;refine ⟨m,hm,λi x v e1 e2 e3=>?_⟩;obtain ⟨e2',ni⟩:=zhc own σ i v e2
  rcases hN i x e1 e3 with z | ⟨z,zk,nl⟩
  ·exact absurd z ni
  ·have vx:Vis X.env.scope x:=by
    rcases zk with q | q
    ·exact .inr (.inl q)
    ·exact .inr (.inr q)
   obtain ⟨u,ru,lk⟩:=hl i x v z e2' vx;refine ⟨u,ru,?_⟩
   rcases lk with ⟨q,_⟩ | ⟨_,c,ec,o,ho,hd⟩
   ·rcases zk with q' | q'
    ·rw [q] at q';cases q'
    ·rw [q] at q';cases q'
   ·obtain ⟨c',ec'⟩:=zqd (X:=X) hcell hcl2 x e3 nl
    have:=hcl1 x c' ec'
    rw [ec] at this;cases this
    have hcv:s'.heap.IsCell c (some u):=by
     obtain ⟨sl,q⟩:=J.base.any ho (I.freeC x c ec) λhb=>(hf c hb).2.2.2.2.1 x c ec rfl;exact ⟨_,q,hd⟩
    refine .inr ⟨?_,c,ec',hcv⟩
    rcases e3 with q | q | q
    ·exact absurd q nl
    ·exact .inl q
    ·exact .inr q
 ·show (clrS own σ).length=N'.length
  rw [zg4,hlen];exact I.len
theorem zoM
  (I:Inv X pins σ H₂ s₂) (hf:∀ b∈fp,FpOk X pins H₂ b) (J:Inv (blk X N' s₂ H₂ cenv fp pins) pl σ' H' s') (hacc:s₂.heap.objs.size<=acc) (hn:H' acc=none)
  (ho:s'.heap.get? acc=some { cls:=.type "list",data:=.seq its.toArray n }) (r:Vals vs its) (hz:vs.length<=sizeLine):Inv X pins σ (upd H' acc (.lst vs)) s':=by
 have lt:∀ b o,s₂.heap.get? b=some o->b≠acc:=λb o e z=>absurd (Nat.lt_of_lt_of_le (Heap.lt_size e) (by rw [z];exact hacc)) (Nat.lt_irrefl _)
 refine I.call' (ch:=fp) J.os ⟨J.base.keep,J.base.slot,λb o e n hx=>?_,J.base.there,λb xs e=>?_,λb o u e=>?_,λb ps e=>?_⟩ (λb u e=>?_) J.bare (λb hb=>?_)
 ·rw [zam (lt b o e)]
  exact J.base.free b o e n hx
 ·have:=J.base.tups b xs e
  rw [zam (zar this hn)];exact this
 ·have:=J.base.frzs b o u e
  rw [zam (zar this hn)];exact this
 ·obtain ⟨more,this⟩:=J.base.tbls b ps e
  refine ⟨more,?_⟩;rw [zam (zar this hn)];exact this
 ·by_cases hb:b=acc
  ·subst hb
   rw [zao] at e;cases e;exact ⟨hz,its,n,r,ho⟩
  ·rw [zam hb] at e
   exact (J.hok b u e).stay (λc o _ q=>q) (λc q=>by rw [zam (zar q hn)];exact q) λc xs q=>by rw [zam (zar q hn)];exact q
 ·obtain ⟨_,h1,_,h3,h4,h5⟩:=hf b hb
  exact ⟨h3,h1,h4,h5⟩
end
section
variable {X:Cx}
structure Gone (X:Cx) (pins:List (Addr×Obj)) (H:Hp) (C:Addr) (s:Shared):Prop where
 ns:∃ m,s.heap.Ns C m
 free:H C=none
 loc:C≠X.env.locals
 fs:C ∉ X.fs
 new:X.s₀.heap.objs.size<=C
 cel:∀ x c,X.env.cells.lookup x=some c->c≠C
 pin:∀ p∈X.pn++pins,p.1≠C
inductive CI (P:List Value->Nat->Hp->Shared->Prop) (tn:Nat->Heap->Prop) (fp:List Addr) (W:Nat->Nat->List V->Hp->Prop) (n:Nat) (s':Shared):Prop
 | mk (i:Nat) (vs:List V) (H':Hp) (its:List Value) (nn:Nat) (J:P its nn H' s') (st:tn i s'.heap) (fr:∀ b∈fp,H' b=none) (rv:Vals vs its) (w:W i n vs H')
theorem zim
  {cl:List (Str×Addr)} {RR:Value->Addr->Result->Shared->Prop}
  (hx:X.xe=λ_ _=>False) (hc:X.calm=true) (hkind:scope.kind=.function) (hcell:∀ y∈scope.names,y.2≠.cell)
  (hN:∀ (i:Nat) (x:Str),N'[i]?=some x->Vis (relabel scope X.env) x->i∈own\/(X.N[i]?=some x/\(X.env.kindOf x=some .cell\/X.env.kindOf x=some .free)/\(relabel scope X.env).names.lookup x≠some .local))
  (hlen:N'.length=X.N.length) (hcl1:∀ x c,cl.lookup x=some c->X.env.cells.lookup x=some c) (hcl2:∀ x∈scope.names,x.2=.free->∃ c,cl.lookup x.1=some c)
  (hi:PI X tg iter wi)
  (hB:∀ s₂ H₂ C fp,PG (blk X N' s₂ H₂ (compEnvC scope cl C X.env) fp pins) tg g/\PTs (blk X N' s₂ H₂ (compEnvC scope cl C X.env) fp pins) ifs tc/\PE (blk X N' s₂ H₂ (compEnvC scope cl C X.env) fp pins) elt te)
  (I:Inv X pins σ H s) (q:zkt wi own g tc te σ H Q)
  (hRR:∀ a C s' H',Inv X pins σ H' s'->Q (.ref a) H'->Gone X pins H' C s'->RR (.ref a) C (.ok .next) s') :
  wpAny (model X.prog X.w) X.A (eval iter X.env) (λx s₁=>wpAny (model X.prog X.w) X.A (pyIter x) (λit s₂=>wpAny (model X.prog X.w) X.A (newList []) (λacc s₃=>
   wpAny (model X.prog X.w) X.A (newFunctionEnv scope X.env.globals cl [] X.env.qual none .none (some X.env)) (λcenv s₄=>
    codeAny (model X.prog X.w) X.A (.compStart (.ListComp elt [⟨tg,iter,ifs,0⟩] scope pos) 0 it acc { cenv with scope:=relabel scope X.env }) (RR acc cenv.locals) s₄) X.xe s₃) X.xe s₂) X.xe s₁) X.xe s:=by
 refine thn (hi pins s σ H _ I q) λv s1 h1=>thn h1 λitv s2 h2=>?_;obtain ⟨it,fp,tn,J,H2,e,I2,T,st2,f2,W,⟨m0,w0⟩,turn⟩:=h2;subst e
 refine wpAny_newObj_type (wpAny_newFunctionEnv hcell (by intro y hy;simp at hy) (λh₁ hns₁ hsb₁=>?_) hkind)
 dsimp only at hns₁ hsb₁ ⊢;generalize hG:s2.heap.push { cls:=.type "list",dict:=none,data:=.seq ([]:List Value).toArray }=G at hns₁ hsb₁ ⊢
 have hGs:G.objs.size=s2.heap.objs.size+1:=by rw [<-hG,Heap.size_push]
 rw [hGs] at hns₁ hsb₁ ⊢;have hold:∀ b o,s2.heap.get? b=some o->h₁.get? b=some o:=λb o e=>hsb₁.extBut b o (Nat.ne_of_lt (Nat.lt_succ_of_lt (Heap.lt_size e))) (Heap.get?_push_of_some _ (hG▸Heap.get?_push_of_some _ e));have hacc:h₁.get? s2.heap.objs.size=some { cls:=.type "list",data:=.seq #[] }:=hsb₁.extBut _ _ (Nat.ne_of_lt (Nat.lt_succ_self _)) (Heap.get?_push_of_some _ (hG▸Heap.get?_push_size _ rfl))
 have hex:∀ b∈fp,b<s2.heap.objs.size:=λb hb=>by
  obtain ⟨o,ho,_⟩:=T.obj _ _ st2 b hb;exact Heap.lt_size ho
 have J0:=zq9 (X:=X) (own:=own) (tk:=s2.toks+([]:List (Str×Value)).length) hkind hcell hN hlen hcl1 hcl2 I2 f2 hex hold ⟨_,hns₁⟩ hacc;have st4:tn 0 h₁:=T.keep _ _ _ st2 λb hb o e=>hold b o e
 have frame:∀ b∈frs X.stack,b≠X.env.locals->b∈X.fs:=λb hb hne=>by
  rcases List.mem_cons.mp (I2.stkSub b hb) with z | z
  ·exact absurd z hne
  ·exact z
 have stat:∀ {H':Hp} {pl:List (Addr×Obj)},(∀ b∈fp,H' b=none)->(∀ p∈pl,∀ b∈fp,p.1≠b)->∀ b∈fp,FpOk (blk X N' s2 H2 (compEnvC scope cl (s2.heap.objs.size+1) X.env) fp pins) pl H' b:=by
  intro H' pl hn hp b hb;obtain ⟨g0,g1,g2,g3,g4,g5⟩:=f2 b hb;refine ⟨hn b hb,Nat.ne_of_lt (Nat.lt_succ_of_lt (hex b hb)),λhs=>?_,.inl hb,λx c e=>g4 x c (hcl1 x c e),λp hpp=>?_⟩
  ·exact g2 (frame b hs g1)
  ·rcases List.mem_append.mp hpp with z | z
   ·exact g5 p z
   ·exact hp p z b hb
 have accne:∀ b∈fp,s2.heap.objs.size≠b:=λb hb z=>absurd (hex b hb) (by rw [<-z];exact Nat.lt_irrefl _)
 have loop:codeAny (model X.prog X.w) X.A (.compLoop (.ListComp elt [⟨tg,iter,ifs,0⟩] scope pos) 0 (.ref it) (.ref s2.heap.objs.size) (compEnvC scope cl (s2.heap.objs.size+1) X.env)) (RR (.ref s2.heap.objs.size) (s2.heap.objs.size+1))
   { s2 with heap:=h₁,toks:=s2.toks+([]:List (Str×Value)).length }:=by
  refine ziU (CI (λits nn H' s'=>Inv (blk X N' s2 H2 (compEnvC scope cl (s2.heap.objs.size+1) X.env) fp pins) [(s2.heap.objs.size,{ cls:=.type "list",data:=.seq its.toArray nn })] (clrS own σ) H' s') tn fp W) ?_ m0 ⟨0,[],H2,[],0,J0,st4,λb hb=>(f2 b hb).1,.nil,w0⟩
  rintro n s3 ⟨i,vs,H3,its,nn,J3,st3,fr3,rv,w3⟩
  have pne:∀ p∈[(s2.heap.objs.size,({ cls:=.type "list",data:=.seq its.toArray nn }:Obj))],∀ b∈fp,p.1≠b:=by
   intro p hp b hb
   have ep:p=(s2.heap.objs.size,({ cls:=.type "list",data:=.seq its.toArray nn }:Obj)):=by simpa using hp
   rw [ep];exact accne b hb
  rcases turn i n vs H3 w3 with ⟨stop,hz,qn⟩ | ⟨go,hz,step⟩
  ·refine wpAny_mono (T.done (blk X N' s2 H2 (compEnvC scope cl (s2.heap.objs.size+1) X.env) fp pins) rfl rfl rfl hc i _ s3 _ H3 (λ_ _=>False) J3 (stat fr3 pne) st3 stop) (λr s4 q_=>?_) λ_ _ z=>z
   obtain ⟨hr,I4⟩:=q_;subst hr;obtain ⟨ea,na,_,_,_⟩:=I4.pin (s2.heap.objs.size,_) (List.mem_append_right _ (List.mem_singleton.mpr rfl));have I5:=zoM (X:=X) I2 f2 I4 (Nat.le_refl _) na ea rv hz;obtain ⟨m,hm,_⟩:=I4.loc;refine hRR _ _ s4 _ I5 (qn _ na) ⟨⟨m,hm⟩,?_,?_,λhb=>?_,?_,λx c e=>?_,λp hp=>?_⟩
   ·rw [zam (Nat.ne_of_gt (Nat.lt_succ_self _))]
    exact I4.free
   ·exact Nat.ne_of_gt (Nat.lt_succ_of_lt I2.lt)
   ·exact I2.nofs (Nat.le_succ _) hb
   ·exact Nat.le_trans I2.sz (Nat.le_succ _)
   ·obtain ⟨v,z⟩:=I2.cell x c e
    exact Nat.ne_of_lt (Nat.lt_succ_of_lt z.lt)
   ·exact Nat.ne_of_lt (Nat.lt_succ_of_lt (Heap.lt_size (I2.pin p hp).1))
  ·refine wpAny_mono (T.item (blk X N' s2 H2 (compEnvC scope cl (s2.heap.objs.size+1) X.env) fp pins) rfl rfl rfl hc i _ s3 _ H3 (λ_ _=>False) J3 (stat fr3 pne) st3 go) (λr s4 q_=>?_) λ_ _ z=>z
   obtain ⟨u,hr,h4⟩:=q_;subst hr;refine wpAny_mono h4 (λ_ s5 q_=>?_) λ_ _ z=>z;obtain ⟨x,H5,I5,r5,y5,st5,fr5⟩:=q_;have I5':=I5.pinned (stat fr5 pne) (T.obj _ _ st5);obtain ⟨hg,ht,he⟩:=hB s2 H2 (s2.heap.objs.size+1) fp
   have nx:∀ {e:Value} {s:Shared},(blk X N' s2 H2 (compEnvC scope cl (s2.heap.objs.size+1) X.env) fp pins).xe e s->False:=λz=>by
    have z':X.xe _ _:=z;rw [hx] at z';exact z'
   refine wpAny_mono (hg _ s5 _ H5 x u _ I5' r5 (step x H5 y5)) (λ_ s6 q_=>?_) λ_ _ z=>nx z;obtain ⟨σ6,H6,I6,q6⟩:=q_;refine wpAny_mono (ht _ s6 σ6 H6 _ I6 q6) (λok s7 q_=>?_) λ_ _ z=>nx z;obtain ⟨H7,I7,q7⟩:=q_
   have keepIt:∀ {σ8:St} {H8:Hp} {s8:Shared},Inv (blk X N' s2 H2 (compEnvC scope cl (s2.heap.objs.size+1) X.env) fp pins) ([(s2.heap.objs.size,({ cls:=.type "list",data:=.seq its.toArray nn }:Obj))]++zht fp s5.heap) σ8 H8 s8 →
     tn (i+1) s8.heap/\∀ b∈fp,H8 b=none:=λ{σ8 H8 s8} I8=>by
    refine ⟨T.keep _ _ _ st5 λb hb o e=>(I8.pin (b,o) (List.mem_append_right _ (List.mem_append_right _ (zcN hb e)))).1,λb hb=>?_⟩;obtain ⟨o,e,d⟩:=T.obj _ _ st5 b hb;exact (I8.pin (b,o) (List.mem_append_right _ (List.mem_append_right _ (zcN hb e)))).2.1
   cases ok with
   | false=>
    simp only [Bool.false_eq_true,if_false] at q7 ⊢;obtain ⟨m',hm',w7⟩:=q7;obtain ⟨k1,k2⟩:=keepIt I7;exact ⟨m',hm',i+1,vs,H7,its,nn,zin hcell hN hlen hcl1 hcl2 I2 f2 I7.unpinned,k1,k2,rv,w7⟩
   | true=>
    simp only [if_true] at q7 ⊢;refine wpAny_mono (he _ s7 σ6 H7 _ I7 q7) (λy s8 q_=>?_) λ_ _ z=>nx z;obtain ⟨vy,H8,I8,r8,m',hm',w8⟩:=q_;obtain ⟨k1,k2⟩:=keepIt I8;obtain ⟨ea,na,nl,nf,nd⟩:=I8.unpinned.pin (s2.heap.objs.size,_) (List.mem_append_right _ (List.mem_singleton.mpr rfl));have hl:=rv.length
    refine call_meets F.slot_list_append ⟨_,ea,rfl⟩ F.entry_list_append (F.args_list_append_2 _ _) (PySem.list_append s2.heap.objs.size its.toArray nn y (by rw [List.size_toArray];omega)) ⟨ea,?_⟩
    have J8:=zin hcell hN hlen hcl1 hcl2 I2 f2 (I8.unpinned);have J8':Inv (blk X N' s2 H2 (compEnvC scope cl (s2.heap.objs.size+1) X.env) fp pins) [] (clrS own σ) H8 s8:=J8.pins_of λp hp=>absurd hp (by simp);have up:=Heap.get?_update_self (Obj.mapSeq λx_1=>x_1.push y) ea rfl;obtain ⟨n',en⟩:∃ n',Obj.mapSeq (λx_1=>x_1.push y) ({ cls:=.type "list",data:=.seq its.toArray nn }:Obj)={ cls:=.type "list",data:=.seq (its.toArray.push y) n' }:=⟨_,rfl⟩
    have J9:=J8'.turned (t':=s8.toks) (it:=s2.heap.objs.size) (h':=s8.heap.update s2.heap.objs.size (Obj.mapSeq λx_1=>x_1.push y)) (λb o hb e=>(Heap.get?_update_other _ _ (Ne.symm hb)).trans e) na nl (.inr (Nat.le_refl _))
     (fun x c e=>by
      obtain ⟨v,z⟩:=I2.cell x c (hcl1 x c e)
      exact Nat.ne_of_lt z.lt)
     (fun p hp=>by
      have hp':p∈X.pn++pins:=by simpa [blk] using hp
      exact Nat.ne_of_lt (Heap.lt_size (I2.pin p hp').1))
    refine ⟨m',hm',i+1,vs++[vy],H8,its++[y],n',?_,T.keep _ _ _ k1 λb hb o e=>(Heap.get?_update_other _ _ (accne b hb)).trans e,k2,rv.append (.cons r8 .nil),w8⟩;refine J9.pins_of λp hp=>?_
    have ep:p=(s2.heap.objs.size,({ cls:=.type "list",data:=.seq (its++[y]).toArray n' }:Obj)):=by simpa using hp
    subst ep;refine ⟨?_,na,nl,nf,λv q=>by cases q⟩;show (s8.heap.update s2.heap.objs.size (Obj.mapSeq λx_1=>x_1.push y)).get? s2.heap.objs.size=_;rw [up];show some (Obj.mapSeq (λx_1=>x_1.push y) ({ cls:=.type "list",data:=.seq its.toArray nn }:Obj))=_;rw [en];simp
 exact codeAny_compStart_list loop (T.self _ 0 _ _ _ st4 loop)
end
section
variable {X:Cx}
structure zjs (X:Cx) (scope:Scope) (N':List Str) (own:List Nat):Prop where
 kind:scope.kind=.function
 cell:∀ y∈scope.names,y.2≠.cell
 names:∀ x∈scope.names,x.2=.local->scope.names.lookup x.1=some .local
 free:∀ x∈scope.names,x.2=.free->X.env.kindOf x.1=some .cell\/X.env.kindOf x.1=some .free
 slots:∀ (i:Nat) (x:Str),N'[i]?=some x->Vis (relabel scope X.env) x->i∈own\/(X.N[i]?=some x/\(X.env.kindOf x=some .cell\/X.env.kindOf x=some .free)/\(relabel scope X.env).names.lookup x≠some .local)
 len:N'.length=X.N.length
theorem Gone.turned (g:Gone X pins H C s) (I:Inv X pins σ H s) (sb:Heap.SameBut C s.heap h'):Inv X pins σ H { s with heap:=h' }:=
 I.turned (t':=s.toks) (λb o hb e=>(sb.2 b hb).trans e) g.free g.loc (.inr g.new) g.cel g.pin
theorem znx
  (hx:X.xe=λ_ _=>False) (hc:X.calm=true) (K:zjs X scope N' own) (hi:PI X tg iter wi)
  (hB:∀ cl pins s₂ H₂ C fp,PG (blk X N' s₂ H₂ (compEnvC scope cl C X.env) fp pins) tg g/\PTs (blk X N' s₂ H₂ (compEnvC scope cl C X.env) fp pins) ifs tc/\PE (blk X N' s₂ H₂ (compEnvC scope cl C X.env) fp pins) elt te)
  (hs:∀ x,foldedSetIterable iter X.env x=pure x):PE X (.ListComp elt [⟨tg,iter,ifs,0⟩] scope pos) (zkt wi own g tc te):=by
 intro pins s σ H Q I q;obtain ⟨cl,hclos,hcl1,hcl2⟩:=zdU (scope:=scope) (env:=X.env) (λx hx hf=>I.ok.has x.1 (K.free x hx hf));rw [eval_ListComp];refine wpAny_comprehension_free (use:=none) rfl hs hclos K.kind K.names (zim hx hc K.kind K.cell K.slots K.len hcl1 hcl2 hi (hB cl pins) I q ?_);intro a C s' H' I' q' gn;obtain ⟨m,hm⟩:=gn.ns;exact ⟨m,hm,λh' sb=>⟨.ref a,H',gn.turned I' sb,rfl,q'⟩⟩
theorem ziH
  (hx:X.xe=λ_ _=>False) (hc:X.calm=true) (K:zjs X scope N' own) (hi:PI X tg iter wi)
  (hB:∀ cl pins s₂ H₂ C fp,PG (blk X N' s₂ H₂ (compEnvC scope cl C X.env) fp pins) tg g/\PTs (blk X N' s₂ H₂ (compEnvC scope cl C X.env) fp pins) ifs tc/\PE (blk X N' s₂ H₂ (compEnvC scope cl C X.env) fp pins) elt te)
  (hs:∀ x,foldedSetIterable iter X.env x=pure x) (hsw:swapsWith (.ListComp elt [⟨tg,iter,ifs,0⟩] scope pos) (some (.Name y py)) spos.line X.env=pure true)
  (hg:PG X (.Name y py) (zlE iy)):PS X (.Assign [.Name y py] (.ListComp elt [⟨tg,iter,ifs,0⟩] scope pos) spos) (tAsg (zkt wi own g tc te) (zlE iy)):=by
 intro pins s σ H D I q;obtain ⟨cl,hclos,hcl1,hcl2⟩:=zdU (scope:=scope) (env:=X.env) (λx hx hf=>I.ok.has x.1 (K.free x hx hf));rw [exec_Assign_Name_used _ _ _ _ hsw];refine wpAny_bind (wpAny_standAt (wpAny_bind ?_));show wpAny _ X.A (do let _<-comprehension (.ListComp elt [⟨tg,iter,ifs,0⟩] scope pos) scope X.env _ (newList []) false (eval iter X.env) (some (assign (.Name y py) X.env))) _ _ s
 refine wpAny_bind (wpAny_mono (wpAny_comprehension_free (use:=some (assign (.Name y py) X.env)) (Q:=λ_ s'=>SP X pins D .next s') rfl hs hclos K.kind K.names
  (zim hx hc K.kind K.cell K.slots K.len hcl1 hcl2 hi (hB cl pins) I q ?_)) (λ_ s' hq=>wpAny_pure (wpAny_pure hq)) λ_ _ e=>e)
 intro a C s' H' I' q' gn;obtain ⟨m,o,es,ep,ho,hd,hr⟩:=id gn.ns
 have Ip:Inv X (pins++[(C,o)]) σ H' s':=I'.pins_of λp hp=>(List.mem_append.mp hp).elim (λz=>I'.pin p (List.mem_append_right _ z)) λz=>by
  have ep:p=(C,o):=by simpa using z
  subst ep
  exact ⟨ho,gn.free,gn.loc,gn.fs,λv z=>by rw [hd] at z;cases z⟩
 refine thn (hg _ s' σ H' (.ref a) (.ref a) _ Ip rfl q') λ_ s'' q_=>?_;obtain ⟨σ2,H2,I2,q2⟩:=q_;obtain ⟨e1,e2,_,_,_⟩:=I2.pin (C,o) (List.mem_append_right _ (List.mem_append_right _ (List.mem_singleton.mpr rfl)));have gn2:Gone X pins H2 C s'':=⟨⟨m,o,es,ep,e1,hd,hr⟩,e2,gn.loc,gn.fs,gn.new,gn.cel,gn.pin⟩;exact ⟨m,⟨o,es,ep,e1,hd,hr⟩,λh' sb=>⟨σ2,H2,gn2.turned I2.unpinned sb,q2⟩⟩
theorem RepE.clr:∀ (own:List Nat) {env:IT.Env} {σ:St},RepE K μ h H env σ->RepE K μ h H (clr own env) (clrS own σ)
 | [],env,σ,q=>q
 | i::r,env,σ,q=>by
  refine RepE.clr r ⟨by simp [q.len],λj rr e=>?_⟩
  by_cases hj:j=i
  ·subst hj
   rw [List.getElem?_set] at e;simp only [if_true] at e
   split at e<;>cases e
  ·rw [List.getElem?_set_ne (Ne.symm hj)] at e ⊢
   exact q.get j rr e
structure ElK {α:Type} (K:PySem.W.Frag) (kp:R->M α) (Rel:List Addr->Sto->Hp->α->V->Prop):Prop where
 kp:∀ {μ h H r v d h'},Rep K μ h H->RepR K μ h H r v->kp r h=some (d,h')->Stp μ h H μ h' H/\Rep K μ h' H/\Rel μ h' H d v
 stp:∀ {μ h H μ' h' H' d v},Stp μ h H μ' h' H'->Rep K μ h H->Rel μ h H d v->Rel μ' h' H' d v
noncomputable def zhB {α:Type} (kp:R->M α) (t:Tg) (ft:IT.Env->M Bool) (fe:IT.Env->M R) (σ:IT.Env) (x:Ite):M (Option α):=
 bnd (zas t x (clr t.slots σ)) λσ'=>bnd (ft σ') λb=>if b then bnd (fe σ') λr=>bnd (kp r) λd=>ok (some d) else ok none
noncomputable def tLsG {α:Type} (K:PySem.W.Frag) (Rel:List Addr->Sto->Hp->α->V->Prop) (f:IT.Env->M (List α)):TE:=λσ H Q=>∃ μ h env,Rep K μ h H/\RepE K μ h H env σ/\∃ xs h',f env h=some (xs,h') ∧
 ∀ μ' H' a vs,Stp μ h H μ' h' H'->Rep K μ' h' H'->Paired (Rel μ' h' H') xs vs->H' a=none->Q (.ref a) (upd H' a (.lst vs))
theorem zgn {α β:Type} {F:α->β->Prop}:∀ {xs xs':List α} {ys ys':List β},Paired F xs ys->Paired F xs' ys'->Paired F (xs++xs') (ys++ys')
 | _,_,_,_,.nil,q=>q
 | _,_,_,_,.cons r t,q=>.cons r (zgn t q)
inductive CR {α:Type} (K:PySem.W.Frag) (Rel:List Addr->Sto->Hp->α->V->Prop) (tr:List Ite->M (List α)) (w:Wk) (μ1:List Addr) (h1:Sto) (H1:Hp) (h':Sto) (zs:List α) (i m:Nat) (vs:List V) (H2:Hp):Prop
 | mk (μ2:List Addr) (h2:Sto) (ys rest:List α) (s2:Stp μ1 h1 H1 μ2 h2 H2) (sy2:zaE w.l h1 h2=true) (R2:Rep K μ2 h2 H2) (zy:Paired (Rel μ2 h2 H2) ys vs) (him:i+m=w.xs.length) (hyl:ys.length<=i) (el':tr (w.xs.drop i) h2=some (rest,h')) (eys:ys++rest=zs)
theorem zf9 {α:Type} {K:PySem.W.Frag} {kp:R->M α} {Rel:List Addr->Sto->Hp->α->V->Prop} (el:ElK K kp Rel) {t:Tg} {fi:IT.Env->M Wk} {ft:IT.Env->M Bool} {fe:IT.Env->M R} (hwl:∀ σ h w h',fi σ h=some (w,h')->WlOk w h') {σ:St} {H:Hp} {Q:VK}
  (q:tLsG K Rel (λσ=>bnd (fi σ) λw=>zbd w.l (zhB kp t ft fe σ) w.xs) σ H Q):zkt (tI K fi) t.slots (tGI K t) (tTv K ft) (tE K fe) σ H Q:=by
 obtain ⟨μ,h,env,R0,re,zs,h',e,k⟩:=q;simp only [zab] at e;obtain ⟨w,h1,e1,e2⟩:=e;refine ⟨μ,h,env,R0,re,w,h1,e1,λμ1 H1 J s1 R1 W1 hz=>?_⟩
 refine ⟨CR K Rel (zbd w.l (zhB kp t ft fe env)) w μ1 h1 H1 h' zs,⟨w.xs.length,μ1,h1,[],zs,Stp.refl,zec _ _ (hwl _ _ _ _ e1),R1,.nil,by omega,Nat.le_refl _,by rw [List.drop_zero];exact e2,rfl⟩,?_⟩
 rintro i m vs H2 ⟨μ2,h2,ys,rest,s2,sy2,R2,zy,him,hyl,el',eys⟩
 have hl:=zy.length
 cases hxx:w.xs[i]? with
 | none=>
  have hi':w.xs.length<=i:=by simpa using hxx
  have hi2:i=w.xs.length:=by omega
  subst hi2;rw [List.drop_of_length_le (Nat.le_refl _)] at el';simp only [zbd,zac] at el';obtain ⟨rfl,rfl⟩:=el';rw [List.append_nil] at eys;subst eys;exact .inl ⟨W1.stop μ2 h2 H2 s2 R2 sy2,by omega,λa ha=>k μ2 H2 a vs (s1.trans s2) R2 zy ha⟩
 | some x=>
  have hil:i<w.xs.length:=(List.getElem?_eq_some_iff.mp hxx).1
  have hdrop:w.xs.drop i=x::w.xs.drop (i+1):=by
   rw [List.drop_eq_getElem_cons hil]
   have:=(List.getElem?_eq_some_iff.mp hxx).2
   rw [this]
  rw [hdrop] at el';simp only [zbd] at el';obtain ⟨go,yld⟩:=W1.go μ2 h2 H2 i x s2 R2 sy2 hxx
  cases ef:zhB kp t ft fe env x h2 with
  | none=>rw [ef] at el';cases el'
  | some p=>
   obtain ⟨od,h3⟩:=p;rw [ef] at el';simp only [zhB,zab] at ef;obtain ⟨env4,h4,e4,tt,h5,e5,e6⟩:=ef
   have:=zdV e4
   subst this;refine .inr ⟨go,by omega,λv H' hy=>?_⟩;obtain ⟨sY,RY,zx⟩:=yld v H' hy;refine ⟨μ2,_,clr t.slots env,x,env4,RY,RepE.clr _ ((re.stp (s1.trans s2) R0).stp sY R2),zx,e4,λσ4 re4=>⟨μ2,_,env4,RY,re4,tt,h5,e5,λμ5 H5 b s5' R5 hb=>?_⟩⟩;have s5:=sY.trans s5';subst hb;simp only at el'
   split at el'
   ·rename_i sy3
    simp only [zab,zac] at el';obtain ⟨rest',h6,el'',er,rfl⟩:=el'
    cases tt with
    | false=>
     simp only [Bool.false_eq_true,if_false,zac] at e6 ⊢;obtain ⟨rfl,rfl⟩:=e6;refine ⟨m-1,by omega,μ5,_,ys,rest',s2.trans s5,za4 sy2 sy3,R5,L2.Paired.mapP zy λd v z=>el.stp s5 R2 z,by omega,by omega,el'',?_⟩;rw [<-eys,<-er]
    | true=>
     simp only [if_true,zab,zac] at e6 ⊢;obtain ⟨r,h7,e7,d,h8,e8,rfl,rfl⟩:=e6;refine ⟨μ5,h5,env4,R5,re4.stp s5' RY,r,h7,e7,λμ6 H6 v6 s6 R6 q6=>?_⟩;obtain ⟨s7,R7,zd⟩:=el.kp R6 q6 e8
     refine ⟨m-1,by omega,μ6,_,ys++[d],rest',((s2.trans s5).trans s6).trans s7,za4 sy2 sy3,R7,zgn (L2.Paired.mapP zy λd v z=>el.stp s7 R6 (el.stp s6 R5 (el.stp s5 R2 z))) (.cons zd .nil),by omega,by simp;omega,el'',?_⟩
     rw [<-eys,<-er];simp
   ·cases el'
theorem zvc (K:PySem.W.Frag):ElK K fz (λμ h H d v=>RepD K (Live μ h) H d v):=⟨zn9,λs r q=>RepD.stp s r q⟩
theorem zuU (K:PySem.W.Frag):ElK K zbn (λμ h H l v=>∃ b,μ[l]?=some b/\v=.ref b):=by
 refine ⟨λ{μ h H r v d h'} R0 q e=>?_,λs r ⟨b,e1,e2⟩=>⟨b,s.pre _ _ e1,e2⟩⟩
 cases r with
 | d x=>cases e
 | loc l=>
  (delta zbn at e;(try dsimp only at e))
  split at e
  ·simp only [Option.some.injEq,Prod.mk.injEq] at e
   obtain ⟨rfl,rfl⟩:=e;exact ⟨Stp.refl,R0,q⟩
  ·cases e
theorem zjt:∀ {K:PySem.W.Frag} {A:Addr->Prop} {H:Hp} {xs:List D} {vs:List V},Paired (RepD K A H) xs vs->RepDs K A H xs vs
 | _,_,_,_,_,.nil=>.nil
 | _,_,_,_,_,.cons r t=>.cons r (zjt t)
noncomputable def zsv (t:Tg) (ft:IT.Env->M Bool) (fe:IT.Env->M R) (σ:IT.Env) (x:Ite):M (Option D):=zhB fz t ft fe σ x
theorem zny {t:Tg} {fi:IT.Env->M Wk} (hwl:∀ σ h w h',fi σ h=some (w,h')->WlOk w h') {H:Hp} {Q:VK}
  (q:tLs K (λσ=>bnd (fi σ) λw=>zbd w.l (zsv t ft fe σ) w.xs) σ H Q):zkt (tI K fi) t.slots (tGI K t) (tTv K ft) (tE K fe) σ H Q:=by
 refine zf9 (zvc K) hwl ?_;obtain ⟨μ,h,env,R0,re,zs,h',e,k⟩:=q;exact ⟨μ,h,env,R0,re,zs,h',e,λμ' H' a vs st R1 z ha=>k μ' H' a vs st R1 (zjt z) ha⟩
end
end IT
namespace IT
open PySem PySem.Spec L2
section
variable {X:Cx}
theorem zjw:PS X st (tS X.K λ_ _=>none):=λpins s σ H D I ⟨μ,h,env,R0,re,fl,env',h',e,k⟩=>by cases e
theorem zos:IE X e (λ_ _=>none):=λpins s σ H Q I ⟨μ,h,env,R0,re,r,h',e,k⟩=>by cases e
theorem zog (hp:PassesOwn (model X.prog X.w) X.A X.env X.xe) (hc:IT' X c ft) (hb:PSs X body (tS X.K fb)) (n:Nat) :
  PS X (.While c body [] pos) (tS X.K λσ=>zeC ft fb n σ):=by
 refine PS.imp (zoC hp hc hb) λD σ H q0=>?_;obtain ⟨μ,h,env,R0,re,fl,env',h',e,k⟩:=q0;refine ⟨λm σ2 H2=>∃ μ2 h2 env2,Stp μ h H μ2 h2 H2/\Rep X.K μ2 h2 H2/\RepE X.K μ2 h2 H2 env2 σ2/\zeC ft fb m env2 h2=some ((fl,env'),h'),⟨n,μ,h,env,Stp.refl,R0,re,e⟩,?_⟩
 rintro m σ2 H2 ⟨μ2,h2,env2,s2,R2,re2,e2⟩
 cases m with
 | zero=>cases e2
 | succ m=>
  simp only [zeC,zab] at e2;obtain ⟨t,h3,e3,e4⟩:=e2;refine ⟨μ2,h2,env2,R2,re2,t,h3,e3,λμ3 H3 b s3 R3 hb=>?_⟩;subst hb
  cases t with
  | false=>
   simp only [Bool.false_eq_true,if_false,zac,Prod.mk.injEq] at e4 ⊢;obtain ⟨⟨rfl,rfl⟩,rfl⟩:=e4;exact k μ3 H3 σ2 (s2.trans s3) R3 (re2.stp s3 R2)
  | true=>
   simp only [if_true,zab] at e4 ⊢;obtain ⟨⟨fl5,env5⟩,h5,e5,e6⟩:=e4;refine ⟨λσ' H'=>∃ m',m'<m+1/\∃ μ2 h2 env2,Stp μ h H μ2 h2 H'/\Rep X.K μ2 h2 H'/\RepE X.K μ2 h2 H' env2 σ'/\zeC ft fb m' env2 h2=some ((fl,env'),h'),λσ' H' hN=>hN,?_⟩;refine ⟨μ3,h3,env2,R3,re2.stp s3 R2,fl5,env5,h5,e5,λμ6 H6 σ6 s6 R6 re6=>?_⟩
   cases fl5 with
   | nx=>exact ⟨m,Nat.lt_succ_self _,μ6,h5,env5,(s2.trans s3).trans s6,R6,re6,e6⟩
   | cnt=>exact ⟨m,Nat.lt_succ_self _,μ6,h5,env5,(s2.trans s3).trans s6,R6,re6,e6⟩
   | brk=>
    simp only [zac,Prod.mk.injEq] at e6;obtain ⟨⟨rfl,rfl⟩,rfl⟩:=e6;exact k μ6 H6 σ6 ((s2.trans s3).trans s6) R6 re6
   | ret r=>
    simp only [zac,Prod.mk.injEq] at e6;obtain ⟨⟨rfl,rfl⟩,rfl⟩:=e6;exact k μ6 H6 σ6 ((s2.trans s3).trans s6) R6 re6
theorem zu0 (hg:Gl X "list") (hm:X.mg "list"=none) (he:IE X e f) (hs:starEach [e] X.env=[(false,eval e X.env)]):IL X (.Call (.Name "list" p) [e] [] pos) (λσ=>bnd (f σ) λr=>bnd (rd r) λd=>opt (items d)):=by
 refine PE.imp (zcs zic hg hm PyProof.Rows.boot_list (zbu he zc1 hs) (by decide) (by decide) hs rfl) λσ H Q q0=>?_;obtain ⟨μ,h,env,R0,re,xs,h',e,k⟩:=q0;simp only [zab,zaN] at e;obtain ⟨r,h1,e1,d,h2,e2,e3,rfl⟩:=e;refine ⟨μ,h,env,R0,re,r,h1,e1,λμ1 H1 v s1 R1 q1=>?_⟩;obtain ⟨rfl,z⟩:=zbE R1 q1 e2
 cases d with
 | tup ys=>
  simp only [RdD,RepD] at z;obtain ⟨a,vs,rfl,q,zs⟩:=z;simp only [items,Option.some.injEq] at e3;subst e3;exact ⟨a,vs,rfl,.inr q,λl hl=>k μ1 H1 l vs s1 R1 zs hl⟩
 | lst ys=>
  obtain ⟨a,vs,rfl,q,zs⟩:=z;simp only [items,Option.some.injEq] at e3;subst e3;exact ⟨a,vs,rfl,.inl q,λl hl=>k μ1 H1 l vs s1 R1 zs hl⟩
 | _=>simp [items] at e3
theorem ztw (ha:IE X a f) (hb:IE X b g):IL X (.BinOp a .Add b pos) (λσ=>bnd (f σ) λx=>bnd (g σ) λy=>bnd (rd x) λx=>bnd (rd y) λy=>opt (catD x y)):=by
 refine PE.imp (ztR zmw ha hb) λσ H Q q0=>?_;obtain ⟨μ,h,env,R0,re,xs,h',e,k⟩:=q0;simp only [zab,zaN] at e;obtain ⟨x,h1,e1,y,h2,e2,dx,h3,e3,dy,h4,e4,e5,rfl⟩:=e;refine ⟨μ,h,env,R0,re,x,h1,e1,λμ1 H1 v s1 R1 q1=>⟨μ1,h1,env,R1,re.stp s1 R0,y,h2,e2,λμ2 H2 u s2 R2 q2=>?_⟩⟩;obtain ⟨rfl,zx⟩:=zbE R2 (q1.stp s2 R1) e3;obtain ⟨rfl,zy⟩:=zbE R2 q2 e4
 cases dx with
 | lst xs1=>
  cases dy with
  | lst xs2=>
   (delta catD at e5;(try dsimp only at e5))
   split at e5
   ·rename_i hf
    cases e5;obtain ⟨p,vs,rfl,q1,z1⟩:=zx;obtain ⟨p',vs',rfl,q2,z2⟩:=zy;have l1:=z1.length;have l2:=z2.length;have hlen:xs1.length+xs2.length<=sizeLine:=of_decide_eq_true hf;exact ⟨p,p',vs,vs',rfl,rfl,q1,q2,by omega,λr hr=>k μ2 H2 r _ (s1.trans s2) R2 (z1.app z2) hr⟩
   ·cases e5
  | _=>exact zae e5
 | _=>cases dy<;>exact zae e5
section
variable {prog:Program} {w:World} {A:Around} {R:Result->Shared->Prop} {I:Addr} {fp wr:List Addr} {n:Nat} {P:Nat->Value->Prop} {St:Nat->Heap->Prop} {Hs:Shared->Prop}
end
end
noncomputable def tyS:Ty->String
 | .int=>"int"
 | .str=>"str"
 | .bool=>"bool"
 | .list=>"list"
 | .tuple=>"tuple"
section
variable {K:PySem.W.Frag}
theorem zrn (t:Ty):PySem.W.kitOne K (.type "NoneType") (.type (tyS t))=some (isiD t .non):=by cases t<;>rfl
theorem ztN (t:Ty) (b:Bool):PySem.W.kitOne K (.type "bool") (.type (tyS t))=some (isiD t (.bl b)):=by cases t<;>rfl
theorem zrS (t:Ty) (i:Int):PySem.W.kitOne K (.type "int") (.type (tyS t))=some (isiD t (.int i)):=by cases t<;>rfl
theorem zqp (t:Ty) (x:List Nat):PySem.W.kitOne K (.type "str") (.type (tyS t))=some (isiD t (.str x)):=by cases t<;>rfl
theorem zq3 (t:Ty) (x:List D):PySem.W.kitOne K (.type "tuple") (.type (tyS t))=some (isiD t (.tup x)):=by cases t<;>rfl
theorem zrG (t:Ty) (x:List D):PySem.W.kitOne K (.type "list") (.type (tyS t))=some (isiD t (.lst x)):=by cases t<;>rfl
end
section
variable {X:Cx}
theorem znX (t:Ty):zdX X (.builtin "isinstance") (λvs H Q=>∃ A d v,RdD X.K A H d v/\vs=[v,.ty (tyS t)]/\Q (.bl (isiD t d)) H):=by
 intro pins s σ H vs us Q I r q;obtain ⟨A,d,v,qd,rfl,q⟩:=q
 cases r with
 | cons r1 r=>
  cases r with
  | cons r2 r=>
   cases r;rename_i u1 u2;have e2:u2=Value.type (tyS t):=r2;subst e2;have fin:∀ tk:Nat,EP X pins σ Q (.bool (isiD t d)) { s with toks:=tk }:=λtk=>⟨.bl (isiD t d),H,I.tok tk,rfl,q⟩
   cases d with
   | non=>
    simp only [RdD,RepD] at qd;subst qd
    have e1:u1=Value.none:=r1;subst e1;exact PySem.W.kia_one PySem.W.kitx_none I.kIn True.intro (zrn t) (λz=>nomatch z) fin
   | bl b=>
    simp only [RdD,RepD] at qd;subst qd
    have e1:u1=Value.bool b:=r1;subst e1;exact PySem.W.kia_one PySem.W.kitx_bool I.kIn True.intro (ztN t b) (λz=>nomatch z) fin
   | int i=>
    simp only [RdD,RepD] at qd;subst qd
    obtain ⟨t',e1⟩:=(show ∃ t',u1=Value.int i t' from r1);subst e1;exact PySem.W.kia_one PySem.W.kitx_int I.kIn True.intro (zrS t i) (λz=>nomatch z) fin
   | str x=>
    simp only [RdD,RepD] at qd;subst qd
    obtain ⟨t',e1⟩:=(show ∃ t',u1=Value.str (zaj x) t' from r1);subst e1;exact PySem.W.kia_one PySem.W.kitx_str I.kIn True.intro (zqp t x) (λz=>nomatch z) fin
   | tup xs=>
    simp only [RdD,RepD] at qd;obtain ⟨a,ws,rfl,q1,_⟩:=qd;have e1:u1=Value.ref a:=r1;subst e1;obtain ⟨its,ri,⟨o,h1,h2,_⟩,hz⟩:=I.tuple q1;exact PySem.W.kia_one PySem.W.kitx_tuple I.kIn ⟨o,h1,h2⟩ (zq3 t xs) (λz=>nomatch z) fin
   | lst xs=>
    obtain ⟨a,ws,rfl,q1,_⟩:=qd;have e1:u1=Value.ref a:=r1;subst e1;obtain ⟨its,ri,⟨o,n,h1,h2,_⟩,hz⟩:=I.list q1;exact PySem.W.kia_one PySem.W.kitx_list I.kIn ⟨o,h1,h2⟩ (zrG t xs) (λz=>nomatch z) fin
theorem zqQ (t:Ty):bootBuiltins (Str.ofString (tyS t))=some (.type (tyS t)):=by cases t<;>decide +kernel
theorem zul (hg:Gl X "isinstance") (hm:X.mg "isinstance"=none) (he:IE X e f) (hx:x=Str.ofString (tyS t)) (hg2:Gl X x) (hm2:X.mg x=none) (hs:starEach [e,.Name x p2] X.env=[(false,eval e X.env),(false,eval (.Name x p2) X.env)]) :
  IE X (.Call (.Name "isinstance" p) [e,.Name x p2] [] pos) (λσ=>bnd (f σ) λr=>bnd (rd r) λd=>ok (.d (.bl (isiD t d)))):=by
 subst hx
 have hn:Str.ofString (tyS t) ≠ "__name__":=by cases t<;>decide
 have hdb:(Str.ofString (tyS t)==("__debug__":Str))=false:=by cases t<;>decide
 have h2:PE X (.Name (Str.ofString (tyS t)) p2) (tC (.ty (tyS t))):=zre hg2 hm2 (zqQ t) rfl hn hdb;refine PE.imp (zgv (znX t) hg hm PyProof.Rows.boot_isinstance (zbu he (zbu h2 zc1 rfl) hs) (by decide) (by decide) hs rfl) λσ H Q q0=>?_;obtain ⟨μ,h,env,R0,re,r,h',e,k⟩:=q0;simp only [zab,zac] at e;obtain ⟨r1,h1,e1,d,h2',e2,rfl,rfl⟩:=e;refine ⟨μ,h,env,R0,re,r1,h1,e1,λμ1 H1 v s1 R1 q1=>?_⟩;obtain ⟨rfl,z⟩:=zbE R1 q1 e2;exact ⟨_,d,v,z,rfl,k μ1 H1 _ s1 R1 (by simp only [RepR,RepD])⟩
theorem zuL (h:ixn n i=some k):seqIndex? i n=some k:=by
 unfold ixn at h;unfold seqIndex?
 split at h
 ·rename_i h0
  split at h
  ·rename_i h1
   cases h;simp only [if_neg (show ¬ i<0 by omega)]
   rw [if_pos (by simp;omega)]
  ·cases h
 ·rename_i h0
  split at h
  ·rename_i h1
   cases h;simp only [if_pos (show i<0 by omega)]
   rw [if_pos (by simp;omega)]
  ·cases h
theorem RepDs.dropLast (q:RepDs K A H xs vs):RepDs K A H xs.dropLast vs.dropLast:=by
 rw [List.dropLast_eq_take,List.dropLast_eq_take,q.length];exact q.take _
theorem RepDs.eraseIdx (k:Nat) (q:RepDs K A H xs vs):RepDs K A H (xs.eraseIdx k) (vs.eraseIdx k):=by
 rw [List.eraseIdx_eq_take_drop_succ,List.eraseIdx_eq_take_drop_succ];exact (q.take k).app (q.drop (k+1))
theorem znQ (ho:IE X o f) (ha:IA X (e::es) fs) (hname:name=("pop":Str))
  (hbase:attributeBase o name X.env (eval o X.env)=eval o X.env)
  (hfew:((backTo cpos (starEach (e::es) X.env)).all (λx=>!x.1)&&(backToKw cpos (keywordEach [] X.env)).all (λx=>x.1.isSome)
   && decide ((e::es).length+([]:List Keyword).length+(if ([]:List Keyword).isEmpty then 0 else 1)<30))=true)
  (hline:(apos.endLine==cpos.line)=true) (hs:starEach (e::es) X.env=(false,eval e X.env)::starEach es X.env) (hplain:(backTo cpos (starEach es X.env)).any (·.1)=false) :
  IE X (.Call (.Attribute o name apos) (e::es) [] cpos) (λσ=>bnd (f σ) λx=>bnd (zeE x) λ_=>bnd (fs σ) λrs=>meth .popAt x rs):=by
 subst hname;refine PE.imp (znK PySem.F.plainAttrs_list PySem.F.slot_list_pop PySem.F.type_list_pop zoh ho ha hbase hfew hline hs hplain) λσ H Q q0=>?_;obtain ⟨μ,h,env,R0,re,r,h',e,k⟩:=q0;simp only [zab] at e;obtain ⟨x,h1,e1,_,h1',e0,rs,h2,e2,e3⟩:=e;obtain ⟨l,o1,rfl,ho1,il1,rfl⟩:=zee e0;refine ⟨μ,h,env,R0,re,.loc l,_,e1,λμ1 H1 v s1 R1 q1=>?_⟩
 ·skip
  obtain ⟨a,ea,rfl⟩:=q1;obtain ⟨vs1,hH1,z1⟩:=R1.placeL ea ho1 il1;refine ⟨.inl ⟨rfl,vs1,.inl (.inl hH1)⟩,μ1,_,env,R1,re.stp s1 R0,rs,h2,e2,λμ2 H2 ws s2 R2 q2=>?_⟩
  cases q2 with
  | nil=>exact zae e3
  | @cons rr w0 rs' ws' qr q2=>
   cases q2 with
   | cons _ _=>cases rr with
    | loc _=>exact zae e3
    | d dd=>cases dd<;>exact zae e3
   | nil =>
    cases rr with
    | loc _=>exact zae e3
    | d dd =>
     cases dd with
     | int i=>
      simp only [RepR,RepD] at qr;subst qr
      (delta meth at e3;(try dsimp only at e3))
      split at e3
      ·rename_i hb
       rw [Bool.and_eq_true] at hb;have ea2:=s2.pre l a ea;obtain ⟨o3,ho3⟩:=R2.placeO ea2;rw [ho3] at e3
       cases o3 with
       | fro xs=>simp at e3
       | ins _ _=>simp at e3
       | ols _=>simp at e3
       | dfr _=>simp at e3
       | lst xs=>
        obtain ⟨vs3,hH3,z3⟩:=R2.placeL ea2 ho3 rfl;simp only [Ob.items] at z3;simp only at e3
        cases hk:ixn xs.length i with
        | none=>rw [hk] at e3;cases e3
        | some kk=>
         rw [hk] at e3;simp only at e3
         cases hy:xs[kk]? with
         | none=>rw [hy] at e3;cases e3
         | some y=>
          rw [hy] at e3;simp only [Option.some.injEq,Prod.mk.injEq] at e3;obtain ⟨rfl,rfl⟩:=e3;obtain ⟨w,hw,zw⟩:=z3.get hy
          refine ⟨a,vs3,i,kk,w,rfl,rfl,hH3,of_decide_eq_true hb.1,of_decide_eq_true hb.2,by rw [<-z3.length];exact zuL hk,hw,?_⟩
          obtain ⟨s4,R4⟩:=write R2 ea2 ho3 (z3.eraseIdx kk);exact k μ2 _ w ((s1.trans s2).trans s4) R4 (zw.stp s4 R2)
      ·cases e3
     | _=>exact zae e3
end
end IT
namespace IT
open PySem PySem.Spec L2
open PySem.StrLaws Builtin.Str
section
variable {X:Cx}
theorem zm2 (ho:IE X o f) (ha:IA X (e::es) fs) (hname:name=("extend":Str))
  (hbase:attributeBase o name X.env (eval o X.env)=eval o X.env)
  (hfew:((backTo cpos (starEach (e::es) X.env)).all (λx=>!x.1)&&(backToKw cpos (keywordEach [] X.env)).all (λx=>x.1.isSome)
   && decide ((e::es).length+([]:List Keyword).length+(if ([]:List Keyword).isEmpty then 0 else 1)<30))=true)
  (hline:(apos.endLine==cpos.line)=true) (hs:starEach (e::es) X.env=(false,eval e X.env)::starEach es X.env) (hplain:(backTo cpos (starEach es X.env)).any (·.1)=false) :
  IE X (.Call (.Attribute o name apos) (e::es) [] cpos) (λσ=>bnd (f σ) λx=>bnd (zeE x) λ_=>bnd (fs σ) λrs=>meth .extend x rs):=by
 subst hname;refine PE.imp (znK PySem.F.plainAttrs_list PySem.F.slot_list_extend PySem.F.type_list_extend zkK ho ha hbase hfew hline hs hplain) λσ H Q q0=>?_;obtain ⟨μ,h,env,R0,re,r,h',e,k⟩:=q0;simp only [zab] at e;obtain ⟨x,h1,e1,_,h1',e0,rs,h2,e2,e3⟩:=e;obtain ⟨l,o1,rfl,ho1,il1,rfl⟩:=zee e0;refine ⟨μ,h,env,R0,re,.loc l,_,e1,λμ1 H1 v s1 R1 q1=>?_⟩
 ·skip
  obtain ⟨a,ea,rfl⟩:=q1;obtain ⟨vs1,hH1,z1⟩:=R1.placeL ea ho1 il1;refine ⟨.inl ⟨rfl,vs1,.inl (.inl hH1)⟩,μ1,_,env,R1,re.stp s1 R0,rs,h2,e2,λμ2 H2 ws s2 R2 q2=>?_⟩
  cases q2 with
  | nil=>exact zae e3
  | @cons rr w rs' ws' qr q2=>
   cases q2 with
   | cons _ _=>exact zae e3
   | nil =>
    (delta meth at e3;(try dsimp only at e3);simp only [zab] at e3)
    obtain ⟨d,h3,e4,e5⟩:=e3;obtain ⟨rfl,zd⟩:=zbE R2 qr e4;have ea2:=s2.pre l a ea
    cases d with
    | lst ys=>
     obtain ⟨b,vs2,rfl,sq,zz⟩:=zd;simp only at e5
     split at e5
     ·rename_i xs hx
      split at e5
      ·rename_i hlen
       simp only [Option.some.injEq,Prod.mk.injEq] at e5;obtain ⟨rfl,rfl⟩:=e5;obtain ⟨vs3,hH3,z3⟩:=R2.placeL ea2 hx rfl
       have hlen':vs3.length+vs2.length<=sizeLine:=by
        have l3:=z3.length;have l2:=zz.length;have h4:xs.length+ys.length<=big:=of_decide_eq_true hlen;have h5:big=sizeLine:=rfl;simp only [Ob.items] at l3;omega
       refine ⟨a,b,vs3,vs2,rfl,rfl,hH3,sq,hlen',?_⟩;obtain ⟨s4,R4⟩:=write R2 ea2 hx (z3.app zz);exact k μ2 _ .non ((s1.trans s2).trans s4) R4 (by simp only [RepR,RepD])
      ·cases e5
     ·cases e5
    | _=>cases e5
theorem zfg {α β:Type} {p:α->Bool} {f:β->Bool}:∀ {xs:List α} {ys:List β},xs.length=ys.length->(∀ (j:Nat) (x:α) (y:β),xs[j]?=some x->ys[j]?=some y->f y=p x)->ys.countP f=xs.countP p
 | [],[],_,_=>rfl
 | [],_::_,h,_=>by simp at h
 | _::_,[],h,_=>by simp at h
 | x::xs,y::ys,h,k=>by
  rw [List.countP_cons,List.countP_cons,zfg (xs:=xs) (ys:=ys) (by simpa using h) (λj x y hx hy=>k (j+1) x y (by simpa using hx) (by simpa using hy)),k 0 x y rfl rfl]
noncomputable def lmI:Lm->String
 | .count=>"list.count"
 | .index=>"list.index"
 | .countT=>"tuple.count"
theorem zuT (hu:X.A.units+64<cLine) (m:Lm):MtR X (lmI m) (λx vs H Q=>∃ μ h xs d v z,Rep X.K μ h H/\RdD X.K (Live μ h) H (.lst xs) x/\vs=[v]/\RdD X.K (Live μ h) H d v/\lmD m (.lst xs) d=some z/\(∀ w,RepD X.K (Live μ h) H z w->Q w H)):=by
 intro pins s σ H x vs v us Q I rx rs q;obtain ⟨μ,h,xs,d,vd,z,R0,qx,rfl,qd,e,k⟩:=q;obtain ⟨p,ws,rfl,sq,zz⟩:=qx;cases rx;obtain ⟨u,rfl,ru⟩:=rs.one;obtain ⟨its,ri,⟨o,n,e1,hc,hdd,hs⟩,hz⟩:=I.list sq;obtain ⟨cls,dd,data,sl⟩:=o;simp only at hc hdd hs;subst hc hdd hs
 have hlen:xs.length=its.length:=by rw [zz.length,ri.length]
 cases m with
 | count=>
  (delta lmD at e;(try dsimp only at e))
  split at e
  ·rename_i hd
   cases e;obtain ⟨f,f1,f2⟩:=zju hu I qd ru (of_decide_eq_true hd) zz ri;refine call_meets F.slot_list_count ⟨_,e1,rfl⟩ F.entry_list_count (F.args_list_count_2 _ _) (SeqAt.list_countAt p its.toArray n none sl u f) ⟨e1,f1,?_⟩
   have ec:(its.toArray.toList.countP f:Nat)=xs.countP λy=>y.eqb d:=by simpa using zfg hlen f2
   rw [ec];exact ⟨.int _,H,I.tok _,⟨_,rfl⟩,k _ (by simp only [RepD])⟩
  ·cases e
 | index=>
  (delta lmD at e;(try dsimp only at e))
  split at e
  ·rename_i hd
   cases hj:xs.findIdx? (λy=>y.eqb d) with
   | none=>rw [hj] at e;cases e
   | some j=>
    rw [hj] at e;cases e;obtain ⟨f,f1,f2⟩:=zju hu I qd ru (of_decide_eq_true hd) zz ri;obtain ⟨jl,j1,j2⟩:=List.findIdx?_eq_some_iff_getElem.mp hj
    have fa:∀ (i:Nat) (hi:i<its.toArray.size),f its.toArray[i]=(xs[i]'(by rw [hlen];simpa using hi)).eqb d:=by
     intro i hi
     have hi2:i<its.length:=by simpa using hi
     exact f2 i _ _ (List.getElem?_eq_getElem (by rw [hlen];exact hi2)) (by simp)
    refine call_meets F.slot_list_index ⟨_,e1,rfl⟩ F.entry_list_index (F.args_list_index_2 _ _) (SeqAt.list_indexAt p its.toArray n none sl u f j (by simp;omega) ?_ ?_ ?_) ⟨e1,f1,?_⟩
    ·have h5:ws.length<=sizeLine:=hz
     have h6:sizeLine=16777216:=rfl;have h7:=zz.length;omega
    ·rw [fa];exact j1
    ·intro i hi hij
     rw [fa]
     simpa using j2 i hij
    ·exact ⟨.int _,H,I.tok _,⟨_,rfl⟩,k _ (by simp only [RepD])⟩
  ·cases e
 | countT=>exact zae e
noncomputable def lmS:Lm->Str
 | .count=>"count"
 | .index=>"index"
 | .countT=>"count"
theorem zvs (hu:X.A.units+64<cLine) (hnt:m≠.countT) (ho:IE X o f) (he:IE X e g) (hname:name=lmS m)
  (hbase:attributeBase o name X.env (eval o X.env)=eval o X.env)
  (hfew:((backTo cpos (starEach [e] X.env)).all (λx=>!x.1)&&(backToKw cpos (keywordEach [] X.env)).all (λx=>x.1.isSome)
   && decide ([e].length+([]:List Keyword).length+(if ([]:List Keyword).isEmpty then 0 else 1)<30))=true)
  (hline:(apos.endLine==cpos.line)=true) (hs:starEach [e] X.env=[(false,eval e X.env)]) (hplain:(backTo cpos (starEach [] X.env)).any (·.1)=false) :
  IE X (.Call (.Attribute o name apos) [e] [] cpos) (λσ=>bnd (f σ) λx=>bnd (rd x) λ_=>bnd (g σ) λy=>bnd (rd x) λx=>bnd (rd y) λy=>bnd (opt (lmD m x y)) λz=>ok (.d z)):=by
 have slot:Slot "list" name (lmI m):=by
  subst hname
  cases m with
  | count=>exact PySem.F.slot_list_count
  | index=>exact PySem.F.slot_list_index
  | countT=>exact absurd rfl hnt
 have hty:typeOf (.builtin (lmI m))=pure (.type "method_descriptor"):=by
  cases m with
  | count=>exact PySem.F.type_list_count
  | index=>exact PySem.F.type_list_index
  | countT=>exact absurd rfl hnt
 refine PE.imp (znK PySem.F.plainAttrs_list slot hty (zuT hu m) ho (zbu he zc1 hs) hbase hfew hline hs hplain) λσ H Q q0=>?_;obtain ⟨μ,h,env,R0,re,r,h',e,k⟩:=q0;simp only [zab,zaN,zac] at e;obtain ⟨x,h1,e1,d1,h1',e0,y,h2,e2,dx,h3,e3,dy,h4,e4,z,h5,⟨e5,rfl⟩,rfl,rfl⟩:=e;refine ⟨μ,h,env,R0,re,x,h1,e1,λμ1 H1 v s1 R1 q1=>?_⟩;obtain ⟨rfl,_⟩:=zbE R1 q1 e0
 have hd:∃ xs,dx=.lst xs:=by
  cases dx with
  | lst xs=>exact ⟨xs,rfl⟩
  | _=>cases m<;>first | exact absurd rfl hnt | exact zae e5
 obtain ⟨xs,rfl⟩:=hd
 have ty:tyV X.K "list" v H1:=by
  cases x with
  | loc l=>
   obtain ⟨a,ea,rfl⟩:=q1;obtain ⟨o1,ho1,il1,_,_⟩:=zfe e0;obtain ⟨vs1,hH1,z1⟩:=R1.placeL ea ho1 il1;exact .inl ⟨rfl,vs1,.inl (.inl hH1)⟩
  | d d0=>
   simp only [rd,zac] at e3;obtain ⟨rfl,rfl⟩:=e3;simp only [RepR,RepD] at q1;obtain ⟨a,ws,rfl,sq,zz⟩:=q1;exact .inl ⟨rfl,ws,sq.sq⟩
 refine ⟨ty,μ1,_,env,R1,re.stp s1 R0,y,h2,e2,λμ2 H2 w s2 R2 q2=>?_⟩;have q1':=RepR.stp s2 R1 q1;obtain ⟨rfl,zx⟩:=zbE R2 q1' e3;obtain ⟨rfl,zy⟩:=zbE R2 q2 e4;exact ⟨μ2,_,xs,dy,w,z,R2,zx,rfl,zy,e5,λu qu=>k μ2 H2 u (s1.trans s2) R2 qu⟩
theorem ztO (hu:X.A.units+64<cLine):MtR X "tuple.count" (λx vs H Q=>∃ μ h xs d v z,Rep X.K μ h H/\RdD X.K (Live μ h) H (.tup xs) x/\vs=[v]/\RdD X.K (Live μ h) H d v/\lmD .countT (.tup xs) d=some z/\(∀ w,RepD X.K (Live μ h) H z w->Q w H)):=by
 intro pins s σ H x vs v us Q I rx rs q;obtain ⟨μ,h,xs,d,vd,z,R0,qx,rfl,qd,e,k⟩:=q;simp only [RdD,RepD] at qx;obtain ⟨p,ws,rfl,sq,zz⟩:=qx;cases rx;obtain ⟨u,rfl,ru⟩:=rs.one;obtain ⟨its,ri,pt,hz⟩:=I.tuple sq;obtain ⟨⟨cls,dd,data,sl⟩,e1,hc,n,hdd⟩:=id pt;simp only at hc hdd;subst hc hdd
 have hlen:xs.length=its.length:=by rw [zz.length,ri.length]
 change (if _=true then _ else _)=some _ at e
 split at e
 ·rename_i hd
  cases e;obtain ⟨f,f1,f2⟩:=zju hu I qd ru (of_decide_eq_true hd) zz ri;refine call_meets F.slot_tuple_count ⟨_,e1,rfl⟩ F.entry_tuple_count (F.args_tuple_count_2 _ _) (SeqAt.tuple_countAt p its.toArray n dd sl u f) ⟨e1,f1,?_⟩
  have ec:(its.toArray.toList.countP f:Nat)=xs.countP λy=>y.eqb d:=by simpa using zfg hlen f2
  rw [ec];exact ⟨.int _,H,I.tok _,⟨_,rfl⟩,k _ (by simp only [RepD])⟩
 ·cases e
theorem ztq (hu:X.A.units+64<cLine) (ho:IE X o f) (he:IE X e g) (hname:name=lmS .countT)
  (hbase:attributeBase o name X.env (eval o X.env)=eval o X.env)
  (hfew:((backTo cpos (starEach [e] X.env)).all (λx=>!x.1)&&(backToKw cpos (keywordEach [] X.env)).all (λx=>x.1.isSome)
   && decide ([e].length+([]:List Keyword).length+(if ([]:List Keyword).isEmpty then 0 else 1)<30))=true)
  (hline:(apos.endLine==cpos.line)=true) (hs:starEach [e] X.env=[(false,eval e X.env)]) (hplain:(backTo cpos (starEach [] X.env)).any (·.1)=false) :
  IE X (.Call (.Attribute o name apos) [e] [] cpos) (λσ=>bnd (f σ) λx=>bnd (rd x) λ_=>bnd (g σ) λy=>bnd (rd x) λx=>bnd (rd y) λy=>bnd (opt (lmD .countT x y)) λz=>ok (.d z)):=by
 have slot:Slot "tuple" name "tuple.count":=by subst hname;exact PySem.F.slot_tuple_count
 refine PE.imp (znK PySem.F.plainAttrs_tuple slot PySem.F.type_tuple_count (ztO hu) ho (zbu he zc1 hs) hbase hfew hline hs hplain) λσ H Q q0=>?_;obtain ⟨μ,h,env,R0,re,r,h',e,k⟩:=q0;simp only [zab,zaN,zac] at e;obtain ⟨x,h1,e1,d1,h1',e0,y,h2,e2,dx,h3,e3,dy,h4,e4,z,h5,⟨e5,rfl⟩,rfl,rfl⟩:=e;refine ⟨μ,h,env,R0,re,x,h1,e1,λμ1 H1 v s1 R1 q1=>?_⟩;obtain ⟨rfl,_⟩:=zbE R1 q1 e0
 have hd:∃ xs,dx=.tup xs:=by
  cases dx with
  | tup xs=>exact ⟨xs,rfl⟩
  | _=>exact zae e5
 obtain ⟨xs,rfl⟩:=hd
 have ty:tyV X.K "tuple" v H1:=by
  cases x with
  | loc l=>
   obtain ⟨o1,ho1,il1,z1,_⟩:=zfe e3;cases z1
  | d d0=>
   simp only [rd,zac] at e3;obtain ⟨rfl,rfl⟩:=e3;simp only [RepR,RepD] at q1;obtain ⟨a,ws,rfl,sq,zz⟩:=q1;exact .inr (.inl ⟨rfl,ws,sq⟩)
 refine ⟨ty,μ1,_,env,R1,re.stp s1 R0,y,h2,e2,λμ2 H2 w s2 R2 q2=>?_⟩;have q1':=RepR.stp s2 R1 q1;obtain ⟨rfl,zx⟩:=zbE R2 q1' e3;obtain ⟨rfl,zy⟩:=zbE R2 q2 e4;exact ⟨μ2,_,xs,dy,w,z,R2,zx,rfl,zy,e5,λu qu=>k μ2 H2 u (s1.trans s2) R2 qu⟩
end
end IT
namespace PySem
open Sem (wp)
open Builtin
section
variable {prog:Program} {w:World} {A:Around} {E:Value->Shared->Prop} {s:Shared}
end
section
variable {prog:Program} {w:World} {K:Type} [DecidableEq K] {knd:KeyKind prog w K} {A:Around} {E:Value->Shared->Prop} {R:Result->Shared->Prop}
end
end PySem
namespace IT
open PySem PySem.Spec L2
section
variable {X:Cx}
theorem zlO:zdX X (.type "range") (λxs H Q=>∃ j:Int,xs=[.int j]/\∀ p,H p=none->Q (.ref p) (upd H p (.rng 0 j))):=by
 intro pins s σ H xs us Q I r h;obtain ⟨j,rfl,q⟩:=h;obtain ⟨u,rfl,rx⟩:=zhm r;obtain ⟨t,rfl⟩:=rx;refine call_range_1 ?_;exact ⟨.ref s.heap.objs.size,_,I.laid (o:=.rng 0 j) (λb o e=>Heap.get?_push_of_some _ e) (Nat.le_refl _) ⟨_,_,_,Heap.get?_push_size _ rfl⟩,rfl,q _ (I.hok.fresh (Nat.le_refl _))⟩
theorem zlm:∀ (n:Nat) (lo:Int) (us:List Value),us.length=n->(∀ (j:Nat) (v:Value),us[j]?=some v->∃ t,v=Value.int (lo+j) t)->Vals ((List.range n).map λi:Nat=>V.int (lo+i)) us
 | 0,lo,us,hl,_=>by
  cases us with
  | nil=>exact .nil
  | cons _ _=>simp at hl
 | n + 1,lo,us,hl,h=>by
  cases us with
  | nil=>simp at hl
  | cons u us=>
   rw [List.range_succ_eq_map,List.map_cons,List.map_map];obtain ⟨t,e⟩:=h 0 u rfl
   refine .cons ⟨t,by rw [e];first | done | simp⟩ ?_
   have:=zlm n (lo+1) us (by simpa using hl) λj v e=>by
    obtain ⟨t,e2⟩:=h (j+1) v (by simpa using e);refine ⟨t,?_⟩;rw [e2]
    congr 1
    push_cast
    omega
   have ee:(List.range n).map ((λi:Nat=>V.int (lo+i))∘Nat.succ)=(List.range n).map λi:Nat=>V.int (lo+1+i):=by
    refine List.map_congr_left λi _=>?_;simp only [Function.comp]
    congr 1
    push_cast
    omega
   rw [ee];exact this
theorem zkd {K:PySem.W.Frag} {A:Addr->Prop} {H:Hp}:∀ (n:Nat) (lo:Int),RepDs K A H (za6 lo n) ((List.range n).map λi:Nat=>V.int (lo+i))
 | 0,_=>.nil
 | n+1,lo=>by
  rw [za6,List.range_succ_eq_map,List.map_cons,List.map_map]
  have ee:(List.range n).map ((λi:Nat=>V.int (lo+i))∘Nat.succ)=(List.range n).map λi:Nat=>V.int (lo+1+i):=by
   refine List.map_congr_left λi _=>?_;simp only [Function.comp]
   congr 1
   push_cast
   omega
  rw [ee]
  exact .cons (by simp only [RepD];simp) (zkd n (lo+1))
theorem zgy (hc:X.calm=true):zdX X (.type "list") (λxs H Q=>∃ (p:Addr) (n:Int),xs=[.ref p]/\H p=some (.rng 0 n)/\-(2 ^ 62)<=n/\n<=16777216/\∀ l,H l=none->Q (.ref l) (upd H l (.lst ((List.range n.toNat).map λi:Nat=>V.int (0+i))))):=by
 intro pins s σ H xs us Q I r h;obtain ⟨p,n,rfl,hp,h1,h2,q⟩:=h;obtain ⟨u,rfl,rx⟩:=zhm r;cases rx;obtain ⟨t,u,v,ho⟩:=(show zb2 X.prog X.w H s.heap p (.rng 0 n) from I.hok p _ hp)
 have hn:Builtin.Range.rangeSize 0 n 1=(n.toNat:Int):=by rw [rangeSize_one];split<;>omega
 refine call_list_range (I.ok.hd hc) (show IsRange s.heap p 0 n 1 t u v from ho) (small_one (by omega) (by omega) h1 (by omega)) (n:=n.toNat) (by rw [hn]) (by omega) λh' tk acc c' hk hS hacc=>?_
 have hv:Vals ((List.range n.toNat).map λi:Nat=>V.int (0+i)) acc.toList:=zlm n.toNat 0 acc.toList (by rw [Array.length_toList];exact hacc.1) λj v e=>by
  obtain ⟨t,e2⟩:=hacc.2 j v (by simpa using e)
  exact ⟨t,by rw [e2];simp⟩
 refine ⟨.ref s.heap.objs.size,_,I.laid (t':=tk) (o:=.lst ((List.range n.toNat).map λi:Nat=>V.int (0+i))) hk (Nat.le_refl _) ⟨by simp only [List.length_map,List.length_range];rw [sizeLine_eq];omega,acc.toList,c',hv,by simpa using hS⟩,rfl,q _ (I.hok.fresh (Nat.le_refl _))⟩
theorem zs6 {e:Expr} {p p2 pos2 pos:Pos} {f:IT.Env->M R} (hc:X.calm=true) (hg:Gl X "list") (hm:X.mg "list"=none) (hg2:Gl X "range") (hm2:X.mg "range"=none) (he:IE X e f) (hs:starEach [e] X.env=[(false,eval e X.env)]) :
  IL X (.Call (.Name "list" p) [.Call (.Name "range" p2) [e] [] pos2] [] pos) (λσ=>bnd (f σ) λr=>match r with
  | .d (.int n)=>if decide (-(2 ^ 62)<=n)&&decide (n<=16777216) then ok (za6 0 n.toNat) else λ_=>none
  | _=>λ_=>none):=by
 refine PE.imp (zcs (zgy hc) hg hm PyProof.Rows.boot_list (zbu (zcs zlO hg2 hm2 PyProof.Rows.boot_range (zbu he zc1 hs) (by decide) (by decide) hs rfl) zc1)) λσ H Q q0=>?_;obtain ⟨μ,h,env,R0,re,xs,h',e,k⟩:=q0;simp only [zab] at e;obtain ⟨r,h1,e1,e2⟩:=e;refine ⟨μ,h,env,R0,re,r,h1,e1,λμ1 H1 v s1 R1 q1=>?_⟩
 split at e2
 ·rename_i n
  split at e2
  ·rename_i hb
   simp only [zac] at e2;obtain ⟨rfl,rfl⟩:=e2;simp only [Bool.and_eq_true] at hb;simp only [RepR,RepD] at q1;subst q1;refine ⟨n,rfl,λl1 hl1=>⟨l1,n,rfl,zao,of_decide_eq_true hb.1,of_decide_eq_true hb.2,λl hl=>?_⟩⟩;have sF:Stp μ1 h1 H1 μ1 h1 (upd H1 l1 (.rng 0 n)):=Stp.fresh hl1;exact k μ1 _ l _ (s1.trans sF) (R1.fresh hl1) (zkd _ _) hl
  ·cases e2
 ·cases e2
end
end IT
namespace IT
open PySem PySem.Spec L2
section
variable {X:Cx}
noncomputable abbrev RelF (K:PySem.W.Frag) (μ:List Addr) (h:Sto) (H:Hp):List (Str×R)->List (Str×V)->Prop:=Paired λp q=>p.1=q.1/\RepR K μ h H p.2 q.2
theorem zfp:∀ {fs:List (Str×R)} {fs':List (Str×V)} {f:Str} {r:R},RelF K μ h H fs fs'->fs.lookup f=some r->∃ v,fs'.lookup f=some v/\RepR K μ h H r v
 | _,_,_,_,.nil,e=>by simp at e
 | _,_,f,r,.cons (a:=a) (b:=b) ⟨q1,q2⟩ t,e=>by
  rw [List.lookup_cons] at e ⊢;rw [<-q1]
  split at e
  ·rename_i hb
   cases e;exact ⟨b.2,rfl,q2⟩
  ·exact zfp t e
theorem ze6:∀ {fs:List (Str×R)} {fs':List (Str×V)} {f:Str},RelF K μ h H fs fs'->fs.lookup f=none->fs'.lookup f=none
 | _,_,_,.nil,e=>rfl
 | _,_,f,.cons (a:=a) (b:=b) ⟨q1,q2⟩ t,e=>by
  rw [List.lookup_cons] at e ⊢;rw [<-q1]
  split at e
  ·cases e
  ·exact ze6 t e
theorem zkk {v:V} (q:RepR K μ h H r v):∀ {fs:List (Str×R)} {fs':List (Str×V)},RelF K μ h H fs fs'->RelF K μ h H (IT.putF f r fs) (L2.putF f v fs')
 | _,_,.nil=>.cons ⟨rfl,q⟩ .nil
 | _,_,.cons (a:=a) (b:=b) ⟨q1,q2⟩ t=>by
  obtain ⟨g,x⟩:=a;obtain ⟨g',y⟩:=b;simp only at q1 q2;subst q1;simp only [IT.putF,L2.putF]
  split
  ·exact .cons ⟨rfl,q⟩ t
  ·exact .cons ⟨rfl,q2⟩ (zkk q t)
theorem zms:∀ {fs:List (Str×R)} {p:Str×R},p∈IT.putF f r fs->p.1=f\/p∈fs
  | [],p,h=>by simp [IT.putF] at h;exact .inl (by rw [h])
  | (g, x)::fs,p,h=>by
    simp only [IT.putF] at h
    split at h
    · rename_i e
      rcases List.mem_cons.mp h with rfl | h
      · exact .inl e
      · exact .inr (List.mem_cons_of_mem _ h)
    · rcases List.mem_cons.mp h with rfl | h
      · exact .inr List.mem_cons_self
      · rcases zms h with e | e
        · exact .inl e
        · exact .inr (List.mem_cons_of_mem _ e)
theorem zdp:∀ {fs:List (Str×R)},fs.lookup f=some r->(f,r)∈fs
 | [],e=>by simp at e
 | p::l,e=>by
  rw [List.lookup_cons] at e
  split at e
  ·rename_i h
   have h:=eq_of_beq h;cases e;rw [h];exact List.mem_cons_self
  ·exact List.mem_cons_of_mem _ (zdp e)
theorem ztE {pos:Pos} (ho:IE X o g) (hb:attributeBase o f X.env (eval o X.env)=eval o X.env):IE X (.Attribute o f pos) (λσ=>bnd (g σ) λx=>getA x f):=by
 refine PE.imp (zs2 ho hb) λσ H Q q0=>?_;obtain ⟨μ,h,env,R0,re,r,h',e,k⟩:=q0;simp only [zab] at e;obtain ⟨x,h1,e1,e2⟩:=e;refine ⟨μ,h,env,R0,re,x,h1,e1,λμ1 H1 v s1 R1 q1=>?_⟩
 cases x with
 | d d=>cases e2
 | loc l=>
  obtain ⟨a,ea,rfl⟩:=q1
  (delta getA at e2;(try dsimp only at e2))
  cases ho1:h1[l]? with
  | none=>rw [ho1] at e2;cases e2
  | some ob=>
   rw [ho1] at e2
   cases ob with
   | ins c fs=>
    simp only at e2
    cases el:fs.lookup f with
    | none=>rw [el] at e2;cases e2
    | some r1=>
     rw [el] at e2;simp only [Option.some.injEq,Prod.mk.injEq] at e2;obtain ⟨rfl,rfl⟩:=e2;obtain ⟨C,dx,fs',⟨_,cl,na⟩,eH,rel⟩:=R1.obj l a _ ea ho1;obtain ⟨w,ew,qw⟩:=zfp rel el;exact ⟨a,C,dx,fs',w,rfl,eH,cl,na _ (zdp el),ew,k μ1 H1 w s1 R1 qw⟩
   | _=>cases e2
theorem zjL (q:RelF K μ h H fs fs'):fs.length=fs'.length:=Paired.length q
theorem zp3 {c f:Str} {fs:List (Str×R)} {fs':List (Str×V)} {r:R} {v:V} (R0:Rep K μ h H) (ea:μ[l]?=some a) (ho:h[l]?=some (.ins c fs))
  (hC:PySem.W.nsIn K mainGlobals c=some (some (.ref C))/\Cls K C/\∀ p∈fs,zbR K C p.1) (hn:zbR K C f) (rel:RelF K μ h H fs fs') (q:RepR K μ h H r v) :
  Stp μ h H μ (h.set l (.ins c (IT.putF f r fs))) (upd H a (.ins C dx (L2.putF f v fs')))/\Rep K μ (h.set l (.ins c (IT.putF f r fs))) (upd H a (.ins C dx (L2.putF f v fs'))):=
 zpM R0 ea ho rfl λst=>⟨C,dx,_,⟨hC.1,hC.2.1,λp hp=>by
  rcases zms hp with e | e
  ·rw [e];exact hn
  ·exact hC.2.2 p e⟩,zao,L2.Paired.mapP (zkk q rel) λp q' ⟨z1,z2⟩=>⟨z1,RepR.stp st R0 z2⟩⟩
theorem zri {pos pos':Pos} (he:IE X e g) (ho:IE X o k0) (hs:swapsWith e (some (.Attribute o f pos')) pos.line X.env=pure false) :
  PS X (.Assign [.Attribute o f pos'] e pos) (tS X.K λσ=>bnd (g σ) λr=>bnd (k0 σ) λx=>bnd (setA x f r) λ_=>ok (.nx,σ)):=by
 refine PS.imp (zp9 ho he hs) λD σ H q0=>?_;obtain ⟨μ,h,env,R0,re,fl,env',h',e,kk⟩:=q0;simp only [zab,zac,Prod.mk.injEq] at e;obtain ⟨r,h1,e1,x,h2,e2,_,h3,e3,⟨rfl,rfl⟩,rfl⟩:=e;refine ⟨μ,h,env,R0,re,r,h1,e1,λμ1 H1 v s1 R1 q1=>⟨μ1,h1,env,R1,re.stp s1 R0,x,h2,e2,λμ2 H2 u s2 R2 q2=>?_⟩⟩
 cases x with
 | d d=>cases e3
 | loc l=>
  obtain ⟨a,ea,rfl⟩:=q2
  (delta setA at e3;(try dsimp only at e3))
  cases ho1:h2[l]? with
  | none=>rw [ho1] at e3;cases e3
  | some ob=>
   rw [ho1] at e3
   cases ob with
   | ins c fs=>
    simp only at e3
    split at e3
    ·rename_i hsome
     simp only [Option.some.injEq,Prod.mk.injEq] at e3;obtain ⟨_,rfl⟩:=e3;obtain ⟨C,dx,fs',hC,eH,rel⟩:=R2.obj l a _ ea ho1;obtain ⟨r0,el⟩:=Option.isSome_iff_exists.mp hsome.1;have hn:zbR X.K C f:=hC.2.2 _ (zdp el)
     have hl:fs'.length<1000:=by rw [<-zjL rel];have:=hsome.2;omega
     obtain ⟨s3,R3⟩:=zp3 (dx:=dx) R2 ea ho1 hC hn rel (q1.stp s2 R1);exact ⟨a,C,dx,fs',rfl,eH,hC.2.1,hn,hl,kk μ2 _ σ ((s1.trans s2).trans s3) R3 (re.stp ((s1.trans s2).trans s3) R0)⟩
    ·cases e3
   | _=>cases e3
theorem zqI (he:IE X e g) (ho:IE X o k0) (hs:swapsWith e (some (.Attribute o f pos')) pos.line X.env=pure false)
  (hn:∀ C,PySem.W.nsIn X.K mainGlobals c=some (some (.ref C))->zbR X.K C f) :
  PS X (.Assign [.Attribute o f pos'] e pos) (tS X.K λσ=>bnd (g σ) λr=>bnd (k0 σ) λx=>bnd (setN x c f r) λ_=>ok (.nx,σ)):=by
 refine PS.imp (zp9 ho he hs) λD σ H q0=>?_;obtain ⟨μ,h,env,R0,re,fl,env',h',e,kk⟩:=q0;simp only [zab,zac,Prod.mk.injEq] at e;obtain ⟨r,h1,e1,x,h2,e2,_,h3,e3,⟨rfl,rfl⟩,rfl⟩:=e;refine ⟨μ,h,env,R0,re,r,h1,e1,λμ1 H1 v s1 R1 q1=>⟨μ1,h1,env,R1,re.stp s1 R0,x,h2,e2,λμ2 H2 u s2 R2 q2=>?_⟩⟩
 cases x with
 | d d=>cases e3
 | loc l=>
  obtain ⟨a,ea,rfl⟩:=q2;simp only [setN] at e3
  cases ho1:h2[l]? with
  | none=>rw [ho1] at e3;cases e3
  | some ob=>
   rw [ho1] at e3
   cases ob with
   | ins c' fs=>
    simp only at e3
    split at e3
    ·rename_i hc
     simp only [Option.some.injEq,Prod.mk.injEq] at e3;obtain ⟨_,rfl⟩:=e3;obtain ⟨rfl,hl⟩:=hc;obtain ⟨C,dx,fs',hC,eH,rel⟩:=R2.obj l a _ ea ho1;have hn:=hn C hC.1
     have hl:fs'.length<1000:=by rw [<-zjL rel];omega
     obtain ⟨s3,R3⟩:=zp3 (dx:=dx) R2 ea ho1 hC hn rel (q1.stp s2 R1);exact ⟨a,C,dx,fs',rfl,eH,hC.2.1,hn,hl,kk μ2 _ σ ((s1.trans s2).trans s3) R3 (re.stp ((s1.trans s2).trans s3) R0)⟩
    ·cases e3
   | _=>cases e3
theorem zhw (hbase:attributeBase o name env (eval o env)=eval o env)
  (hfew:((backTo pos (starEach args env)).all (λx=>!x.1)&&(backToKw pos (keywordEach [] env)).all (λx=>x.1.isSome)
   && decide (args.length+([]:List Keyword).length+(if ([]:List Keyword).isEmpty then 0 else 1)<30))=true)
  (hline:(apos.endLine==pos.line)=true):eval (.Call (.Attribute o name apos) args [] pos) env=(do
   let ov<-eval o env
   standAt apos.atName
   let (f,first)<-holding [ov] (getMethod ov name (do return (<-importBound o env).getD true))
   callWith pos f first (backTo pos (starEach args env)) (backToKw pos (keywordEach [] env))):=by
 rw [arm_eval_Call,hbase];have hform:methodCallForm (args.length+([]:List Keyword).length) (backTo pos (starEach args env)) (backToKw pos (keywordEach [] env))=true:=hfew
 have hpos:methodCallPos true o env apos pos=pure pos:=by unfold methodCallPos;simp [hline]
 unfold methodCall;rw [hform];unfold calleeOf;simp only [if_true,hpos];rfl
structure zmp (X:Cx) (n:Nat) (c m:Str) (np:Nat) (mm:List R->M R):Prop where
 ex:∃ C f fd ps,PySem.W.nsIn X.K mainGlobals c=some (some (.ref C))/\Cls X.K C/\Meth X.K C m f/\FnOk X.prog X.w X.K X.mg X.base CX0 n f fd ps (spF X.K np mm)/\zcp X.K fd ps []
 len:∀ rs h p,mm rs h=some p->rs.length=np
structure zpK (X:Cx) (n:Nat) (c:Str) (np:Nat) (mm:List R->M R):Prop where
 ex:∃ C f fd ps,X.mg c=some (.ref C)/\PySem.W.nsIn X.K mainGlobals c=some (some (.ref C))/\Cls X.K C/\Mk X.K C f/\FnOk X.prog X.w X.K X.mg X.base CX0 n f fd ps (spF X.K np mm)/\zcp X.K fd ps []
 len:∀ rs h p,mm rs h=some p->rs.length=np
theorem zj9 (e:isA x c m h=some (u,h')):∃ l fs,x=.loc l/\h[l]?=some (.ins c fs)/\fs.lookup m=none/\h'=h:=by
 cases x with
 | d _=>cases e
 | loc l=>
  (delta isA at e;(try dsimp only at e))
  cases ho:h[l]? with
  | none=>rw [ho] at e;cases e
  | some ob=>
   rw [ho] at e
   cases ob with
   | ins c' fs=>
    simp only at e
    split at e
    ·rename_i hc
     simp only [Option.some.injEq,Prod.mk.injEq] at e;obtain ⟨rfl,hm⟩:=hc;exact ⟨l,fs,rfl,ho,Option.isNone_iff_eq_none.mp hm,e.2.symm⟩
    ·cases e
   | _=>cases e
theorem zvF {pl:Sem Bool} {g:IT.Env->M R} {fs:IT.Env->M (List R)} (hM:zmp X n c m np mm) (hr:Room n X.A) (ho:IE X o g) (ha:IA X (e::es) fs)
  (hst:starEach (e::es) X.env=(false,eval e X.env)::starEach es X.env) (hpl:(backTo pos (starEach es X.env)).any (·.1)=false)
  (ht:eval (.Call (.Attribute o m apos) (e::es) [] pos) X.env=(do
   let ov<-eval o X.env
   standAt apos.atName
   let (f,first)<-holding [ov] (getMethod ov m pl)
   callWith pos f first (backTo pos (starEach (e::es) X.env)) (backToKw pos (keywordEach [] X.env)))) :
  IE X (.Call (.Attribute o m apos) (e::es) [] pos) (λσ=>bnd (g σ) λx=>bnd (isA x c m) λ_=>bnd (fs σ) λrs=>mm (x::rs)):=by
 obtain ⟨C,f,fd,ps,hc,cl,hm,F,hb⟩:=hM.ex;refine PE.imp (zrx ho cl hm F hr hb .nil zix ha hst hpl ht) λσ H Q q0=>?_;obtain ⟨μ,h,env,R0,re,r,h',ee,k⟩:=q0;simp only [zab] at ee;obtain ⟨x,h1,e1,_,h1',e0,rs,h2,e2,e3⟩:=ee;obtain ⟨l,fs0,rfl,ho1,hnone,rfl⟩:=zj9 e0;refine ⟨μ,h,env,R0,re,.loc l,_,e1,λμ1 H1 v s1 R1 q1=>?_⟩;obtain ⟨a,ea,rfl⟩:=id q1;obtain ⟨C',dx,fs',hC,eH,rel⟩:=R1.obj l a _ ea ho1
 have hCC:C'=C:=by have:=hC.1;rw [hc] at this;cases this;rfl
 subst hCC;refine ⟨a,dx,fs',rfl,eH,ze6 rel hnone,μ1,_,env,R1,re.stp s1 R0,rs,h2,e2,λμ2 H2 ws s2 R2 q2=>?_⟩;have hlen:=hM.len _ _ _ e3
 have qq:zaU X.K μ2 h2 H2 (.loc l::rs) (.ref a::(ws++[])):=.cons ⟨a,s2.pre l a ea,rfl⟩ (by rw [List.append_nil];exact q2)
 exact ⟨by rw [<-qq.length];exact hlen,μ2,h2,.loc l::rs,R2,qq,r,h',e3,λμ3 H3 w s3 R3 q3=>k μ3 H3 w ((s1.trans s2).trans s3) R3 q3⟩
theorem ztI {g:IT.Env->M R} (hM:zmp X n c m np mm) (hr:Room n X.A) (ho:IE X o g)
  (ht:eval (.Call (.Attribute o m apos) [] [] pos) X.env=(do
   let ov<-eval o X.env
   standAt apos.atName
   let (f,first)<-holding [ov] (getMethod ov m pl)
   callWith pos f first (backTo pos (starEach [] X.env)) (backToKw pos (keywordEach [] X.env)))) :
  IE X (.Call (.Attribute o m apos) [] [] pos) (λσ=>bnd (g σ) λx=>bnd (isA x c m) λ_=>bnd (ok []) λrs=>mm (x::rs)):=by
 obtain ⟨C,f,fd,ps,hc,cl,hm,F,hb⟩:=hM.ex;refine PE.imp (zoU ho cl hm F hr hb .nil zix ht) λσ H Q q0=>?_;obtain ⟨μ,h,env,R0,re,r,h',ee,k⟩:=q0;simp only [zab,zac] at ee;obtain ⟨x,h1,e1,_,h1',e0,rs,h2,⟨rfl,rfl⟩,e3⟩:=ee;obtain ⟨l,fs0,rfl,ho1,hnone,rfl⟩:=zj9 e0;refine ⟨μ,h,env,R0,re,.loc l,_,e1,λμ1 H1 v s1 R1 q1=>?_⟩;obtain ⟨a,ea,rfl⟩:=id q1;obtain ⟨C',dx,fs',hC,eH,rel⟩:=R1.obj l a _ ea ho1
 have hCC:C'=C:=by have:=hC.1;rw [hc] at this;cases this;rfl
 subst hCC;refine ⟨a,dx,fs',rfl,eH,ze6 rel hnone,?_⟩;have hlen:=hM.len _ _ _ e3;have qq:zaU X.K μ1 h1' H1 [.loc l] [.ref a]:=.cons ⟨a,ea,rfl⟩ .nil
 exact ⟨by rw [<-hlen];rfl,μ1,_,[.loc l],R1,qq,r,h',e3,λμ3 H3 w s3 R3 q3=>k μ3 H3 w (s1.trans s3) R3 q3⟩
theorem zrC (hM:zpK X n c np mm) (hr:Room (n+1) X.A) (hg:Gl X c) (ha:IA X (e::es) fs)
  (hdb:(c==("__debug__":Str))=false) (hst:starEach (e::es) X.env=(false,eval e X.env)::starEach es X.env) (hpl:(backTo pos (starEach es X.env)).any (·.1)=false) :
  IE X (.Call (.Name c p) (e::es) [] pos) (λσ=>bnd (fs σ) λrs=>bnd (newA c) λx=>bnd (mm (x::rs)) λr=>match r with
   | .d .non=>ok x
   | _=>λ_=>none):=by
 obtain ⟨C,f,fd,ps,hmg,hc,cl,hm,F,hb⟩:=hM.ex;refine PE.imp (zrE hm F hr hg hmg hb .nil zix ha hdb hst hpl) λσ H Q q0=>?_;obtain ⟨μ,h,env,R0,re,r,h',ee,k⟩:=q0;simp only [zab,newA,Option.some.injEq,Prod.mk.injEq] at ee;obtain ⟨rs,h1,e1,x,h2,⟨rfl,rfl⟩,r1,h3,e3,e4⟩:=ee;refine ⟨μ,h,env,R0,re,rs,h1,e1,λμ1 H1 vs s1 R1 q1 a dx na nd ne=>?_⟩;have hlen:=hM.len _ _ _ e3;have sO:Stp μ1 h1 H1 μ1 h1 (upd H1 dx (.own a)):=Stp.fresh nd;have RO:Rep X.K μ1 h1 (upd H1 dx (.own a)):=R1.fresh nd
 have na':upd H1 dx (.own a) a=none:=by rw [zam (Ne.symm ne)];exact na
 have sA:Stp μ1 h1 (upd H1 dx (.own a)) (μ1++[a]) (h1++[.ins c []]) (upd (upd H1 dx (.own a)) a (.ins C dx [])):=Stp.allocO RO na';have RA:Rep X.K (μ1++[a]) (h1++[.ins c []]) (upd (upd H1 dx (.own a)) a (.ins C dx [])):=RO.allocO na' ⟨C,dx,[],⟨hc,cl,by simp⟩,zao,.nil⟩;have sOA:=sO.trans sA
 have hat:(μ1++[a])[h1.length]?=some a:=by rw [<-R1.len];simp
 have qq:zaU X.K (μ1++[a]) (h1++[.ins c []]) (upd (upd H1 dx (.own a)) a (.ins C dx [])) (.loc h1.length::rs) (.ref a::(vs++[])):=.cons ⟨a,hat,rfl⟩ (by rw [List.append_nil];exact q1.stp sOA R1)
 refine ⟨by rw [<-qq.length];exact hlen,_,_,.loc h1.length::rs,RA,qq,r1,h3,e3,λμ3 H3 w s3 R3 q3=>?_⟩
 split at e4
 ·simp only [zac] at e4
  obtain ⟨rfl,rfl⟩:=e4;simp only [RepR,RepD] at q3;exact ⟨q3,k μ3 H3 (.ref a) (s1.trans (sOA.trans s3)) R3 ⟨a,s3.pre _ _ hat,rfl⟩⟩
 ·cases e4
theorem zrb (I:Inv X pins σ H s) (k:∀ b o,b≠e->b≠it->s.heap.get? b=some o->h'.get? b=some o) (fe:FpOk X pins H e) (fi:FpOk X pins H it):Inv X pins σ H { s with heap:=h',toks:=t' }:=by
 obtain ⟨e0,e1,e2,e3,e4,e5⟩:=fe;obtain ⟨i0,i1,i2,i3,i4,i5⟩:=fi
 have ne:∀ b u,H b=some u->b≠e:=λb u q z=>by rw [z,e0] at q;cases q
 have ni:∀ b u,H b=some u->b≠it:=λb u q z=>by rw [z,i0] at q;cases q
 have nc:∀ b,b ∉ [e,it]->b≠e/\b≠it:=λb hb=>⟨λz=>hb (by simp [z]),λz=>hb (by simp [z])⟩
 refine I.step (g':=s.gens) (d':=s.drawn) (ch:=[e,it]) (λb hb=>?_) (λb o _ _ hc q _=>k b o (nc b hc).1 (nc b hc).2 q) (λb o _ _ hc q _=>⟨o.slots,k b o (nc b hc).1 (nc b hc).2 q⟩) (λ_ _ _ _ n=>n)
  (λb o hc q=>⟨o,k b o (nc b hc).1 (nc b hc).2 q⟩) (λ_ _ q=>q) (λ_ _ _ q=>q) (λb ps q=>⟨#[],by rw [q];simp⟩) (λm hm=>?_) (λb u q=>?_) I.bare
 ·rcases List.mem_cons.mp hb with z | z
  ·subst z;exact ⟨e3,e1,e4,e5⟩
  ·have z:b=it:=by simpa using z
   subst z;exact ⟨i3,i1,i4,i5⟩
 ·obtain ⟨o,es,ep,ho,r⟩:=hm
  exact ⟨o,es,ep,k _ o (Ne.symm e1) (Ne.symm i1) ho,r⟩
 ·refine (I.hok b u q).stay (λc v hc q'=>k c v ?_ ?_ q') (λ_ q=>q) λ_ _ q=>q
  ·rcases hc with z | z
   ·rw [z];exact ne b u q
   ·exact ne c _ z
  ·rcases hc with z | z
   ·rw [z];exact ni b u q
   ·exact ni c _ z
theorem zvp {T:Addr} (I:Inv X pins σ H s) (f:FpOk X pins H T) (new:zb2 X.prog X.w (upd H T o) s.heap T o):Inv X pins σ (upd H T o) s:=by
 obtain ⟨f0,f1,f2,f3,f4,f5⟩:=f
 have nT:∀ b u,H b=some u->b≠T:=λb u q z=>by rw [z,f0] at q;cases q
 refine I.step (g':=s.gens) (d':=s.drawn) (t':=s.toks) (h':=s.heap) (ch:=[T]) (λb hb=>?_) (λb o _ _ hc q _=>q) (λb o _ _ hc q _=>⟨o.slots,q⟩) (λb _ hb _ n=>by rw [zam (λz=>hb (by simp [z]))];exact n)
  (λb o hc q=>⟨o,q⟩) (λb _ q=>by rw [zam (nT b _ q)];exact q) (λb _ _ q=>by rw [zam (nT b _ q)];exact q) (λb ps q=>⟨#[],by rw [zam (nT b _ q),q];simp⟩) (λm hm=>hm) (λb u q=>?_) I.bare
 ·have z:b=T:=by simpa using hb
  subst z;exact ⟨f3,f1,f4,f5⟩
 ·by_cases hb:b=T
  ·subst hb;rw [zao] at q;cases q;exact new
  ·rw [zam hb] at q
   exact (I.hok b u q).stay (λc v hc q'=>q') (λc q'=>by rw [zam (nT c _ q')];exact q') λc xs q'=>by rw [zam (nT c _ q')];exact q'
noncomputable def Ien (K:PySem.W.Frag) (a:Addr):L2.It:=⟨(Itl K a).go,λi H v H'=>∃ p x,v=.ref p/\H p=none/\H'=upd H p (.tup [.int i,x])/\∀ xs,SqL K H a xs->xs[i]?=some x,(Itl K a).stop⟩
theorem znc (a e it:Addr) (hne:e≠it):Turn P w K (.Tuple elts x1 tpos) (Ien K a) [e,it] e (λi h=>∃ old,IsEnum h e it i old/\h.IsListIter it a i) where
 mem:=by simp
 obj:=λi h st b hb=>by
  obtain ⟨old,he,hit⟩:=st
  rcases List.mem_cons.mp hb with z | z
  ·subst z;exact ⟨_,he,λv z=>by cases z⟩
  ·have z:b=it:=by simpa using z
   subst z;obtain ⟨o,ho,c,d⟩:=hit
   exact ⟨o,ho,λv z=>by rw [d] at z;cases z⟩
 keep:=λi h h' st k=>by
  obtain ⟨old,he,hit⟩:=st;exact ⟨old,k e (by simp) _ he,hit.at λo q=>k it (by simp) o q⟩
 item:=by
  intro X hP hw hK hc i pins s σ H E I hf st hg;subst hP hw hK;obtain ⟨old,he,hit⟩:=st;obtain ⟨xs,x,hq,hx⟩:=hg;obtain ⟨its,rv,p,hz⟩:=I.list hq;obtain ⟨u,hu,ru⟩:=rv.get hx;have fe:=hf e (by simp);have fi:=hf it (by simp);have fT:FpOk X pins H s.heap.objs.size:=I.fpOk (Nat.le_refl _) (I.hok.fresh (Nat.le_refl _));have lte:e<s.heap.objs.size:=Heap.lt_size he
  have lti:it<s.heap.objs.size:=by obtain ⟨o,ho,_⟩:=id hit;exact Heap.lt_size ho
  refine wpAny_pyNext_enum_item he hit p.isList (x:=u) (by simpa using hu) hne λh1 ho1 hit1 hT hsz hk=>?_;refine ⟨.ref s.heap.objs.size,rfl,wpAny_letOwnedTupleGo_enum (s:={ s with heap:=h1,toks:=s.toks+1 }) ho1 λh2 he2 hs2=>?_⟩;have hk2:∀ b o,b≠e->b≠it->s.heap.get? b=some o->h2.get? b=some o:=λb o hb1 hb2 q=>(hs2.2 b hb1).trans (hk b o hb1 hb2 q);have I1:Inv X pins σ H { s with heap:=h2,toks:=s.toks+1 }:=zrb I hk2 fe fi;have hT2:h2.get? s.heap.objs.size=some { cls:=.type "tuple",data:=.seq #[.int i s.toks,u] }:=(hs2.2 _ (Nat.ne_of_gt lte)).trans hT
  have I2:Inv X pins σ (upd H s.heap.objs.size (.tup [.int i,x])) { s with heap:=h2,toks:=s.toks+1 }:=zvp I1 fT ⟨show 2<=sizeLine by decide,[.int i s.toks,u],.cons ⟨_,rfl⟩ (.cons ru .nil),⟨_,hT2,rfl,_,rfl⟩,λo q=>by
   have q:h2.get? s.heap.objs.size=some o:=q
   rw [hT2] at q;cases q;rfl⟩
  refine ⟨.ref s.heap.objs.size,_,I2,rfl,⟨s.heap.objs.size,x,rfl,fT.1,rfl,λys hy=>by rw [I.list_inj hy hq];exact hx⟩,⟨u,by simpa using he2,hit1.at λo q=>(hs2.2 it (Ne.symm hne)).trans q⟩,λb hb=>?_⟩
  have hb':b≠s.heap.objs.size:=by
   rcases List.mem_cons.mp hb with z | z
   ·rw [z];exact Nat.ne_of_lt lte
   ·have z:b=it:=by simpa using z
    rw [z];exact Nat.ne_of_lt lti
  rw [zam hb'];exact (hf b hb).1
 done:=by
  intro X hP hw hK hc i pins s σ H E I hf st hg;subst hP hw hK;obtain ⟨old,he,hit⟩:=st;obtain ⟨xs,hq,hx⟩:=hg;obtain ⟨its,rv,p,hz⟩:=I.list hq;obtain ⟨f0,f1,f2,f3,f4,f5⟩:=hf it (by simp);have hl:=rv.length
  exact wpAny_pyNext_enum_end (I.ok.hd hc) he hit p.isList (by simp;omega) λh' eb=>⟨rfl,I.turned (t':=s.toks) (λb o hb q=>eb b o hb q) f0 f1 f3 f4 f5⟩
 self:=λ_ _ _ _ _ st h=>by
  obtain ⟨old,he,_⟩:=st;exact wpAny_pyIter_enum he h
theorem zmj:∀ (xs ys:List Ite) (k:Int) (i:Nat) (x:Ite),zat k xs=some ys->ys[i]?=some x->∃ r,xs[i]?=some (.r r)/\x=.en (k+i) r
 | [],ys,k,i,x,e,q=>by simp [zat] at e;subst e;simp at q
 | .en _ _::_,_,_,_,_,e,_=>by simp [zat] at e
 | .r r::t,ys,k,i,x,e,q=>by
  simp only [zat] at e
  cases et:zat (k+1) t with
  | none=>rw [et] at e;cases e
  | some l=>
   rw [et] at e;simp only [Option.some.injEq] at e;subst e
   cases i with
   | zero=>simp at q;subst q;exact ⟨r,rfl,by simp⟩
   | succ i=>
    obtain ⟨r',e1,e2⟩:=zmj t l (k+1) i x et (by simpa using q)
    exact ⟨r',by simpa using e1,by rw [e2];congr 1;push_cast;omega⟩
theorem zi3:∀ (xs ys:List Ite) (k:Int),zat k xs=some ys->ys.length=xs.length
 | [],ys,k,e=>by simp [zat] at e;subst e;rfl
 | .en _ _::_,_,_,e=>by simp [zat] at e
 | .r r::t,ys,k,e=>by
  simp only [zat] at e
  cases et:zat (k+1) t with
  | none=>rw [et] at e;cases e
  | some l=>
   rw [et] at e;simp only [Option.some.injEq] at e;subst e;simp [zi3 t l (k+1) et]
theorem zqJ (W:Wlk K (Itl K a) w μ h H) (e:zat 0 w.xs=some ys):Wlk K (Ien K a) ⟨ys,w.l⟩ μ h H:=by
 refine ⟨λμ1 h1 H1 i x st R1 sy q=>?_,λμ1 h1 H1 st R1 sy=>?_⟩
 ·obtain ⟨r,e1,rfl⟩:=zmj _ _ _ _ _ e q
  obtain ⟨go,yld⟩:=W.go μ1 h1 H1 i _ st R1 sy e1;refine ⟨go,λv H' q_=>?_⟩;obtain ⟨p,x,hv,hp,hH,hx⟩:=q_;subst hv hH;obtain ⟨_,_,zr⟩:=yld x H1 ⟨rfl,hx⟩
  exact ⟨Stp.fresh hp,R1.fresh hp,p,x,rfl,by rw [zao];simp,RepR.stp (Stp.fresh hp) R1 zr⟩
 ·show (Itl K a).stop ys.length H1
  rw [zi3 _ _ _ e];exact W.stop μ1 h1 H1 st R1 sy
theorem ztG (hg:Gl X "enumerate") (hm:X.mg "enumerate"=none) (ha:PA X [l] ta) (hs:starEach [l] X.env=[(false,eval l X.env)]) :
  PI X (.Tuple elts x1 tpos) (.Call (.Name "enumerate" p) [l] [] pos) (λσ H R=>ta σ H λvs H1=>∃ a xs,vs=[.ref a]/\SqL X.K H1 a xs/\(xs.length<=sizeLine->R (Ien X.K a) H1)):=by
 intro pins s σ H R I h;refine PyProof.Rows.Call_ (zie I hg hm PyProof.Rows.boot_enumerate (PyProof.Rows.callWith_type1 (thn (ha pos pins s σ H _ I h) λus s1 q_=>?_) hs rfl));obtain ⟨vs,H1,I1,r1,q1⟩:=q_;obtain ⟨a,xs,rfl,hq,q⟩:=q1;obtain ⟨u,rfl,rx⟩:=zhm r1;cases rx;obtain ⟨its,rv,pl,hz⟩:=I1.list hq;refine call_enumerate_list pl.isList λh' he hit hsz hk=>?_;refine wpAny_pyIter_enum (s:={ s1 with heap:=h' }) he ?_;have I2:Inv X pins σ H1 { s1 with heap:=h' }:=I1.kept (t':=s1.toks) hk;refine ⟨s1.heap.objs.size+1,[s1.heap.objs.size+1,s1.heap.objs.size],_,_,H1,rfl,I2,znc a _ _ (Nat.ne_of_gt (Nat.lt_succ_self _)),⟨.none,he,hit⟩,λb hb=>?_,q hz⟩
 rcases List.mem_cons.mp hb with z | z
 ·subst z;exact I1.fpOk (Nat.le_succ _) (I1.hok.fresh (Nat.le_succ _))
 ·have z:b=s1.heap.objs.size:=by simpa using z
  subst z;exact I1.fpOk (Nat.le_refl _) (I1.hok.fresh (Nat.le_refl _))
theorem zuu (il:isLs r=true) (R1:Rep K μ h H) (q1:RepR K μ h H r v) (e:zbe r h=some (w,h')):h'=h/\∃ a vs,v=.ref a/\SqL K H a vs/\vs.length=w.xs.length/\Wlk K (Itl K a) w μ h H:=by
 (delta zbe at e;simp only [zab] at e)
 obtain ⟨o,h1,e1,e2⟩:=e;obtain ⟨rfl,ho⟩:=zb0 e1
 cases o with
 | some ls=>
  obtain ⟨l,rfl,ho⟩:=ho;obtain ⟨a,ea,rfl⟩:=q1;simp only [zac] at e2;obtain ⟨rfl,rfl⟩:=e2;obtain ⟨vs,q2,z2⟩:=R1.obj l a _ ea ho
  exact ⟨rfl,a,vs,rfl,.inl (.inl q2),by rw [List.length_map];exact z2.length.symm,zlF R1 ea ho⟩
 | none=>
  simp only [zab] at e2;obtain ⟨d,h2,e3,e4⟩:=e2
  cases r with
  | loc l=>
   obtain ⟨a,ea,rfl⟩:=q1;obtain ⟨o,ho,il,rfl,rfl⟩:=zfe e3;obtain ⟨vs,q2,z2⟩:=R1.placeL ea ho il
   (delta wkOf items at e4;(try dsimp only at e4);simp only [zac] at e4)
   obtain ⟨rfl,rfl⟩:=e4
   exact ⟨rfl,a,vs,rfl,.inl (.inl q2),by rw [List.length_map];exact z2.length.symm,zl1 R1 ea ho il⟩
  | d x=>
   simp only [rd,zac] at e3;obtain ⟨rfl,rfl⟩:=e3
   cases x with
   | lst xs=>
    (delta wkOf items at e4;(try dsimp only at e4);simp only [zac] at e4)
    obtain ⟨rfl,rfl⟩:=e4;simp only [RepR,RepD] at q1;obtain ⟨a,vs,rfl,q2,z2⟩:=q1
    exact ⟨rfl,a,vs,rfl,q2.sq,by rw [List.length_map];exact z2.length.symm,zjP R1 q2 z2⟩
   | _=>cases il
theorem zuf (hg:Gl X "enumerate") (hm:X.mg "enumerate"=none) (hl:IE X l f) (hs:starEach [l] X.env=[(false,eval l X.env)]) :
  PI X (.Tuple elts x1 tpos) (.Call (.Name "enumerate" p) [l] [] pos) (tI X.K λσ=>bnd (f σ) λr=>zkH r):=by
 refine PI.imp (ztG hg hm (zbu hl zc1 hs) hs) λσ H R q0=>?_;obtain ⟨μ,h,env,R0,re,w,h',e,k⟩:=q0;simp only [zab] at e;obtain ⟨r,h1,e1,e2⟩:=e;refine ⟨μ,h,env,R0,re,r,h1,e1,λμ1 H1 v s1 R1 q1=>?_⟩;unfold zkH at e2
 split at e2
 ·rename_i il
  simp only [zab] at e2;obtain ⟨w0,h2,e3,e4⟩:=e2;obtain ⟨rfl,a,vs,rfl,q2,hl2,W⟩:=zuu il R1 q1 e3
  cases en:zat 0 w0.xs with
  | none=>rw [en] at e4;cases e4
  | some ys=>
   rw [en] at e4;simp only [zac] at e4;obtain ⟨rfl,rfl⟩:=e4
   exact ⟨a,vs,rfl,q2,λhz=>k μ1 H1 _ s1 R1 (zqJ W en) (by show ys.length<=sizeLine;rw [zi3 _ _ _ en,<-hl2];exact hz)⟩
 ·cases e2
theorem zuj (ha:IE X a f) (hi:IE X i g) (hs:zg8 i):IE X (.Subscript a i pos) (λσ=>bnd (f σ) λx=>bnd (g σ) λy=>bnd (zbF x) λo=>match o,y with
  | some ls,.d (.int k)=>match at' ls k with
   | some l=>ok (.loc l)
   | none=>λ_=>none
  | _,_=>λ_=>none):=by
 refine PE.imp (ztF zl4 ha hi hs) λσ H Q q0=>?_;obtain ⟨μ,h,env,R0,re,r,h',e,k⟩:=q0;simp only [zab] at e;obtain ⟨x,h1,e1,y,h2,e2,o,h3,e3,e4⟩:=e;refine ⟨μ,h,env,R0,re,x,h1,e1,λμ1 H1 v s1 R1 q1=>⟨μ1,h1,env,R1,re.stp s1 R0,y,h2,e2,λμ2 H2 u s2 R2 q2=>?_⟩⟩;obtain ⟨rfl,ho⟩:=zb0 e3
 split at e4
 ·rename_i ls kk
  obtain ⟨l,rfl,ho⟩:=ho;obtain ⟨p,ep,rfl⟩:=q1.stp s2 R1
  cases ea:at' ls kk with
  | none=>rw [ea] at e4;cases e4
  | some j=>
   rw [ea] at e4;simp only [zac] at e4;obtain ⟨rfl,rfl⟩:=e4;obtain ⟨vs,q3,z3⟩:=R2.obj l p _ ep ho;obtain ⟨jj,f1,f2⟩:=zkg ea;obtain ⟨w,f3,b,eb,rfl⟩:=zeb z3 f2;simp only [RepR,RepD] at q2;refine ⟨p,vs,kk,.ref b,rfl,q2,.inl (.inl q3),?_,k μ2 H2 _ (s1.trans s2) R2 ⟨b,eb,rfl⟩⟩;unfold atI;rw [<-z3.length,f1];exact f3
 ·cases e4
theorem zqy (hg:Gl X "len") (hm:X.mg "len"=none) (he:IE X e f) (hs:starEach [e] X.env=[(false,eval e X.env)]):IE X (.Call (.Name "len" p) [e] [] pos) (λσ=>bnd (f σ) λx=>bnd (zbF x) λo=>match o with
  | some ls=>ok (.d (.int ls.length))
  | none=>λ_=>none):=by
 refine PE.imp (zgv zeJ hg hm (by decide +kernel) (zbu he zc1 hs) (by decide) (by decide) hs rfl) λσ H Q q0=>?_;obtain ⟨μ,h,env,R0,re,r,h',e,k⟩:=q0;simp only [zab] at e;obtain ⟨x,h1,e1,o,h2,e2,e3⟩:=e;refine ⟨μ,h,env,R0,re,x,h1,e1,λμ1 H1 v s1 R1 q1=>?_⟩;obtain ⟨rfl,ho⟩:=zb0 e2
 cases o with
 | none=>cases e3
 | some ls=>
  simp only [zac] at e3;obtain ⟨rfl,rfl⟩:=e3;obtain ⟨l,rfl,ho⟩:=ho;obtain ⟨a,ea,rfl⟩:=q1;obtain ⟨vs,q3,z3⟩:=R1.obj l a _ ea ho
  exact ⟨.ref a,vs.length,rfl,.inl ⟨vs,.inl (.inl q3),rfl⟩,k μ1 H1 _ s1 R1 (by simp only [RepR,RepD];rw [z3.length])⟩
end
end IT
namespace IT
open PySem PySem.Spec L2
theorem zsJ {P:Program} {w:World} {H:Hp} {h:Heap} {a:Addr} {o:HO} (x:zb2 P w H h a o):∃ u,h.get? a=some u:=by
 cases o with
 | lst xs=>obtain ⟨_,_,_,_,e⟩:=x;exact ⟨_,e⟩
 | tup xs=>obtain ⟨_,_,_,⟨_,e,_⟩,_⟩:=x;exact ⟨_,e⟩
 | dK kvs=>obtain ⟨_,_,_,_,o,_,_,e,_⟩:=x;exact ⟨_,e⟩
 | dT kvs=>obtain ⟨_,_,_,_,o,_,_,e,_⟩:=x;exact ⟨_,e⟩
 | set S n=>obtain ⟨o,_,_,_,e,_⟩:=x;exact ⟨_,e⟩
 | ins C dx fs=>obtain ⟨_,_,_,e,_⟩:=x;exact ⟨_,e⟩
 | own y=>obtain ⟨_,e⟩:=x;exact ⟨_,e⟩
 | xd fs=>obtain ⟨_,⟨_,_,_,e,_⟩,_⟩:=x;exact ⟨_,e⟩
 | rng lo hi=>obtain ⟨_,_,_,e⟩:=x;exact ⟨_,e⟩
 | frz ob u=>obtain ⟨e,_⟩:=x;exact ⟨_,e⟩
 | tbl ps=>exact ⟨_,(show h.get? a=some _ from x)⟩
 | met f y=>exact ⟨_,(show h.get? a=some _ from x)⟩
 | ext φ=>obtain ⟨_,⟨_,e⟩,_⟩:=x;exact ⟨_,e⟩
theorem zg5 {fs:List Addr} {H0 H1:Hp} {h0 h h':Heap} (u:Un fs [] H0 H1 h0 h) (kp:∀ b o,h0.get? b=some o->b ∉ fs->∀ o',h.get? b=some o'->h'.get? b=some o')
  (sl:∀ b o,h0.get? b=some o->b∈fs->∀ o',h.get? b=some o'->∃ s,h'.get? b=some { o' with slots:=s }):Un fs [] H0 H1 h0 h' where
 keep:=λb o q n hb hx=>kp b o q hb o (u.keep b o q n hb hx)
 slot:=λb o q n hb hx=>by
  obtain ⟨s,e⟩:=u.slot b o q n hb hx;obtain ⟨s',e'⟩:=sl b o q hb _ e;exact ⟨s',e'⟩
 free:=u.free
 there:=λb o q hx=>by
  obtain ⟨o',e⟩:=u.there b o q hx
  by_cases hb:b∈fs
  ·obtain ⟨s',e'⟩:=sl b o q hb _ e
   exact ⟨_,e'⟩
  ·exact ⟨o',kp b o q hb o' e⟩
 tups:=u.tups
 frzs:=u.frzs
 tbls:=u.tbls
theorem zeX {P:Program} {w:World} {H:Hp} {h h':Heap} (x:HOk P w H h) (k:∀ b,(∃ o,H b=some o)->∀ u,h.get? b=some u->h'.get? b=some u):HOk P w H h':=λa o e=>
 (x a o e).stay (λb u hb q=>k b (hb.elim (λz=>⟨o,z▸e⟩) λz=>⟨_,z⟩) u q) (λ_ q=>q) λ_ _ q=>q
structure Fly (P:Program) (w:World) (outer:List PySem.Env) (H:Hp) (s:Shared) (C:Value) (a:Addr) (H':Hp) (s':Shared):Prop where
 os:s'.os=s.os
 bare:PyProof.Rows.AllBare s'.gens
 un:Un (frs outer) [] H H' s.heap s'.heap
 hok:HOk P w H' s'.heap
 fly:∃ (B:Heap) (t:Value),Heap.FlyingW B outer a C t s'.heap/\(∀ b o,s.heap.get? b=some o->b ∉ frs outer->∃ u,B.get? b=some u)/\∀ b o,H' b=some o->∃ u,B.get? b=some u
noncomputable def CXk (P:Program) (w:World):CXT:=λouter H s E e s'=>∃ a C H',e=.ref a/\Fly P w outer H s C a H' s'/\E C none H'
section
variable {X:Cx} {pins:List (Addr×Obj)} {σ:St} {H:Hp} {s s':Shared} {E:XK} {EE:Value->Shared->Prop}
structure zgR (X:Cx):Prop where
 ex:X.ex=[]
 st:X.stack=X.env::X.outer
 fr:X.env.frame=some X.env.locals
theorem zoT (hd:zgR X) (I:Inv X pins σ H s) {b:Addr} {o:Obj} (e:X.s₀.heap.get? b=some o) (hb:b ∉ X.fs):b ∉ frs X.stack:=λz=>by
 rcases List.mem_cons.mp (I.stkSub b z) with q | q
 ·exact absurd (Nat.lt_of_lt_of_le (Heap.lt_size e) I.ok.above) (by rw [q];exact Nat.lt_irrefl _)
 ·exact hb q
theorem zuw (hd:zgR X) {b:Addr} (hb:b∈X.fs):b∈frs X.stack:=by
 rw [hd.st];unfold frs;rw [List.filterMap_cons,hd.fr];exact List.mem_cons_of_mem _ hb
theorem zox (hd:zgR X) (I:Inv X pins σ H s) {h':Heap} {e:Addr} {C:Value} {vs:List Value} (m:Heap.MadeExcOf s.heap h' e C vs) (q:E C none H) :
  wpAny (model X.prog X.w) X.A (leaving X.env (.ref e)) (λ_ s''=>CXk X.prog X.w X.outer X.H₀ X.s₀ E (.ref e) s'') EE { s with heap:=h' }:=by
 have hst:=I.stack
 refine wpAny_leaves_madeW (base:=PySem.W.hideAll s.heap (frs X.stack)) (h:=s.heap) (L:=X.env.locals) (outer:=X.outer) (by rw [I.ok.frames,hd.st]) hd.fr (λb o q=>PySem.W.of_hideAll _ q)
  (by rw [<-hd.st];exact PySem.W.funFrames_hide hst λenv he a hf=>List.mem_filterMap.mpr ⟨env,he,hf⟩) m λh2 t fl tup tn up=>?_
 have kp:∀ b o,s.heap.get? b=some o->b ∉ frs X.stack->h2.get? b=some o:=λb o e hb=>fl.1 b o (PySem.W.hideAll_get _ e hb)
 have sl:∀ b o,b∈frs X.stack->s.heap.get? b=some o->∃ z,h2.get? b=some { o with slots:=z }:=λb o hb e=>by
  obtain ⟨_,o',e',hn⟩:=hst.mem hb;rw [e] at e';cases e';exact up b o (m.keeps b o e) hn
 have b0:=I.base;rw [hd.ex] at b0
 refine ⟨e,C,H,rfl,⟨I.os,I.bare,zg5 b0 (λb o e hb o' e'=>kp b o' e' (zoT hd I e hb)) (λb o e hb o' e'=>sl b o' (zuw hd hb) e'),zeX I.hok (λb ⟨o,ho⟩ u e'=>kp b u e' λz=>by
  rw [I.stkFree b z] at ho;cases ho),_,_,fl,λb o e hb=>?_,λb o ho=>?_⟩,q⟩
 ·obtain ⟨o',e'⟩:=b0.there b o e (by simp)
  exact ⟨o',PySem.W.hideAll_get _ e' (zoT hd I e hb)⟩
 ·obtain ⟨u,e'⟩:=zsJ (I.hok b o ho)
  exact ⟨u,PySem.W.hideAll_get _ e' λz=>by rw [I.stkFree b z] at ho;cases ho⟩
theorem zt3 (hd:zgR X) (I:Inv X pins σ H s) {e:Value} (c:CXk X.prog X.w X.stack H s E e s') :
  wpAny (model X.prog X.w) X.A (leaving X.env e) (λ_ s''=>CXk X.prog X.w X.outer X.H₀ X.s₀ E e s'') EE s':=by
 obtain ⟨a,C,H',rfl,⟨os,bare,un,hok,B,t,fl,k3,k2⟩,q⟩:=c;have I':Inv X pins σ H' s':=I.call' os un hok bare (by simp);have b0:=I.base;have b1:=I'.base;rw [hd.ex] at b0 b1;have fl':=fl;rw [hd.st] at fl';refine wpAny_leaves_onW (by rw [I.ok.frames,hd.st]) hd.fr fl' λh2 fl2 up=>?_;have kp:∀ b u,B.get? b=some u->s'.heap.get? b=some u/\h2.get? b=some u:=λb u e=>⟨fl.1 b u e,fl2.1 b u e⟩;refine ⟨a,C,H',rfl,⟨I'.os,I'.bare,zg5 b1 (λb o e hb o' e'=>?_) (λb o e hb o' e'=>?_),zeX hok (λb ⟨o,ho⟩ u e'=>?_),B,t,fl2,λb o e hb=>?_,k2⟩,q⟩
 ·obtain ⟨o1,e1⟩:=b0.there b o e (by simp)
  obtain ⟨u,eu⟩:=k3 b o1 e1 (zoT hd I e hb);obtain ⟨z1,z2⟩:=kp b u eu;rw [e'] at z1;cases z1;exact z2
 ·obtain ⟨_,o2,e2,hn⟩:=fl.2.2.1.mem (zuw hd hb)
  rw [e'] at e2;cases e2;exact up b o' e' hn
 ·obtain ⟨u',eu⟩:=k2 b o ho
  obtain ⟨z1,z2⟩:=kp b u' eu;rw [e'] at z1;cases z1;exact z2
 ·obtain ⟨o1,e1⟩:=b0.there b o e (by simp)
  exact k3 b o1 e1 (zoT hd I e hb)
noncomputable def Cx.caught (X:Cx) (e:Addr) (E:Value->Shared->Prop):Cx:={ X with A:=X.A.mark (some (.ref e)),calm:=false,xe:=E }
theorem Inv.caught (I:Inv X pins σ H s) (e:Addr) (E:Value->Shared->Prop):Inv (Cx.caught X e E) pins σ H s:=
 ⟨⟨I.ok.mod,I.ok.kind,I.ok.glob,I.ok.blt,I.ok.above,I.ok.inj,I.ok.has,I.ok.cab,λz=>(by cases z),I.ok.frames,I.ok.stk,I.ok.exf,I.ok.bs,I.ok.bsz,I.ok.noex,I.ok.exfs,I.ok.funs,I.ok.frf⟩,
  I.os,I.bare,I.base,I.loc,I.cell,I.free,I.freeC,I.pin,I.hok,I.len⟩
theorem Inv.uncaught {e:Addr} {E:Value->Shared->Prop} (I:Inv X pins σ H s) {σ':St} {H':Hp} {s':Shared} (J:Inv (Cx.caught X e E) pins σ' H' s'):Inv X pins σ' H' s':=
 ⟨I.ok,J.os,J.bare,J.base,J.loc,J.cell,J.free,J.freeC,J.pin,J.hok,J.len⟩
theorem zk3 (hd:zgR X) (I:Inv X pins σ H s) {e:Value} (c:CXk X.prog X.w X.stack H s E e s') {x:Str} {np pos:Pos} {b0:Stmt} {suite:List Stmt} {Ca:Addr} {Q:Flow->Shared->Prop}
  (hg:Gl X x) (hm:X.mg x=some (.ref Ca)) (hdb:(x==("__debug__":Str))=false)
  (k:∀ a C H' s6 EE',E C none H'->Inv X pins σ H' s6->PySem.W.exmOne X.K C (.ref Ca)=some true/\wpAny (model X.prog X.w) (X.A.mark (some (.ref a))) (execs (b0::suite) X.env) Q EE' s6) :
  wpAny (model X.prog X.w) X.A (noteFrame e X.env) (λ_ s₂=>wpAny (model X.prog X.w) X.A (setFlight e none) (λ_ s₃=>wpAny (model X.prog X.w) X.A (handleBy e X.env [.ExceptHandler (some (.Name x np)) none (b0::suite) pos]) Q EE s₃) EE s₂) EE s':=by
 obtain ⟨a,C,H',rfl,⟨os,bare,un,hok,B,t,fl,k3,k2⟩,q⟩:=c;have fl':=fl;rw [hd.st] at fl'
 have fin:∀ (h:Heap) (tk:Nat),B.StaysIn h->s'.heap.UpToSlots h->Inv X pins σ H' { s' with heap:=h }:=λh tk hB up=>by
  have kp:∀ b u,B.get? b=some u->s'.heap.get? b=some u/\h.get? b=some u:=λb u e=>⟨fl.1 b u e,hB b u e⟩;refine I.call' (ch:=[]) os (zg5 un (λb o e hb o' e'=>?_) (λb o e hb o' e'=>?_)) (zeX hok (λb ⟨o,ho⟩ u e'=>?_)) bare (by simp)
  ·obtain ⟨u,eu⟩:=k3 b o e hb
   obtain ⟨z1,z2⟩:=kp b u eu;rw [e'] at z1;cases z1;exact z2
  ·obtain ⟨_,o2,e2,hn⟩:=fl.2.2.1.mem hb
   rw [e'] at e2;cases e2;exact up b o' e' hn
  ·obtain ⟨u',eu⟩:=k2 b o ho
   obtain ⟨z1,z2⟩:=kp b u' eu;rw [e'] at z1;cases z1;exact z2
 refine wpAny_looks_onW (by rw [I.ok.frames,hd.st]) hd.fr fl' λh4 held4 up4=>?_;refine wpAny_landsW held4 λh5 fl5 up5=>?_;have I5:Inv X pins σ H' { s' with heap:=h5 }:=fin h5 0 fl5.1 (up4.trans up5);obtain ⟨ob,hob,hcls⟩:=fl5.there
 refine wpAny_handleBy_cons (codeAny_handlers_test ?_) (by intro z;cases z)
 refine Calls.Name_function_global (Q:=_) I5.ok.kind hg (Calls.loadGlobal_global (by rw [I5.ok.glob];exact I5.mod.glob.keeps I5.bk) hm ?_) hdb
 have LT:PySem.W.Looks (model X.prog X.w) h5 (typeOf (.ref a)) C:=by
  subst hcls;exact (PySem.W.Looks.ld hob).andThen .now
 refine PySem.W.exm_one (K:=X.K) I5.kIn LT (k a C H' _ EE q I5).1 _ _ _ _ (λ_ _ z=>z) ?_;show codeAny _ _ _ _ _;refine codeAny_handlers_suite ?_;refine PyProof.Rows.lands_againW fl5 λh6 fl6 up6=>?_;have I6:Inv X pins σ H' { s' with heap:=h6 }:=fin h6 0 fl6.1 ((up4.trans up5).trans up6);exact (k a C H' _ _ q I6).2
end
end IT
namespace IT
open PySem PySem.Spec L2
section
variable {X:Cx}
theorem zmZ {es:List Expr} {t:TA} (h:PA X.nox es t):PA X es t:=λpos pins s σ H Q I q=>
 wpAny_mono (h pos pins s σ H Q (I.wish _) q) (λ_ _ ⟨vs,H',I',r,q⟩=>⟨vs,H',I'.unwish,r,q⟩) λ_ _ z=>False.elim z
theorem zpP {tg:Expr} {t:TG} (h:PG X.nox tg t):PG X tg t:=λpins s σ H v u Q I r q=>
 wpAny_mono (h pins s σ H v u Q (I.wish _) r q) (λ_ _ ⟨σ',H',I',q⟩=>⟨σ',H',I'.unwish,q⟩) λ_ _ z=>False.elim z
theorem zsW {tg iter:Expr} {t:TI} (h:PI X.nox tg iter t):PI X tg iter t:=λpins s σ H Q I q=>
 wpAny_mono (h pins s σ H Q (I.wish _) q) (λv s1 z=>wpAny_mono z (λitv s2 ⟨it,fp,tn,J,H',e,I',T,t0,f,q⟩=>⟨it,fp,tn,J,H',e,I'.unwish,T,t0,f,q⟩) λ_ _ z=>False.elim z) λ_ _ z=>False.elim z
theorem zs9 {st:Stmt} {t:TS} (h:PS X.nox st t):PS X st t:=λpins s σ H D I hw=>
 wpAny_mono (h pins s σ H D (I.wish _) hw) (λ_ _ q=>q.unwish) λ_ _ z=>False.elim z
end
inductive RX (K:PySem.W.Frag) (m:IT.Env->M R) (E:R->Hp->Prop) (σ:St) (H:Hp):Prop where
 | mk (μ:List Addr) (h:Sto) (env:IT.Env) (R0:Rep K μ h H) (re:RepE K μ h H env σ) (r:R) (h':Sto) (e:m env h=some (r,h')) (k:∀ μ' H',Stp μ h H μ' h' H'->Rep K μ' h' H'->E r H')
noncomputable def XS (X:Cx) (E:R->Hp->Prop) (st:Stmt) (m:IT.Env->M R):Prop:=∀ (pins:List (Addr×Obj)) (s:Shared) (σ:St) (H:Hp),Inv X pins σ H s->RX X.K m E σ H->wpAny (model X.prog X.w) X.A (exec st X.env) (λ_ _=>False) X.xe s
noncomputable def XSs (X:Cx) (E:R->Hp->Prop) (sts:List Stmt) (m:IT.Env->M R):Prop:=∀ (pins:List (Addr×Obj)) (s:Shared) (σ:St) (H:Hp),Inv X pins σ H s->RX X.K m E σ H->wpAny (model X.prog X.w) X.A (execs sts X.env) (λ_ _=>False) X.xe s
noncomputable def zrJ:Ends:={ nx:=λ_ _=>False,rt:=λ_ _=>False }
section
variable {X:Cx} {E:R->Hp->Prop}
theorem zoX {pins:List (Addr×Obj)} {f:Flow} {s:Shared} (h:SP X pins zrJ f s):False:=by
 cases f with
 | next=>obtain ⟨_,_,_,z⟩:=h;exact z
 | brk=>obtain ⟨_,_,_,z⟩:=h;exact z
 | cont=>obtain ⟨_,_,_,z⟩:=h;exact z
 | ret u=>obtain ⟨_,_,_,_,_,z⟩:=h;exact z
theorem zsT {st:Stmt} {t:TS} {m:IT.Env->M R} (h:PS X st t) (i:∀ σ H,RX X.K m E σ H->t zrJ σ H):XS X E st m:=λpins s σ H I q=>
 wpAny_mono (h pins s σ H zrJ I (i σ H q)) (λ_ _ z=>zoX z) λ_ _ z=>z
theorem zaM {st:Stmt}:XS X E st (λ_ _=>none):=λpins s σ H I ⟨_,_,_,_,_,_,_,e,_⟩=>by cases e
theorem zqo:XSs X E [] (λ_ _=>none):=λpins s σ H I ⟨_,_,_,_,_,_,_,e,_⟩=>by cases e
theorem zpj {st:Stmt} {sts:List Stmt} {f:IT.Env->M (Fl×IT.Env)} {m ms:IT.Env->M R} (h1:PS X st (tS X.K f)) (x1:XS X E st m) (h2:XSs X E sts ms) :
  XSs X E (st::sts) (λσ h=>match f σ h with
   | some ((fl,σ1),h1)=>match fl with
    | .nx=>ms σ1 h1
    | _=>none
   | none=>m σ h):=by
 intro pins s σ H I ⟨μ,h,env,R0,re,r,h',e,k⟩
 (try dsimp only at e)
 cases ef:f env h with
 | none=>
  rw [ef] at e;exact wpAny_execs_cons (wpAny_mono (x1 pins s σ H I ⟨μ,h,env,R0,re,r,h',e,k⟩) (λ_ _ z=>z.elim) λ_ _ z=>z)
 | some p=>
  obtain ⟨⟨fl,env1⟩,h1'⟩:=p;rw [ef] at e
  cases fl with
  | nx=>
   refine wpAny_execs_cons (thn (h1 pins s σ H { nx:=λσ1 H1=>RX X.K ms E σ1 H1,rt:=λ_ _=>False } I ⟨μ,h,env,R0,re,.nx,env1,h1',ef,λμ1 H1 σ1 s1 R1 re1=>⟨μ1,h1',env1,R1,re1,r,h',e,λμ2 H2 s2 R2=>k μ2 H2 (s1.trans s2) R2⟩⟩) λf s1 q=>?_)
   cases f with
   | next=>obtain ⟨σ1,H1,I1,q⟩:=q;exact h2 pins s1 σ1 H1 I1 q
   | brk=>obtain ⟨_,_,_,z⟩:=q;exact z
   | cont=>obtain ⟨_,_,_,z⟩:=q;exact z
   | ret u=>obtain ⟨_,_,_,_,_,z⟩:=q;exact z
  | brk=>cases e
  | cnt=>cases e
  | ret _=>cases e
theorem zvA {c:Expr} {a b:List Stmt} {pos:Pos} {ft:IT.Env->M Bool} {fa fb:IT.Env->M R} (hc:IT' X c ft) (ha:XSs X E a fa) (hb:XSs X E b fb) :
  XS X E (.If c a b pos) (λσ=>bnd (ft σ) λt=>if t then fa σ else fb σ):=by
 intro pins s σ H I ⟨μ,h,env,R0,re,r,h',e,k⟩;simp only [zab] at e;obtain ⟨t,h1,e1,e2⟩:=e;refine wpAny_If (thn (hc pins s σ H (λb H1=>b=t/\RX X.K (if t=true then fa else fb) E σ H1) I ⟨μ,h,env,R0,re,t,h1,e1,λμ1 H1 v s1 R1 hv=>?_⟩) λd s1 ⟨H1,I1,q1⟩=>?_)
 ·subst hv
  refine ⟨rfl,μ1,h1,env,R1,re.stp s1 R0,r,h',?_,λμ2 H2 s2 R2=>k μ2 H2 (s1.trans s2) R2⟩
  cases t<;>exact e2
 ·obtain ⟨rfl,q⟩:=q1
  cases d with
  | true=>exact ha pins s1 σ H1 I1 q
  | false=>exact hb pins s1 σ H1 I1 q
noncomputable def tB (K:PySem.W.Frag) (E:R->Hp->Prop) (f:IT.Env->M (Fl×IT.Env)) (m:IT.Env->M R):TS:=λD σ H=>tS K f D σ H\/RX K m E σ H
theorem zor {sts:List Stmt} {f:IT.Env->M (Fl×IT.Env)} {m:IT.Env->M R} (h:PSs X sts (tS X.K f)) (x:XSs X E sts m):PSs X sts (tB X.K E f m):=λpins s σ H D I q=>by
 rcases q with q | q
 ·exact h pins s σ H D I q
 ·exact wpAny_mono (x pins s σ H I q) (λ_ _ z=>z.elim) λ_ _ z=>z
theorem zui {tg iter:Expr} {body:List Stmt} {pos:Pos} {t:Tg} {fi:IT.Env->M Wk} {fb:IT.Env->M (Fl×IT.Env)} {fx:IT.Env->M R} (hp:PassesOwn (model X.prog X.w) X.A X.env X.xe) (hc:X.calm=true) (hi:PI X tg iter (tI X.K fi)) (hg:PG X tg (tGI X.K t)) (hb:PSs X body (tS X.K fb)) (hx:XSs X E body fx)
  (hs:∀ x,foldedSetIterable iter X.env x=pure x) (hwl:∀ σ h w h',fi σ h=some (w,h')->WlOk w h') :
  XS X E (.For tg iter body [] pos) (λσ=>bnd (fi σ) λw=>zc8 w.l (λx σ=>bnd (zas t x σ) λσ'=>fb σ') (λx σ=>bnd (zas t x σ) λσ'=>fx σ') w.xs σ):=by
 refine zsT (zqc hp hc hi hg (zor hb hx) hs) λσ H q0=>?_;obtain ⟨μ,h,env,R0,re,r,h',e,k⟩:=q0;simp only [zab] at e;obtain ⟨w,h1,e1,e2⟩:=e;refine ⟨μ,h,env,R0,re,w,h1,e1,λμ1 H1 J s1 R1 W1 _=>?_⟩
 refine ⟨λi m σ2 H2=>∃ μ2 h2 env2,Stp μ1 h1 H1 μ2 h2 H2/\zaE w.l h1 h2=true/\Rep X.K μ2 h2 H2/\RepE X.K μ2 h2 H2 env2 σ2/\i+m=w.xs.length ∧
   zc8 w.l (λx σ=>bnd (zas t x σ) λσ'=>fb σ') (λx σ=>bnd (zas t x σ) λσ'=>fx σ') (w.xs.drop i) env2 h2=some (r,h'),⟨w.xs.length,μ1,h1,env,Stp.refl,zec _ _ (hwl _ _ _ _ e1),R1,re.stp s1 R0,by omega,by rw [List.drop_zero];exact e2⟩,?_⟩
 rintro i m σ2 H2 ⟨μ2,h2,env2,s2,sy2,R2,re2,him,el⟩
 cases hx':w.xs[i]? with
 | none=>
  have hi':w.xs.length<=i:=by simpa using hx'
  rw [List.drop_of_length_le hi'] at el;cases el
 | some x=>
  have hil:i<w.xs.length:=(List.getElem?_eq_some_iff.mp hx').1
  have hdrop:w.xs.drop i=x::w.xs.drop (i+1):=by
   rw [List.drop_eq_getElem_cons hil,(List.getElem?_eq_some_iff.mp hx').2]
  rw [hdrop] at el;unfold zc8 at el;obtain ⟨go,yld⟩:=W1.go μ2 h2 H2 i x s2 R2 sy2 hx'
  refine .inr ⟨go,λσ' H'=>∃ m',m'<m/\∃ μ5 h5 env5,Stp μ1 h1 H1 μ5 h5 H'/\zaE w.l h1 h5=true/\Rep X.K μ5 h5 H'/\RepE X.K μ5 h5 H' env5 σ'/\(i+1)+m'=w.xs.length ∧
    zc8 w.l (λx σ=>bnd (zas t x σ) λσ'=>fb σ') (λx σ=>bnd (zas t x σ) λσ'=>fx σ') (w.xs.drop (i+1)) env5 h5=some (r,h'),λσ' H' hN=>hN,λv H' hy=>?_⟩
  obtain ⟨sy,Ry,zx⟩:=yld v H' hy
  cases ef:bnd (zas t x env2) (λσ'=>fb σ') h2 with
  | none=>
   rw [ef] at el;have el:bnd (zas t x env2) (λσ'=>fx σ') h2=some (r,h'):=el;simp only [zab] at el;obtain ⟨env4,h4,e4,e5⟩:=el
   have:=zdV e4
   subst this;exact ⟨μ2,_,env2,x,env4,Ry,re2.stp sy R2,zx,e4,λσ4 re4=>.inr ⟨μ2,_,env4,Ry,re4,r,h',e5,λμ5 H5 s5 R5=>k μ5 H5 ((s1.trans s2).trans (sy.trans s5)) R5⟩⟩
  | some p=>
   obtain ⟨⟨fl3,env3⟩,h3⟩:=p;rw [ef] at el;simp only [zab] at ef;obtain ⟨env4,h4,e4,e5⟩:=ef
   have:=zdV e4
   subst this;refine ⟨μ2,_,env2,x,env4,Ry,re2.stp sy R2,zx,e4,λσ4 re4=>.inl ⟨μ2,_,env4,Ry,re4,fl3,env3,h3,e5,λμ5 H5 σ5 s5' R5 re5=>?_⟩⟩;have s5:=sy.trans s5'
   cases fl3 with
   | nx=>
    simp only at el
    split at el
    ·rename_i sy5
     exact ⟨m-1,by omega,μ5,h3,env3,s2.trans s5,za4 sy2 sy5,R5,re5,by omega,el⟩
    ·cases el
   | cnt=>
    simp only at el
    split at el
    ·rename_i sy5
     exact ⟨m-1,by omega,μ5,h3,env3,s2.trans s5,za4 sy2 sy5,R5,re5,by omega,el⟩
    ·cases el
   | brk=>cases el
   | ret r=>cases el
end
noncomputable abbrev ClsV:=R->Option Value
noncomputable def spX (K:PySem.W.Frag) (cv:ClsV) (np:Nat) (m:List R->M R):Sp:=λvs H _ E=>vs.length=np/\∃ μ h rs r h' C,Rep K μ h H/\zaU K μ h H rs vs/\m rs h=some (r,h')/\cv r=some C/\∀ μ' H',Stp μ h H μ' h' H'->Rep K μ' h' H'->E C none H'
structure FunX (X:Cx) (cv:ClsV) (n:Nat) (x:Str) (np:Nat) (dfl:List D) (m:List R->M R):Prop where
 ex:∃ f fd ps dvs,FnOk X.prog X.w X.K X.mg X.base (CXk X.prog X.w) n f fd ps (spX X.K cv np m)/\X.mg x=some (.ref f)/\PySem.W.keepIn X.K (.ref f)=true/\(∀ A H,RepDs X.K A H dfl dvs)/\(∀ j,j<=dfl.length->∃ ds,zcp X.K fd ps ds/\Vals (dvs.drop j) ds)
 fill:∀ rs,m rs=m (zau np dfl rs)
 len:∀ rs h p,m rs h=some p->(zau np dfl rs).length=np
 cls:∀ rs h r h',m rs h=some (r,h')->∃ C,cv r=some C
section
variable {X:Cx} {E:R->Hp->Prop} {cv:ClsV}
noncomputable def wX (cv:ClsV) (E:R->Hp->Prop):XK:=λC _ H=>∃ r,cv r=some C/\E r H
theorem zqO {n np:Nat} {x:Str} {dfl:List D} {m:List R->M R} {e:Expr} {es:List Expr} {p pos:Pos} {fs:IT.Env->M (List R)} (hF:FunX X cv n x np dfl m) (hr:Room n X.A) (hg:Gl X x) (hx:zc0 (CXk X.prog X.w) X (wX cv E)) (ha:IA X (e::es) fs) (hf:∀ σ h rs h',fs σ h=some (rs,h')->rs.length=(e::es).length)
  (hdb:(x==("__debug__":Str))=false) (he:starEach (e::es) X.env=(false,eval e X.env)::starEach es X.env) (hpl:(backTo pos (starEach es X.env)).any (·.1)=false) :
  PE X (.Call (.Name x p) (e::es) [] pos) (λσ H _=>RX X.K (λσ=>bnd (fs σ) λrs=>m rs) E σ H):=by
 obtain ⟨f,fd,ps,dvs,F,hm,hk,hd,hb⟩:=hF.ex
 by_cases hj:(e::es).length+dfl.length-np<=dfl.length/\¬ (e::es).length+dfl.length<np
 ·obtain ⟨hj,hj2⟩:=hj
  obtain ⟨ds,hb,hv⟩:=hb _ hj;refine PE.imp (zi5 F hr hg hm hk hb hv hx ha hdb he hpl) λσ H Q q0=>?_;obtain ⟨μ,h,env,R0,re,r,h',ee,k⟩:=q0;simp only [zab] at ee;obtain ⟨rs,h1,e1,e2⟩:=ee;refine ⟨μ,h,env,R0,re,rs,h1,e1,λμ1 H1 vs s1 R1 q1=>?_⟩;have hlen:=hF.len _ _ _ e2;obtain ⟨C,hC⟩:=hF.cls _ _ _ _ e2;rw [hF.fill rs] at e2
  have qq:zaU X.K μ1 h1 H1 (zau np dfl rs) (vs++dvs.drop ((e::es).length+dfl.length-np)):=by
   rw [zaS (by rw [hf _ _ _ _ e1];exact hj2),hf _ _ _ _ e1]
   exact q1.app (RepDs.drop _ (hd _ _)).rs
  exact ⟨by rw [<-qq.length];exact hlen,μ1,h1,zau np dfl rs,r,h',C,R1,qq,e2,hC,λμ2 H2 s2 R2=>⟨r,hC,k μ2 H2 (s1.trans s2) R2⟩⟩
 ·intro pins s σ H Q I q0
  exfalso
  obtain ⟨μ,h,env,R0,re,r,h',ee,k⟩:=q0;simp only [zab] at ee;obtain ⟨rs,h1,e1,e2⟩:=ee;have hlen:=hF.len _ _ _ e2;have hrs:=hf _ _ _ _ e1
  by_cases hs:rs.length+dfl.length<np
  ·rw [zbk hs] at hlen
   omega
  ·rw [zaS hs] at hlen
   simp only [List.length_append,List.length_map,List.length_drop] at hlen;omega
end
noncomputable abbrev veM:List Value:=[.type "ValueError",.type "Exception",.type "BaseException",.type "object"]
structure ExcK (K:PySem.W.Frag) (C:Addr):Prop where
 ex:∃ nm q N bs bm hdct sn sub ab col dd k0 k1 k2 k3 k5,K.lookup C=some (excClassObj nm q C N bs bm hdct sn sub ab col dd k0 k1 k2 k3 k5 "ValueError.__new__")/\PySem.W.nsOkIn K N=true/\PySem.W.nsIn K N "__init__"=some none/\∀ h,K.In h->OwnTail h veM bm
theorem zpe {K:PySem.W.Frag} {h:Heap} {A:Addr} {c0:Value} {dd:Option Addr} {cd:ClassData} {sl:Array (Option Value)} (X:K.In h) (l:K.lookup A=some ⟨c0,dd,.cls cd,sl⟩) (ok:PySem.W.nsOkIn K cd.ns=true) (ni:PySem.W.nsIn K cd.ns "__init__"=some none) {bm:List Value} (t:OwnTail h veM bm):OwnTail h veM (.ref A::bm):=
 .own (X _ _ l) (.of_isNs (PySem.W.isNs_of_in X ok)) (PySem.W.nsMap_none_of_in X ok ni) t
section
variable {X:Cx} {E:R->Hp->Prop} {cv:ClsV}
theorem zpa {x:Str} {Ca:Addr} {np cpos pos:Pos} {e:Expr} {es:List Expr} {fs:IT.Env->M (List R)} {r:R} (hd:zgR X) (hc:X.calm=true) (ck:ExcK X.K Ca) (hg:Gl X x) (hm:X.mg x=some (.ref Ca)) (hcv:cv r=some (.ref Ca)) (ha:IA X (e::es) fs) (hl:(e::es).length<=1000) (hf:∀ σ h rs h',fs σ h=some (rs,h')->rs.length=(e::es).length)
    (hdb:(x==("__debug__":Str))=false) (he:starEach (e::es) X.env=(false,eval e X.env)::starEach es X.env) (hpl:(backTo cpos (starEach es X.env)).any (·.1)=false)
    (thr:∀ pins σ H s h' a vs,Inv X pins σ H s->Heap.MadeExcOf s.heap h' a (.ref Ca) vs->wX cv E (.ref Ca) none H->X.xe (.ref a) { s with heap:=h' }) :
    XS X E (.Raise (some (.Call (.Name x np) (e::es) [] cpos)) none pos) (λσ=>bnd (fs σ) λ_=>ok r):=by
  intro pins s σ H I ⟨μ,h,env,R0,re,r',h',ee,k⟩;simp only [zab,zac] at ee;obtain ⟨rs,h1,e1,rfl,rfl⟩:=ee;obtain ⟨nm,q,N,bs,bm,hdct,sn,sub,ab,col,dd,k0,k1,k2,k3,k5,lk,nok,ni,tl⟩:=ck.ex;have FB:=PySem.F.excBase_ValueError
  have hpl':(backTo cpos (starEach (e::es) X.env)).any (·.1)=false:=by
    rw [he];show (false||(backTo cpos (starEach es X.env)).any (·.1))=false;rw [hpl];rfl
  apply wpAny_Raise_call_subT (C:=Ca) (N:=N) FB (mN:=s.heap.nsMap N) ((tl _ I.kIn).hasType FB.hasBase) (I.ok.hd hc) hpl' (PySem.W.nsMap_none_of_in I.kIn nok ni);refine zep I hg hm ⟨rfl,?_⟩ hdb
  have hp:=ha cpos pins s σ H (λvs H1=>vs.length<=1000/\E r H1) I ⟨μ,h,env,R0,re,rs,h1,e1,λμ1 H1 vs s1 R1 q1=>⟨by rw [<-q1.length,hf _ _ _ _ e1];exact hl,k μ1 H1 s1 R1⟩⟩
  rw [he] at hp ⊢;refine Calls.evalArgs_plain (wpAny_mono hp (λus s2 q_=>?_) λ_ _ z=>z);obtain ⟨vs,H1,I1,rv,ql,qe⟩:=q_
  have kk:s2.heap.Ns N (s.heap.nsMap N):=by
    have a1:s.heap.Ns N (s.heap.nsMap N):=.of_isNs (PySem.W.isNs_of_in I.kIn nok);obtain ⟨o,es',ep,ho,rest⟩:=a1;refine ⟨o,es',ep,?_,rest⟩
    have hb:X.K.lookup N=some o:=by
      have z:=nok;unfold PySem.W.nsOkIn at z
      split at z
      · rename_i o' hlk
        have:=I.kIn _ _ hlk
        rw [ho] at this;cases this;exact hlk
      · cases z
    exact I1.kIn _ _ hb
  exact ⟨rfl,Nat.le_trans (by rw [<-rv.length];exact ql) (by decide),I1.kIn _ _ lk,kk,tl _ I1.kIn,λh2 a m=>thr pins σ H1 s2 h2 a _ I1 m ⟨r,hcv,qe⟩⟩
end
end IT
namespace IT
open PySem PySem.Spec L2
section
variable {X:Cx} {pins:List (Addr×Obj)} {σ:St} {H:Hp} {s:Shared}
theorem zoZ {E:Value->Shared->Prop} (h:X.xe=λ_ _=>False):(X.wish E).nox=X:=by
 cases X;simp only at h;subst h;rfl
theorem zr6 {CX:CXT} {n:Nat} {f:Addr} {fd:FuncData} {ps:List Str} {sp:Sp} {dvs:List V} {ds:List Value} {E:XK} {Q:VK} {us:List Value} {vs:List V} (F:FnOk X.prog X.w X.K X.mg X.base CX n f fd ps sp) (hr:Room n X.A) (hb:zcp X.K fd ps ds) (hd:Vals dvs ds)
  (hx:∀ e s',CX X.stack H s E e s'->X.xe e s') (I:Inv X pins σ H s) (r:Vals vs us) (h:sp (vs++dvs) H Q E):wpAny (model X.prog X.w) X.A (call (.ref f) us) (EP X pins σ Q) X.xe s:=by
 have hv:Vals (vs++dvs) (us++ds):=r.append hd;refine wpAny_call (codeAny_mono (F.run X.A X.stack s H ⟨us,[]⟩ _ _ Q E hr I.env0 (hb s us I.kIn (by rw [<-hv.length,F.len _ _ _ _ h])) hv h) λres s' hq=>?_)
 match res,hq with
 | .error e,hq=>exact hx e s' hq
 | .ok (.ret u),hq=>exact I.after hq
theorem zmJ {CX:CXT} {n:Nat} {f:Addr} {fd:FuncData} {ps:List Str} {sp:Sp} {dvs:List V} {ds:List Value} {E:XK} {Q:VK} {x:Str} {p pos:Pos} {e:Expr} {es:List Expr} {t:TA} (F:FnOk X.prog X.w X.K X.mg X.base CX n f fd ps sp) (hr:Room n X.A) (hg:Gl X x) (hm:X.mg x=some (.ref f)) (hk:PySem.W.keepIn X.K (.ref f)=true) (hb:zcp X.K fd ps ds) (hd:Vals dvs ds)
  (ha:PA X (e::es) t) (hdb:(x==("__debug__":Str))=false) (he:starEach (e::es) X.env=(false,eval e X.env)::starEach es X.env) (hpl:(backTo pos (starEach es X.env)).any (·.1)=false)
  (I:Inv X pins σ H s) (h:t σ H λvs H1=>sp (vs++dvs) H1 Q E) (hx:∀ H1 s1 e s',Inv X pins σ H1 s1->CX X.stack H1 s1 E e s'->X.xe e s') :
  wpAny (model X.prog X.w) X.A (eval (.Call (.Name x p) (e::es) [] pos) X.env) (EP X pins σ Q) X.xe s:=
 wpAny_Call_Name_kw (zep I hg hm (PySem.W.callWith_K (h₀:=X.base) I.ok.mod.kin hk (thn (ha pos pins s σ H _ I h) λus s1 ⟨vs,H1,I1,r,q⟩=>⟨I1.kIn,zr6 F hr hb hd (λe s' c=>hx H1 s1 e s' I1 c) I1 r q⟩) he hpl) hdb)
end
section
variable {X:Cx} {cv:ClsV}
theorem zrF {n np ci i:Nat} {fx cx y:Str} {dfl:List D} {m mX:List R->M R} {e:Expr} {es:List Expr} {p cpos p1 np' py pa hpos pos:Pos} {v:Expr} {d:D} {fs:IT.Env->M (List R)} {Ca:Addr}
  (hnx:X.xe=λ_ _=>False) (hd:zgR X) (hF:zlf X n fx np dfl m) (hX:FunX X cv n fx np dfl mX) (hr:Room n X.A) (hg:Gl X fx) (ha:IA X (e::es) fs) (hf:∀ σ h rs h',fs σ h=some (rs,h')->rs.length=(e::es).length)
  (hdb:(fx==("__debug__":Str))=false) (he:starEach (e::es) X.env=(false,eval e X.env)::starEach es X.env) (hpl:(backTo cpos (starEach es X.env)).any (·.1)=false)
  (hgc:Gl X cx) (hmc:X.mg cx=some (.ref Ca)) (hdc:(cx==("__debug__":Str))=false) (hcv:cv (.d (.int ci))=some (.ref Ca)) (hxm:PySem.W.exmOne X.K (.ref Ca) (.ref Ca)=some true)
  (hN:X.N.Nodup) (hi:X.N[i]?=some y) (hy:Loc X.env.scope y) (hfn:X.fn y=true\/X.env.scope.names.lookup y=some .local) (hcon:∀ X':Cx,IE X' v (λ_=>ok (.d d))) (hsw:swapsWith v (some (.Name y py)) pa.line X.env=pure false) :
  PS X (.Try [.Expr (.Call (.Name fx p) (e::es) [] cpos) p1] [.ExceptHandler (some (.Name cx np')) none [.Assign [.Name y py] v pa] hpos] [] [] pos)
   (tS X.K λσ=>bnd (fs σ) λrs h=>match m rs h with
    | some (_,h1)=>some ((.nx,σ),h1)
    | none=>match mX rs h with
     | some (r,h1)=>if zkB ci r then some ((.nx,σ.set i (some (.d d))),h1) else none
     | none=>none):=by
 intro pins s σ H D I q0;obtain ⟨μ,h,env,R0,re,fl,env',h',ee,k⟩:=q0;simp only [zab] at ee;obtain ⟨rs,h1,e1,e2⟩:=ee;refine wpAny_Try_except ?_;generalize hE:(λ(e:Value) (s₁:Shared)=>wpAny (model X.prog X.w) X.A (noteFrame e X.env) (λ_ s₂=>wpAny (model X.prog X.w) X.A (setFlight e none) (λ_ s₃=>wpAny (model X.prog X.w) X.A (handleBy e X.env [.ExceptHandler (some (.Name cx np')) none [.Assign [.Name y py] v pa] hpos]) (SP X pins D) X.xe s₃) X.xe s₂) X.xe s₁)=E'
 have ha':IA (X.wish E') (e::es) fs:=zmZ (X:=X.wish E') (by rw [zoZ hnx];exact ha)
 have I':Inv (X.wish E') pins σ H s:=I.wish E'
 cases em:m rs h1 with
 | some pr=>
  obtain ⟨r,h2⟩:=pr;rw [em] at e2;simp only [Option.some.injEq,Prod.mk.injEq] at e2;obtain ⟨⟨rfl,rfl⟩,rfl⟩:=e2;have hF':zlf (X.wish E') n fx np dfl m:=⟨hF.ex,hF.fill,hF.len⟩;have hb:=znh (zpY (pos:=p1) (znH (X:=X.wish E') (pos:=cpos) (p:=p) hF' hr hg ha' hf hdb he hpl) rfl)
  refine wpAny_mono (hb pins s σ H D I' ⟨μ,h,env,R0,re,.nx,env,h2,by simp only [bnd,e1,em];rfl,k⟩) (λf s1 q=>?_) λ_ _ z=>z
  have q:=q.unwish
  cases f with
  | next=>exact wpAny_execs_nil q
  | brk=>exact q
  | cont=>exact q
  | ret u=>exact q
 | none=>
  rw [em] at e2;simp only at e2
  cases ex:mX rs h1 with
  | none=>rw [ex] at e2;cases e2
  | some pr=>
   obtain ⟨r,h2⟩:=pr;rw [ex] at e2;simp only at e2
   split at e2
   case isFalse=>cases e2
   rename_i hx;simp only [Option.some.injEq,Prod.mk.injEq] at e2;obtain ⟨⟨rfl,rfl⟩,rfl⟩:=e2
   have hrr:r=.d (.int ci):=by
    unfold zkB at hx
    split at hx
    ·rw [eq_of_beq hx]
    ·cases hx
   subst hrr
   have hq:wpAny (model X.prog X.w) X.A (eval (.Call (.Name fx p) (e::es) [] cpos) X.env) (λ_ _=>False) E' s:=by
    obtain ⟨f,fd,ps,dvs,F,hm,hk,hdd,hb⟩:=hX.ex;have hrs:=hf _ _ _ _ e1;have hlen:=hX.len _ _ _ ex
    have hnot:¬ (e::es).length+dfl.length<np:=λz=>by
     rw [zbk (by rw [hrs];exact z),hrs] at hlen
     omega
    have hj:(e::es).length+dfl.length-np<=dfl.length:=by
     rw [zaS (by rw [hrs];exact hnot)] at hlen
     simp only [List.length_append,List.length_map,List.length_drop] at hlen;omega
    obtain ⟨ds,hb,hv⟩:=hb _ hj;refine wpAny_mono (zmJ (X:=X.wish E') (Q:=λ_ _=>False) (E:=λC _ H'=>C=.ref Ca/\∃ μ',Stp μ h H μ' h2 H'/\Rep X.K μ' h2 H') (t:=tAs X.K fs) F hr hg hm hk hb hv ha' hdb he hpl I' ⟨μ,h,env,R0,re,rs,h1,e1,λμ1 H1 vs s1 R1 q1=>?_⟩ λH1 s1 e s' I1 c=>?_) (λ_ _ ⟨_,_,_,_,z⟩=>z) λ_ _ z=>z
    ·have qq:zaU X.K μ1 h1 H1 (zau np dfl rs) (vs++dvs.drop ((e::es).length+dfl.length-np)):=by
      rw [zaS (by rw [hrs];exact hnot),hrs]
      exact q1.app (RepDs.drop _ (hdd _ _)).rs
     have ex':=ex;rw [hX.fill rs] at ex'
     exact ⟨by rw [<-qq.length];exact hlen,μ1,h1,zau np dfl rs,_,h2,.ref Ca,R1,qq,ex',hcv,λμ2 H2 s2 R2=>⟨rfl,μ2,s1.trans s2,R2⟩⟩
    ·show E' e s'
     rw [<-hE];refine zk3 hd I1.unwish c hgc hmc hdc λa C H' s6 EE' ⟨hC,μ',st,R'⟩ I6=>?_;subst hC;refine ⟨hxm,?_⟩;have I7:Inv (Cx.caught X a EE') pins σ H' s6:=Inv.caught I6 a EE';have hps:=znh (zuo (X:=Cx.caught X a EE') (pos:=pa) (pos':=py) (i:=i) hN hi hy (hcon (Cx.caught X a EE')) hsw hfn);refine wpAny_mono (hps pins s6 σ H' D I7 ⟨μ',h2,env,R',re.stp st R0,.d d,h2,rfl,λμ8 H8 u s8 R8 q8=>?_⟩) (λf s7 q=>?_) λ_ _ z=>z
     ·exact k μ8 H8 (σ.set i (some u)) (st.trans s8) R8 ((re.stp (st.trans s8) R0).set i q8)
     ·cases f with
      | next=>obtain ⟨σ',H9,J,q⟩:=q;exact ⟨σ',H9,Inv.uncaught I6 J,q⟩
      | brk=>obtain ⟨σ',H9,J,q⟩:=q;exact ⟨σ',H9,Inv.uncaught I6 J,q⟩
      | cont=>obtain ⟨σ',H9,J,q⟩:=q;exact ⟨σ',H9,Inv.uncaught I6 J,q⟩
      | ret u=>obtain ⟨v',σ',H9,J,r,q⟩:=q;exact ⟨v',σ',H9,Inv.uncaught I6 J,r,q⟩
   refine wpAny_execs_cons (wpAny_Expr_any (wpAny_mono hq (λ_ _ z=>z.elim) λ_ _ z=>z) I.quiet rfl)
end
end IT
namespace IT
open PySem PySem.Spec L2
theorem noT {P:Prop} (h:false=true):P:=by cases h
theorem noF {P:Prop} (h:true=false):P:=by cases h
structure zmF where
 name:Str
 init:Nat
 fields:List Str
 meths:List (Str×Nat)
structure Cst where
 N:List Str
 names:List (Str×NameKind)
 fns:List (Str×Nat×List D)
 globs:List (Str×D)
 top:Bool
 cls:List zmF
 gds:List (Str×List (List Nat×D))
 exs:List Str:=[]
noncomputable def zan:Expr->Bool
 | .Starred _ _=>false
 | _=>true
noncomputable def visB (C:Cst) (x:Str):Bool:=match C.names.lookup x with
 | some .local=>true
 | some .cell=>true
 | some .free=>true
 | _=>false
noncomputable def locB (C:Cst) (x:Str):Bool:=match C.names.lookup x with
 | some .local=>true
 | some .cell=>C.top
 | _=>false
noncomputable def zcj (C:Cst) (x:Str):Bool:=match C.names.lookup x with
 | some .globalImplicit=>true
 | _=>false
noncomputable def zaK (x:Str):Bool:=!(x==("__debug__":Str))&&!(x==("__classdict__":Str))
noncomputable def conB:D->Const->Bool
 | .non,.none=>true
 | .bl b,.bool c=>b==c
 | .int i,.int j=>i==j
 | .str x,.str y=>zaj x==y
 | _,_=>false
noncomputable def boB:Bo->Operator->Bool
 | .add,.Add=>true
 | .sub,.Sub=>true
 | .mul,.Mult=>true
 | .fdiv,.FloorDiv=>true
 | .mod,.Mod=>true
 | .pow,.Pow=>true
 | .band,.BitAnd=>true
 | .bor,.BitOr=>true
 | _,_=>false
noncomputable def coB:Co->CmpOp->Bool
 | .eq,.Eq=>true
 | .ne,.NotEq=>true
 | .lt,.Lt=>true
 | .le,.LtE=>true
 | .gt,.Gt=>true
 | .ge,.GtE=>true
 | .isin,.In=>true
 | .notin,.NotIn=>true
 | .isN,.Is=>true
 | .isnotN,.IsNot=>true
 | _,_=>false
noncomputable def biS:Bi->Str
 | .len=>"len"
 | .sum=>"sum"
 | .tuple=>"tuple"
 | .int=>"int"
 | .all=>"all"
 | .any=>"any"
 | .max=>"max"
 | .min=>"min"
noncomputable def meS:Me->Str
 | .append=>"append"
 | .pop=>"pop"
 | .popAt=>"pop"
 | .clear=>"clear"
 | .extend=>"extend"
noncomputable def biOn:Bi->Bool
 | .len=>true
 | .sum=>false
 | .tuple=>true
 | .int=>true
 | .all=>false
 | .any=>false
 | .max=>false
 | .min=>false
noncomputable def meOn:Me->Bool
 | .append=>true
 | .pop=>false
 | .popAt=>true
 | .clear=>false
 | .extend=>true
noncomputable def zqN:Expr->Bool
 | .Call _ [] _ _=>false
 | _=>true
noncomputable def me0:Me->Bool
 | .pop=>true
 | .clear=>true
 | _=>false
noncomputable def zeW:Expr->Bool
 | .Name _ _=>true
 | _=>false
noncomputable def zku:Expr->Bool
 | .Set _ _ _=>true
 | _=>false
noncomputable def ze7:Expr->Bool
 | .Slice _ _ _ _=>true
 | _=>false
noncomputable def zeL:E->Bool
 | .con .non=>true
 | _=>false
noncomputable def ze4:Expr->Bool
 | .UnaryOp .Not _ _=>false
 | .BoolOp _ _ _=>false
 | .IfExp _ _ _ _=>false
 | .Compare _ _ _ _=>false
 | _=>true
noncomputable def zml:Expr->Bool
 | .Compare _ _ _ _=>true
 | _=>false
noncomputable def zsg (x:Str):Str:=("?":Str)++x
noncomputable def relN (outer names:List (Str×NameKind)):List (Str×NameKind):=
 names.map λ(n,k)=>if (k==NameKind.free&&outer.lookup n==some .cell) then (n,.cell) else (n,k)
mutual
noncomputable def zbr:Tg->Expr->List (Nat×Str)
 | .name i,e=>match e with
  | .Name x _=>[(i,x)]
  | _=>[]
 | .tup ts,e=>match e with
  | .Tuple xs _ _=>tgNamess ts xs
  | _=>[]
noncomputable def tgNamess:List Tg->List Expr->List (Nat×Str)
 | [],_=>[]
 | t::ts,es=>match es with
  | e::es=>zbr t e++tgNamess ts es
  | []=>[]
end
noncomputable def blkN (N:List Str) (own:List (Nat×Str)):List Str:=
 own.foldl (λM p=>M.set p.1 p.2) (N.map λx=>if own.any (λp=>p.2==x) then zsg x else x)
noncomputable def blkC (C:Cst) (sc:Scope) (own:List (Nat×Str)):Cst:={ N:=blkN C.N own,names:=relN C.names sc.names,fns:=C.fns,globs:=C.globs,top:=false,cls:=C.cls,gds:=C.gds }
noncomputable def zsY (C:Cst) (C':Cst) (own:List Nat) (i:Nat) (x:Str):Bool:=match C'.names.lookup x with
 | some .local=>own.contains i
 | some .cell | some .free=>own.contains i||(C.N[i]?==some x&&(C.names.lookup x==some .cell||C.names.lookup x==some .free))
 | _=>true
noncomputable def zk1 (C:Cst) (sc:Scope) (C':Cst) (own:List Nat):Bool:=
 sc.kind==.function&&sc.names.all (λy=>y.2 != .cell)&&sc.names.all (λx=>x.2 != .local||sc.names.lookup x.1==some .local)
 && sc.names.all (λx=>x.2 != .free||C.names.lookup x.1==some .cell||C.names.lookup x.1==some .free)
 && (List.range C'.N.length).all (λi=>match C'.N[i]? with | some x=>zsY C C' own i x | none=>true)
 && C'.N.length==C.N.length&&decide C'.N.Nodup
mutual
noncomputable def zeD (C:Cst):Tg->Expr->Bool
 | .name i,e=>match e with
  | .Name x _=>C.N[i]?==some x&&locB C x
  | _=>false
 | .tup ts,e=>match e with
  | .Tuple xs _ _=>chkTgs C ts xs
  | _=>false
noncomputable def chkTgs (C:Cst):List Tg->List Expr->Bool
 | [],es=>match es with
  | []=>true
  | _=>false
 | t::ts,es=>match es with
  | e::es=>zan e&&zeD C t e&&chkTgs C ts es
  | []=>false
end
noncomputable def enuB:I->Expr->Bool
 | .enu _,e=>match e with
  | .Tuple _ _ _=>true
  | _=>false
 | _,_=>true
theorem andT {a b:Bool} (h:(a&&b)=true):a=true/\b=true:=by simpa using h
noncomputable def kCN (e:Expr) (k:Str->Pos->(List Expr)->Pos->Bool):Bool:=match e with
 | .Call (.Name a0 a1) a2 [] a3=>k a0 a1 a2 a3
 | _=>false
inductive JCN (k:Str->Pos->(List Expr)->Pos->Bool):Expr->Prop
 | mk a0 a1 a2 a3 (h:k a0 a1 a2 a3=true):JCN k (.Call (.Name a0 a1) a2 [] a3)
theorem ofCN (h:kCN e k=true):JCN k e:=by
 cases e with
 | Call f as ks p=>cases f<;>cases ks<;>first | exact noT h | exact ⟨_,_,_,_,h⟩
 | _=>exact noT h
noncomputable def kCA (e:Expr) (k:Expr->Str->Pos->(List Expr)->Pos->Bool):Bool:=match e with
 | .Call (.Attribute a0 a1 a2) a3 [] a4=>k a0 a1 a2 a3 a4
 | _=>false
inductive JCA (k:Expr->Str->Pos->(List Expr)->Pos->Bool):Expr->Prop
 | mk a0 a1 a2 a3 a4 (h:k a0 a1 a2 a3 a4=true):JCA k (.Call (.Attribute a0 a1 a2) a3 [] a4)
theorem ofCA (h:kCA e k=true):JCA k e:=by
 cases e with
 | Call f as ks p=>cases f<;>cases ks<;>first | exact noT h | exact ⟨_,_,_,_,_,h⟩
 | _=>exact noT h
noncomputable def kNm (e:Expr) (k:Str->Pos->Bool):Bool:=match e with
 | .Name a0 a1=>k a0 a1
 | _=>false
inductive JNm (k:Str->Pos->Bool):Expr->Prop
 | mk a0 a1 (h:k a0 a1=true):JNm k (.Name a0 a1)
theorem ofNm (h:kNm e k=true):JNm k e:=by
 cases e<;>first | exact noT h | exact ⟨_,_,h⟩
noncomputable def kCo (e:Expr) (k:Const->Nat->Pos->Bool):Bool:=match e with
 | .Constant a0 a1 a2=>k a0 a1 a2
 | _=>false
inductive JCo (k:Const->Nat->Pos->Bool):Expr->Prop
 | mk a0 a1 a2 (h:k a0 a1 a2=true):JCo k (.Constant a0 a1 a2)
theorem ofCo (h:kCo e k=true):JCo k e:=by
 cases e<;>first | exact noT h | exact ⟨_,_,_,h⟩
noncomputable def kBi (e:Expr) (k:Expr->Operator->Expr->Pos->Bool):Bool:=match e with
 | .BinOp a0 a1 a2 a3=>k a0 a1 a2 a3
 | _=>false
inductive JBi (k:Expr->Operator->Expr->Pos->Bool):Expr->Prop
 | mk a0 a1 a2 a3 (h:k a0 a1 a2 a3=true):JBi k (.BinOp a0 a1 a2 a3)
theorem ofBi (h:kBi e k=true):JBi k e:=by
 cases e<;>first | exact noT h | exact ⟨_,_,_,_,h⟩
noncomputable def kUn (e:Expr) (k:PySem.UnaryOp->Expr->Pos->Bool):Bool:=match e with
 | .UnaryOp a0 a1 a2=>k a0 a1 a2
 | _=>false
inductive JUn (k:PySem.UnaryOp->Expr->Pos->Bool):Expr->Prop
 | mk a0 a1 a2 (h:k a0 a1 a2=true):JUn k (.UnaryOp a0 a1 a2)
theorem ofUn (h:kUn e k=true):JUn k e:=by
 cases e<;>first | exact noT h | exact ⟨_,_,_,h⟩
noncomputable def kCm (e:Expr) (k:Expr->(List CmpOp)->(List Expr)->Pos->Bool):Bool:=match e with
 | .Compare a0 a1 a2 a3=>k a0 a1 a2 a3
 | _=>false
inductive JCm (k:Expr->(List CmpOp)->(List Expr)->Pos->Bool):Expr->Prop
 | mk a0 a1 a2 a3 (h:k a0 a1 a2 a3=true):JCm k (.Compare a0 a1 a2 a3)
theorem ofCm (h:kCm e k=true):JCm k e:=by
 cases e<;>first | exact noT h | exact ⟨_,_,_,_,h⟩
noncomputable def kBo (e:Expr) (k:PySem.BoolOp->(List Expr)->Pos->Bool):Bool:=match e with
 | .BoolOp a0 a1 a2=>k a0 a1 a2
 | _=>false
inductive JBo (k:PySem.BoolOp->(List Expr)->Pos->Bool):Expr->Prop
 | mk a0 a1 a2 (h:k a0 a1 a2=true):JBo k (.BoolOp a0 a1 a2)
theorem ofBo (h:kBo e k=true):JBo k e:=by
 cases e<;>first | exact noT h | exact ⟨_,_,_,h⟩
noncomputable def kIf (e:Expr) (k:Expr->Expr->Expr->Pos->Bool):Bool:=match e with
 | .IfExp a0 a1 a2 a3=>k a0 a1 a2 a3
 | _=>false
inductive JIf (k:Expr->Expr->Expr->Pos->Bool):Expr->Prop
 | mk a0 a1 a2 a3 (h:k a0 a1 a2 a3=true):JIf k (.IfExp a0 a1 a2 a3)
theorem ofIf (h:kIf e k=true):JIf k e:=by
 cases e<;>first | exact noT h | exact ⟨_,_,_,_,h⟩
noncomputable def kTu (e:Expr) (k:(List Expr)->Nat->Pos->Bool):Bool:=match e with
 | .Tuple a0 a1 a2=>k a0 a1 a2
 | _=>false
inductive JTu (k:(List Expr)->Nat->Pos->Bool):Expr->Prop
 | mk a0 a1 a2 (h:k a0 a1 a2=true):JTu k (.Tuple a0 a1 a2)
theorem ofTu (h:kTu e k=true):JTu k e:=by
 cases e<;>first | exact noT h | exact ⟨_,_,_,h⟩
noncomputable def kSu (e:Expr) (k:Expr->Expr->Pos->Bool):Bool:=match e with
 | .Subscript a0 a1 a2=>k a0 a1 a2
 | _=>false
inductive JSu (k:Expr->Expr->Pos->Bool):Expr->Prop
 | mk a0 a1 a2 (h:k a0 a1 a2=true):JSu k (.Subscript a0 a1 a2)
theorem ofSu (h:kSu e k=true):JSu k e:=by
 cases e<;>first | exact noT h | exact ⟨_,_,_,h⟩
noncomputable def kSl (e:Expr) (k:(Option Expr)->(Option Expr)->(Option Expr)->Pos->Bool):Bool:=match e with
 | .Slice a0 a1 a2 a3=>k a0 a1 a2 a3
 | _=>false
inductive JSl (k:(Option Expr)->(Option Expr)->(Option Expr)->Pos->Bool):Expr->Prop
 | mk a0 a1 a2 a3 (h:k a0 a1 a2 a3=true):JSl k (.Slice a0 a1 a2 a3)
theorem ofSl (h:kSl e k=true):JSl k e:=by
 cases e<;>first | exact noT h | exact ⟨_,_,_,_,h⟩
noncomputable def kAt (e:Expr) (k:Expr->Str->Pos->Bool):Bool:=match e with
 | .Attribute a0 a1 a2=>k a0 a1 a2
 | _=>false
inductive JAt (k:Expr->Str->Pos->Bool):Expr->Prop
 | mk a0 a1 a2 (h:k a0 a1 a2=true):JAt k (.Attribute a0 a1 a2)
theorem ofAt (h:kAt e k=true):JAt k e:=by
 cases e<;>first | exact noT h | exact ⟨_,_,_,h⟩
noncomputable def kLC (e:Expr) (k:Expr->(List Comprehension)->Scope->Pos->Bool):Bool:=match e with
 | .ListComp a0 a1 a2 a3=>k a0 a1 a2 a3
 | _=>false
inductive JLC (k:Expr->(List Comprehension)->Scope->Pos->Bool):Expr->Prop
 | mk a0 a1 a2 a3 (h:k a0 a1 a2 a3=true):JLC k (.ListComp a0 a1 a2 a3)
theorem ofLC (h:kLC e k=true):JLC k e:=by
 cases e<;>first | exact noT h | exact ⟨_,_,_,_,h⟩
noncomputable def kLi (e:Expr) (k:(List Expr)->Pos->Bool):Bool:=match e with
 | .List a0 a1=>k a0 a1
 | _=>false
inductive JLi (k:(List Expr)->Pos->Bool):Expr->Prop
 | mk a0 a1 (h:k a0 a1=true):JLi k (.List a0 a1)
theorem ofLi (h:kLi e k=true):JLi k e:=by
 cases e<;>first | exact noT h | exact ⟨_,_,h⟩
noncomputable def kAs (e:Stmt) (k:(List Expr)->Expr->Pos->Bool):Bool:=match e with
 | .Assign a0 a1 a2=>k a0 a1 a2
 | _=>false
inductive JAs (k:(List Expr)->Expr->Pos->Bool):Stmt->Prop
 | mk a0 a1 a2 (h:k a0 a1 a2=true):JAs k (.Assign a0 a1 a2)
theorem ofAs (h:kAs e k=true):JAs k e:=by
 cases e<;>first | exact noT h | exact ⟨_,_,_,h⟩
noncomputable def kEx (e:Stmt) (k:Expr->Pos->Bool):Bool:=match e with
 | .Expr a0 a1=>k a0 a1
 | _=>false
inductive JEx (k:Expr->Pos->Bool):Stmt->Prop
 | mk a0 a1 (h:k a0 a1=true):JEx k (.Expr a0 a1)
theorem ofEx (h:kEx e k=true):JEx k e:=by
 cases e<;>first | exact noT h | exact ⟨_,_,h⟩
noncomputable def kIfS (e:Stmt) (k:Expr->(List Stmt)->(List Stmt)->Pos->Bool):Bool:=match e with
 | .If a0 a1 a2 a3=>k a0 a1 a2 a3
 | _=>false
inductive JIfS (k:Expr->(List Stmt)->(List Stmt)->Pos->Bool):Stmt->Prop
 | mk a0 a1 a2 a3 (h:k a0 a1 a2 a3=true):JIfS k (.If a0 a1 a2 a3)
theorem zsU (h:kIfS e k=true):JIfS k e:=by
 cases e<;>first | exact noT h | exact ⟨_,_,_,_,h⟩
noncomputable def kFo (e:Stmt) (k:Expr->Expr->(List Stmt)->(List Stmt)->Pos->Bool):Bool:=match e with
 | .For a0 a1 a2 a3 a4=>k a0 a1 a2 a3 a4
 | _=>false
inductive JFo (k:Expr->Expr->(List Stmt)->(List Stmt)->Pos->Bool):Stmt->Prop
 | mk a0 a1 a2 a3 a4 (h:k a0 a1 a2 a3 a4=true):JFo k (.For a0 a1 a2 a3 a4)
theorem ofFo (h:kFo e k=true):JFo k e:=by
 cases e<;>first | exact noT h | exact ⟨_,_,_,_,_,h⟩
noncomputable def kRe (e:Stmt) (k:(Option Expr)->Pos->Bool):Bool:=match e with
 | .Return a0 a1=>k a0 a1
 | _=>false
inductive JRe (k:(Option Expr)->Pos->Bool):Stmt->Prop
 | mk a0 a1 (h:k a0 a1=true):JRe k (.Return a0 a1)
theorem ofRe (h:kRe e k=true):JRe k e:=by
 cases e<;>first | exact noT h | exact ⟨_,_,h⟩
noncomputable def kWh (e:Stmt) (k:Expr->(List Stmt)->(List Stmt)->Pos->Bool):Bool:=match e with
 | .While a0 a1 a2 a3=>k a0 a1 a2 a3
 | _=>false
inductive JWh (k:Expr->(List Stmt)->(List Stmt)->Pos->Bool):Stmt->Prop
 | mk a0 a1 a2 a3 (h:k a0 a1 a2 a3=true):JWh k (.While a0 a1 a2 a3)
theorem ofWh (h:kWh e k=true):JWh k e:=by
 cases e<;>first | exact noT h | exact ⟨_,_,_,_,h⟩
noncomputable def kRa (e:Stmt) (k:(Option Expr)->(Option Expr)->Pos->Bool):Bool:=match e with
 | .Raise a0 a1 a2=>k a0 a1 a2
 | _=>false
inductive JRa (k:(Option Expr)->(Option Expr)->Pos->Bool):Stmt->Prop
 | mk a0 a1 a2 (h:k a0 a1 a2=true):JRa k (.Raise a0 a1 a2)
theorem ofRa (h:kRa e k=true):JRa k e:=by
 cases e<;>first | exact noT h | exact ⟨_,_,_,h⟩
noncomputable def kTr (e:Stmt) (k:(List Stmt)->(List ExceptHandler)->(List Stmt)->(List Stmt)->Pos->Bool):Bool:=match e with
 | .Try a0 a1 a2 a3 a4=>k a0 a1 a2 a3 a4
 | _=>false
inductive JTr (k:(List Stmt)->(List ExceptHandler)->(List Stmt)->(List Stmt)->Pos->Bool):Stmt->Prop
 | mk a0 a1 a2 a3 a4 (h:k a0 a1 a2 a3 a4=true):JTr k (.Try a0 a1 a2 a3 a4)
theorem ofTr (h:kTr e k=true):JTr k e:=by
 cases e<;>first | exact noT h | exact ⟨_,_,_,_,_,h⟩
noncomputable def kHa (e:ExceptHandler) (k:(Option Expr)->(Option Str)->(List Stmt)->Pos->Bool):Bool:=match e with
 | .ExceptHandler a0 a1 a2 a3=>k a0 a1 a2 a3
inductive JHa (k:(Option Expr)->(Option Str)->(List Stmt)->Pos->Bool):ExceptHandler->Prop
 | mk a0 a1 a2 a3 (h:k a0 a1 a2 a3=true):JHa k (.ExceptHandler a0 a1 a2 a3)
theorem ofHa (h:kHa e k=true):JHa k e:=by
 cases e<;>first | exact noT h | exact ⟨_,_,_,_,h⟩
noncomputable def kUS (e:PySem.UnaryOp) (k:Bool):Bool:=match e with
 | .USub=>k
 | _=>false
inductive JUS (k:Bool):PySem.UnaryOp->Prop
 | mk  (h:k=true):JUS k .USub
theorem ofUS (h:kUS e k=true):JUS k e:=by
 cases e<;>first | exact noT h | exact ⟨h⟩
noncomputable def kNo (e:PySem.UnaryOp) (k:Bool):Bool:=match e with
 | .Not=>k
 | _=>false
inductive JNo (k:Bool):PySem.UnaryOp->Prop
 | mk  (h:k=true):JNo k .Not
theorem ofNo (h:kNo e k=true):JNo k e:=by
 cases e<;>first | exact noT h | exact ⟨h⟩
noncomputable def kAn (e:PySem.BoolOp) (k:Bool):Bool:=match e with
 | .And=>k
 | _=>false
inductive JAn (k:Bool):PySem.BoolOp->Prop
 | mk  (h:k=true):JAn k .And
theorem ofAn (h:kAn e k=true):JAn k e:=by
 cases e<;>first | exact noT h | exact ⟨h⟩
noncomputable def kOr (e:PySem.BoolOp) (k:Bool):Bool:=match e with
 | .Or=>k
 | _=>false
inductive JOr (k:Bool):PySem.BoolOp->Prop
 | mk  (h:k=true):JOr k .Or
theorem ofOr (h:kOr e k=true):JOr k e:=by
 cases e<;>first | exact noT h | exact ⟨h⟩
noncomputable def kAd (e:Operator) (k:Bool):Bool:=match e with
 | .Add=>k
 | _=>false
inductive JAd (k:Bool):Operator->Prop
 | mk  (h:k=true):JAd k .Add
theorem ofAd (h:kAd e k=true):JAd k e:=by
 cases e<;>first | exact noT h | exact ⟨h⟩
noncomputable def kNil {α:Type} (l:List α) (b:Bool):Bool:=match l with
 | []=>b
 | _::_=>false
inductive JNil {α:Type} (b:Bool):List α->Prop
 | mk (h:b=true):JNil b []
theorem zjk (h:kNil l b=true):JNil b l:=by
 cases l with
 | nil=>exact ⟨h⟩
 | cons _ _=>exact noT h
noncomputable def zcS {α:Type} (l:List α) (k:α->List α->Bool):Bool:=match l with
 | []=>false
 | v::vs=>k v vs
inductive zsM {α:Type} (k:α->List α->Bool):List α->Prop
 | mk (v:α) (vs:List α) (h:k v vs=true):zsM k (v::vs)
theorem zbh (h:zcS l k=true):zsM k l:=by
 cases l with
 | nil=>exact noT h
 | cons _ _=>exact ⟨_,_,h⟩
noncomputable def kOne {α:Type} (l:List α) (k:α->Bool):Bool:=zcS l λv vs=>kNil vs (k v)
inductive JOne {α:Type} (k:α->Bool):List α->Prop
 | mk (v:α) (h:k v=true):JOne k [v]
theorem zbq (h:kOne l k=true):JOne k l:=by
 obtain ⟨v,vs,h⟩:=zbh h;obtain ⟨h⟩:=zjk h;exact ⟨_,h⟩
noncomputable def zl2 {α:Type} (o:Option α) (b:Bool):Bool:=match o with
 | none=>b
 | some _=>false
inductive ztV {α:Type} (b:Bool):Option α->Prop
 | mk (h:b=true):ztV b none
theorem zkc (h:zl2 o b=true):ztV b o:=by
 cases o with
 | none=>exact ⟨h⟩
 | some _=>exact noT h
noncomputable def zpq {α:Type} (o:Option α) (k:α->Bool):Bool:=match o with
 | none=>false
 | some v=>k v
inductive ztY {α:Type} (k:α->Bool):Option α->Prop
 | mk (v:α) (h:k v=true):ztY k (some v)
theorem zlg (h:zpq o k=true):ztY k o:=by
 cases o with
 | none=>exact noT h
 | some _=>exact ⟨_,h⟩
mutual
noncomputable def chkE:E->Cst->Expr->Bool
 | .con d,_,e=>kCo e λc _ _=>(conB d c)
 | .var i,C,e=>kNm e λx _=>(C.N[i]?==some x&&visB C x&&zaK x)
 | .bin o a b,C,e=>kBi e λl op r _=>(boB o op&&chkE a C l&&chkE b C r)
 | .neg a,C,e=>kUn e λz5 x _=>kUS z5 ((chkE a C x))
 | .cmp o a b,C,e=>kCm e λl z7 z9 _=>kOne z7 λop=>kOne z9 λr=>(coB o op&&chkE a C l&&chkE b C r&&!zku r)
 | .and a b,C,e=>kBo e λz12 z13 pos=>kAn z12 (zcS z13 λv z14=>zcS z14 λw rest=>(chkE a C v&&(match rest with | []=>chkE b C w | y::ys=>chkE b C (.BoolOp .And (w::y::ys) pos))))
 | .or a b,C,e=>kBo e λz16 z17 pos=>kOr z16 (zcS z17 λv z18=>zcS z18 λw rest=>(chkE a C v&&(match rest with | []=>chkE b C w | y::ys=>chkE b C (.BoolOp .Or (w::y::ys) pos))))
 | .not a,C,e=>kUn e λz20 x _=>kNo z20 ((chkE a C x))
 | .ife c a b,C,e=>kIf e λt x y _=>(chkT c C t&&chkE a C x&&chkE b C y)
 | .tup es,C,e=>kTu e λxs _ _=>(chkEs es C xs&&decide (xs.length<=1000))
 | .lst _ l,C,e=>chkL l C e
 | .idx a i,C,e=>kSu e λx y _=>(chkE a C x&&chkE i C y&&!ze7 y)
 | .sli a lo hi,C,e=>kSu e λx z25 _=>kSl z25 λl u z26 _=>zl2 z26 ((chkE a C x&&(match l with | none=>zeL lo | some y=>chkE lo C y)&&(match u with | none=>zeL hi | some y=>chkE hi C y)))
 | .call f es,C,e=>kCN e λx _ z29 _=>zcS z29 λv vs=>((match C.fns[f]? with | some p=>p.1==x | none=>false)&&zcj C x&&zaK x&&chkEs es C (v::vs))
 | .bi b es,C,e=>kCN e λx _ z33 _=>zcS z33 λv vs=>((biOn b&&x==biS b)&&zcj C x&&chkEs es C (v::vs))
 | .me m o es,C,e=>kCA e λov name apos vs cpos=>(match vs with
  | v::vs=>(!me0 m&&meOn m)&&name==meS m&&zeW ov&&chkE o C ov&&chkEs es C (v::vs)&&apos.endLine==cpos.line&&decide ((v::vs).length<20)
  | []=>(me0 m&&meOn m)&&name==meS m&&zeW ov&&chkE o C ov&&chkEs es C []&&apos.endLine==cpos.line)
 | .glo d,C,e=>kNm e λx _=>((match C.globs.lookup x with | some d'=>D.same d d' | none=>false)&&zcj C x&&zaK x)
 | .isi t a,C,e=>kCN e λx _ z48 _=>zcS z48 λv z49=>kOne z49 λz50=>kNm z50 λy _=>(x==("isinstance":Str)&&zcj C x&&zan v&&chkE a C v&&y==Str.ofString (tyS t)&&zcj C y)
 | .lm m o a,C,e=>kCA e λov name apos z59 cpos=>kOne z59 λv=>(name==lmS m&&zqN ov&&chkE o C ov&&zan v&&chkE a C v&&apos.endLine==cpos.line)
 | .fld o f,C,e=>kAt e λov name _=>(name==f&&zqN ov&&chkE o C ov)
 | .make c f es,C,e=>kCN e λx _ z71 _=>zcS z71 λv vs=>(x==c&&(C.cls.any λi=>i.name==c&&i.init==f)&&zcj C x&&zaK x&&chkEs es C (v::vs))
 | .mc c m f o es,C,e=>kCA e λov name apos vs cpos=>(match vs with
  | v::vs=>name==m&&(C.cls.any λi=>i.name==c&&i.meths.contains (m,f))&&zeW ov&&chkE o C ov&&chkEs es C (v::vs)&&apos.endLine==cpos.line&&decide ((v::vs).length<20)
  | []=>name==m&&(C.cls.any λi=>i.name==c&&i.meths.contains (m,f))&&zeW ov&&chkE o C ov&&chkEs es C []&&apos.endLine==cpos.line)
 | .lstO tg it cs el,C,e=>kLC e λelt z74 sc _=>kOne z74 λg=>(g.is_async==0&&!zku g.iter&&zk1 C sc (blkC C sc (zbr tg g.target)) tg.slots&&(zeD (blkC C sc (zbr tg g.target)) tg g.target&&enuB it g.target)&&chkI it C g.iter
    && chkTs cs (blkC C sc (zbr tg g.target)) g.ifs&&chkE el (blkC C sc (zbr tg g.target)) elt)
 | .oix a i,C,e=>kSu e λx y _=>(chkE a C x&&chkE i C y&&!ze7 y)
 | .olen a,C,e=>kCN e λx _ z79 _=>kOne z79 λv=>(x==("len":Str)&&zcj C x&&zan v&&chkE a C v)
 | .call0 f,C,e=>kCN e λx _ z84 _=>kNil z84 (((match C.fns[f]? with | some p=>p.1==x | none=>false)&&zcj C x&&zaK x))
 | .stuck,_,_=>true
noncomputable def chkEs:List E->Cst->List Expr->Bool
 | [],_,es=>match es with
  | []=>true
  | _=>false
 | a::as,C,es=>match es with
  | e::es=>zan e&&chkE a C e&&chkEs as C es
  | []=>false
noncomputable def chkT:T->Cst->Expr->Bool
 | .val a,C,e=>chkE a C e&&(ze4 e||zml e)
 | .and a b,C,e=>kBo e λz108 z109 pos=>kAn z108 (zcS z109 λv z110=>zcS z110 λw rest=>(chkT a C v&&(match rest with | []=>chkT b C w | y::ys=>chkT b C (.BoolOp .And (w::y::ys) pos))))
 | .or a b,C,e=>kBo e λz112 z113 pos=>kOr z112 (zcS z113 λv z114=>zcS z114 λw rest=>(chkT a C v&&(match rest with | []=>chkT b C w | y::ys=>chkT b C (.BoolOp .Or (w::y::ys) pos))))
 | .not a,C,e=>kUn e λz116 x _=>kNo z116 ((chkT a C x))
noncomputable def chkTs:List T->Cst->List Expr->Bool
 | [],_,es=>match es with
  | []=>true
  | _=>false
 | t::ts,C,es=>match es with
  | e::es=>chkT t C e&&chkTs ts C es&&es.isEmpty
  | []=>false
noncomputable def chkL:L->Cst->Expr->Bool
 | .disp es,C,e=>kLi e λxs _=>(chkEs es C xs&&decide (xs.length<=1000))
 | .comp tg it cs el,C,e=>kLC e λelt z119 sc _=>kOne z119 λg=>(g.is_async==0&&!zku g.iter&&zk1 C sc (blkC C sc (zbr tg g.target)) tg.slots&&(zeD (blkC C sc (zbr tg g.target)) tg g.target&&enuB it g.target)&&chkI it C g.iter
    && chkTs cs (blkC C sc (zbr tg g.target)) g.ifs&&chkE el (blkC C sc (zbr tg g.target)) elt)
 | .of a,C,e=>kCN e λx _ z123 _=>kOne z123 λv=>(x==("list":Str)&&zcj C x&&zan v&&chkE a C v)
 | .cat a b,C,e=>kBi e λl z132 r _=>kAd z132 ((chkE a C l&&chkE b C r))
 | .ofR a,C,e=>kCN e λx _ z135 _=>kOne z135 λz136=>kCN z136 λy _ z138 _=>kOne z138 λv=>(x==("list":Str)&&zcj C x&&y==("range":Str)&&zcj C y&&zan v&&chkE a C v)
noncomputable def chkI:I->Cst->Expr->Bool
 | .seq a,C,e=>chkE a C e
 | .rng a,C,e=>kCN e λx _ z169 _=>kOne z169 λv=>(x==("range":Str)&&zcj C x&&zan v&&chkE a C v)
 | .enu a,C,e=>kCN e λx _ z180 _=>kOne z180 λv=>(x==("enumerate":Str)&&zcj C x&&zan v&&chkE a C v)
end
noncomputable def zfP:Expr->Bool
 | .ListComp _ _ _ _=>true
 | .SetComp _ _ _ _=>true
 | .DictComp _ _ _ _ _=>true
 | _=>false
noncomputable def zmW:E->Bool
 | .lstO _ _ _ _=>true
 | _=>false
noncomputable def zd5:Expr->Bool
 | .Tuple _ _ _=>true
 | .List _ _=>true
 | _=>false
mutual
noncomputable def chkS:S->Cst->Stmt->Bool
 | .asg tg a,C,st=>kAs st λz184 v pos=>kOne z184 λt=>(zeD C tg t&&zan t&&chkE a C v&&!(zd5 t&&zd5 v)&&(!zfP v||(zfP v&&zeW t&&!zmW a)))
 | .setI o i a,C,st=>kAs st λz187 v _=>kOne z187 λz188=>kSu z188 λov iv _=>(chkE a C v&&chkE o C ov&&chkE i C iv&&!zfP v&&!ze7 iv)
 | .setF o f a,C,st=>kAs st λz191 v _=>kOne z191 λz192=>kAt z192 λov name _=>(name==f&&chkE a C v&&chkE o C ov)
 | .setN c o f a,C,st=>kAs st λz195 v _=>kOne z195 λz196=>kAt z196 λov name _=>(name==f&&(C.cls.any λi=>i.name==c&&i.fields.contains f)&&chkE a C v&&chkE o C ov)
 | .exp a,C,st=>kEx st λv _=>(chkE a C v&&!zfP v)
 | .ife c a b,C,st=>kIfS st λt x y _=>(chkT c C t&&chkSs a C x&&chkSs b C y)
 | .for tg it body,C,st=>kFo st λt iter b z201 _=>kNil z201 (((zeD C tg t&&enuB it t)&&chkI it C iter&&chkSs body C b&&!zku iter))
 | .ret a,C,st=>kRe st λz203 _=>zpq z203 λv=>(chkE a C v)
 | .retN,_,st=>kRe st λz205 _=>zl2 z205 ((true))
 | .brk,_,st=>false
 | .cnt,_,st=>false
 | .whl c b,C,st=>kWh st λt x z210 _=>kNil z210 ((chkT c C t&&chkSs b C x))
 | .rai c es,C,st=>kRa st λz220 z225 _=>zpq z220 λz221=>kCN z221 λx _ z223 _=>zcS z223 λv vs=>zl2 z225 (((match C.exs[c]? with | some y=>y==x | none=>false)&&zcj C x&&zaK x&&chkEs es C (v::vs)&&decide (es.length<=1000)&&C.top))
 | .tryc f es c i d,C,st=>kTr st λz227 z234 z247 z248 _=>kOne z227 λz228=>kEx z228 λz229 _=>kCN z229 λx _ z231 _=>zcS z231 λv vs=>kOne z234 λz235=>kHa z235 λz236 z238 z239 _=>zpq z236 λz237=>kNm z237 λy _=>zl2 z238 (kOne z239 λz240=>kAs z240 λz241 z244 _=>kOne z241 λz242=>kNm z242 λz _=>kCo z244 λk _ _=>kNil z247 (kNil z248 (((match C.fns[f]? with | some p=>p.1==x | none=>false)&&zcj C x&&zaK x&&chkEs es C (v::vs)&&(match C.exs[c]? with | some u=>u==y | none=>false)&&zcj C y&&zaK y&&C.N[i]?==some z&&locB C z&&conB d k&&C.top))))
 | .stuck,_,_=>true
noncomputable def chkSs:List S->Cst->List Stmt->Bool
 | [],_,sts=>match sts with
  | []=>true
  | _=>false
 | s::ss,C,sts=>match sts with
  | st::sts=>chkS s C st&&chkSs ss C sts
  | []=>false
end
end IT
namespace IT
open PySem PySem.Spec L2
noncomputable def zdz:List Str:=["len", "sum", "tuple", "int", "range", "all", "any", "max", "min", "list", "isinstance", "str", "bool", "dict", "enumerate", "sorted", "set"]
structure Excs (Γ:Calls) (n:Nat) (C:Cst) (X:Cx) (cv:ClsV):Prop where
 cls:∀ (c:Nat) (x:Str),C.exs[c]?=some x->∃ Ca,X.mg x=some (.ref Ca)/\cv (.d (.int c))=some (.ref Ca)/\ExcK X.K Ca/\PySem.W.exmOne X.K (.ref Ca) (.ref Ca)=some true
 funs:∀ (f:Nat) (p:Str×Nat×List D),C.fns[f]?=some p->FunX X cv n p.1 p.2.1 p.2.2 (Γ (xof f))
structure Good (Γ:Calls) (n:Nat) (C:Cst) (X:Cx):Prop where
 nox:X.xe=λ_ _=>False
 calm:X.calm=true
 room:Room n X.A
 room1:Room (n+1) X.A
 kind:X.env.scope.kind=.function
 N:X.N=C.N
 nd:X.N.Nodup
 names:X.env.scope.names=C.names
 fn:C.top=true->∀ x,X.fn x=true
 funs:∀ (f:Nat) (p:Str×Nat×List D),C.fns[f]?=some p->zlf X n p.1 p.2.1 p.2.2 (Γ f)
 blt:∀ x∈zdz,X.mg x=none
 glob:∀ (x:Str) (d:D),C.globs.lookup x=some d->∃ u v,X.mg x=some u/\RelV v u/\∀ A H,RepD X.K A H d v
 makes:∀ i∈C.cls,∃ np,zpK X n i.name np (Γ i.init)
 meths:∀ i∈C.cls,∀ p∈i.meths,∃ np,zmp X n i.name p.1 np (Γ p.2)
 attrs:∀ i∈C.cls,∀ f∈i.fields,∀ A,PySem.W.nsIn X.K mainGlobals i.name=some (some (.ref A))->zbR X.K A f
 defc:C.top=true->zgR X
 excs:∃ cv,Excs Γ n C X cv
theorem zak (h:zan e=true):starEach (e::es) env=(false,eval e env)::starEach es env:=by
 cases e<;>first | rfl | (first | exact noT h | exact noF h)
theorem zba:∀ {as:List E} {C:Cst} {es:List Expr},chkEs as C es=true->as.length=es.length
 | [],C,[],_=>rfl
 | [],C,_::_,h=>noT h
 | a::as,C,[],h=>noT h
 | a::as,C,e::es,h=>by
  change ((zan _&&chkE _ _ _)&&chkEs _ _ _)=true at h;simp only [Bool.and_eq_true] at h;simp [zba h.2]
theorem zaG:∀ {as:List E} {C:Cst} {es:List Expr},chkEs as C es=true->∀ e∈es,zan e=true
 | [],C,[],_,e,he=>by simp at he
 | [],C,_::_,h,_,_=>noT h
 | a::as,C,[],h,_,_=>noT h
 | a::as,C,e::es,h,x,hx=>by
  change ((zan _&&chkE _ _ _)&&chkEs _ _ _)=true at h;simp only [Bool.and_eq_true] at h
  rcases List.mem_cons.mp hx with rfl | hx
  ·exact h.1.1
  ·exact zaG h.2 x hx
theorem zaR:∀ {es:List Expr},(∀ e∈es,zan e=true)->(backTo pos (starEach es env)).any (·.1)=false
  | [],_=>rfl
  | e::es,h=>by
    rw [zak (h e (by simp))];show (false||(backTo pos (starEach es env)).any (·.1))=false;rw [zaR λx hx=>h x (by simp [hx])];rfl
theorem zj2:∀ {es:List Expr},(∀ e∈es,zan e=true)->(backTo pos (starEach es env)).all (λx=>!x.1)=true
 | [],_=>rfl
 | e::es,h=>by
  rw [zak (h e (by simp))];show (true&&(backTo pos (starEach es env)).all (λx=>!x.1))=true;rw [zj2 λx hx=>h x (by simp [hx])];rfl
theorem zdf:∀ {es:List E} {σ:IT.Env} {h h':Sto} {rs:List R},evs Γ es σ h=some (rs,h')->rs.length=es.length
 | [],σ,h,h',rs,e=>by
  simp only [evs,zac] at e
  rw [<-e.1];rfl
 | a::as,σ,h,h',rs,e=>by
  simp only [evs,zab,zac] at e;obtain ⟨r,h1,e1,rs',h2,e2,rfl,rfl⟩:=e;simp [zdf e2]
section
variable {Γ:Calls} {n:Nat} {C:Cst} {X:Cx} {x:Str}
theorem zs4 (G:Good Γ n C X) (h:visB C x=true):Vis X.env.scope x:=by
 unfold visB at h;unfold Vis;rw [G.names]
 split at h
 ·rename_i e;exact .inl e
 ·rename_i e;exact .inr (.inl e)
 ·rename_i e;exact .inr (.inr e)
 ·cases h
theorem zl0 (G:Good Γ n C X) (h:locB C x=true):Loc X.env.scope x/\(X.fn x=true\/X.env.scope.names.lookup x=some .local):=by
 unfold locB at h;unfold L2.Loc;rw [G.names]
 split at h
 ·rename_i e;exact ⟨.inl e,.inr e⟩
 ·rename_i e;exact ⟨.inr e,.inl (G.fn h x)⟩
 ·cases h
theorem zcH (G:Good Γ n C X) (h:zcj C x=true):Gl X x:=by
 unfold zcj at h;show X.env.scope.names.lookup x=_;rw [G.names]
 split at h
 ·rename_i e;exact e
 ·cases h
theorem zbi (h:zaK x=true):(x==("__debug__":Str))=false/\(x==("__classdict__":Str))=false:=by
 unfold zaK at h
 simpa using h
end
theorem opB (h:boB o op=true):OpD X (binaryOp op) (bop o):=by
  cases o<;>cases op<;>first | (exact noT h) | exact zrg | exact zqR | exact zq4 | exact zpo | exact zqD | exact zsa | exact zoE | exact zr3
theorem coBe (hu:X.A.units+64<cLine) (h:coB o op=true):OpD X (compareOp op) (cop o):=by
  cases o<;>cases op<;>first | (exact noT h) | exact zsE hu | exact zst hu | exact zts | exact zub | exact zt6 | exact zuA | exact zoq hu | exact zlW hu | exact zqq | exact zkU
theorem zum (h:cop o x y=some z):∃ t,z=.bl t:=by
 cases o with
 | eq=>(change (if _ then _ else _)=_ at h;split at h;exact ⟨_,(Option.some.inj h).symm⟩;exact zae h)
 | ne=>(change (if _ then _ else _)=_ at h;split at h;exact ⟨_,(Option.some.inj h).symm⟩;exact zae h)
 | isin=>
  (delta cop at h;dsimp only at h)
  cases e:items y with
  | none=>rw [e] at h;dsimp only at h;split at h;exact ⟨_,(Option.some.inj h).symm⟩;exact zae h
  | some xs=>rw [e] at h;dsimp only at h;split at h;exact ⟨_,(Option.some.inj h).symm⟩;exact zae h
 | notin=>
  (delta cop at h;dsimp only at h)
  cases e:items y with
  | none=>rw [e] at h;dsimp only at h;split at h;exact ⟨_,(Option.some.inj h).symm⟩;exact zae h
  | some xs=>rw [e] at h;dsimp only at h;split at h;exact ⟨_,(Option.some.inj h).symm⟩;exact zae h
 | _=>cases x<;>cases y<;>first | exact zae h | exact ⟨_,(Option.some.inj h).symm⟩
theorem zuH (e:mD (cop o) x y h=some (r,h')):∃ t,r=.d (.bl t):=by
 simp only [mD,zab,zac,zaN] at e;obtain ⟨dx,h1,e1,dy,h2,e2,z,h3,⟨e3,_⟩,rfl,_⟩:=e;obtain ⟨t,rfl⟩:=zum e3;exact ⟨t,rfl⟩
theorem zkD (h:ze4 e=true):∀ whole,isTrue e env whole=(do let v<-whole;standAt e.pos;holding [v] (truthy v)):=by
 intro whole
 cases e with
 | UnaryOp op x p=>cases op<;>first | rfl | (first | exact noT h | exact noF h)
 | BoolOp _ _ _=>first | exact noT h | exact noF h
 | IfExp _ _ _ _=>first | exact noT h | exact noF h
 | Compare _ _ _ _=>first | exact noT h | exact noF h
 | _=>rfl
theorem zjc (h:zqN o=true):attributeBase o name env (eval o env)=eval o env:=by
 unfold attributeBase
 split
 ·cases h
 ·rfl
theorem zcB (h:zeW o=true):attributeBase o name env (eval o env)=eval o env:=by
 cases o<;>first | rfl | (first | exact noT h | exact noF h)
theorem zjq (h:ze7 e=false):zg8 e:=by
 intro o i
 cases e<;>first | rfl | (first | exact noT h | exact noF h)
theorem zg6 (h:zku e=false):∀ x,foldedSetIterable e env x=pure x:=by
 intro x
 cases e<;>first | rfl | (first | exact noT h | exact noF h)
theorem zmc (h:zku e=false):behindInMarks op e=false:=by
 cases e<;>first | rfl | (first | exact noT h | exact noF h)
theorem zi2 (h:zfP v=false):swapsWithSole [t] v l env=pure false:=by
 cases v<;>first | rfl | (first | exact noT h | exact noF h)
theorem zom (h:zfP v=false):swapsWith v none l env=pure false:=by
 cases v<;>first | rfl | (first | exact noT h | exact noF h)
theorem zdN (h:(zd5 t&&zd5 v)=false):swappedStores [t] v env=pure none:=by
 cases t with
 | Tuple a b c=>cases v<;>first | rfl | (first | exact noT h | exact noF h)
 | List a b=>cases v<;>first | rfl | (first | exact noT h | exact noF h)
 | _=>rfl
theorem zgT (h:zan t=true):(assignEach [t] env).map (·.2)=[assign t env]:=by
 cases t<;>first | rfl | (first | exact noT h | exact noF h)
theorem zeH (h:zan t=true):assignEach (t::ts) env=(false,assign t env)::assignEach ts env:=by
 cases t<;>first | rfl | (first | exact noT h | exact noF h)
theorem ziv:∀ {ts:List Expr},(∀ e∈ts,zan e=true)->(assignEach ts env).length=ts.length/\(assignEach ts env).findIdx? (·.1)=none
 | [],_=>⟨rfl,rfl⟩
 | t::ts,h=>by
  obtain ⟨h1,h2⟩:=ziv (env:=env) (ts:=ts) λx hx=>h x (by simp [hx]);rw [zeH (h t (by simp))];refine ⟨by simp [h1],?_⟩;rw [List.findIdx?_cons];simp [h2]
theorem zrO (h:ze7 i=false) (v:Value):assign (.Subscript o i p) env v=(do let ov<-holding [v] (eval o env);let iv<-holding [v,ov] (eval i env);standAt p;holding [v,ov,iv] (setItem ov iv v);release [v,ov,iv] []):=by
 cases i<;>first | rfl | (first | exact noT h | exact noF h)
theorem zpJ (h:conB d c=true):IE X (.Constant c k pos) (λ_=>ok (.d d)):=by
 cases d with
 | non=>cases c<;>first | (exact noT h) | exact zil ztT (by intro _ _;simp only [RepD])
 | bl b=>
  cases c with
  | bool c=>obtain rfl:=eq_of_beq h;exact zil zvu (by intro _ _;simp only [RepD])
  | _=>exact noT h
 | int b=>
  cases c with
  | int c=>obtain rfl:=eq_of_beq h;exact zil zss (by intro _ _;simp only [RepD])
  | _=>exact noT h
 | str b=>
  cases c with
  | str c=>obtain rfl:=eq_of_beq h;exact zil zso (by intro _ _;simp only [RepD])
  | _=>exact noT h
 | _=>cases c<;>exact noT h
theorem zi0:∀ {ts:List Tg} {es:List Expr},chkTgs C ts es=true->(∀ e∈es,zan e=true)/\es.length=ts.length
 | [],[],_=>⟨by simp,rfl⟩
 | [],_::_,h=>noT h
 | _::_,[],h=>noT h
 | t::ts,e::es,h=>by
  change ((zan _&&zeD _ _ _)&&chkTgs _ _ _)=true at h;simp only [Bool.and_eq_true] at h;obtain ⟨h1,h2⟩:=zi0 h.2;refine ⟨λx hx=>?_,by simp [h2]⟩
  rcases List.mem_cons.mp hx with rfl | hx
  ·exact h.1.1
  ·exact h1 x hx
mutual
theorem okTg {n:Nat} (G:Good Γ n C X):∀ (t:Tg) (e:Expr),zeD C t e=true->PG X e (tG X.K t)
 | .name i,e,h=>by
  cases e with
  | Name x pos=>
   change (_&&locB C _)=true at h;simp only [Bool.and_eq_true] at h;obtain ⟨h1,h2⟩:=zl0 G h.2
   exact zrk G.nd (by rw [G.N];exact eq_of_beq h.1) h1 h2
  | _=>exact noT h
 | .tup ts,e,h=>by
  cases e with
  | Tuple xs k pos=>
   have h:chkTgs C ts xs=true:=h;obtain ⟨h1,h2⟩:=zi0 h;obtain ⟨h3,h4⟩:=ziv (env:=X.env) h1;exact zs0 G.calm (okTgs G ts xs h) h2 h3 h4
  | _=>exact noT h
theorem okTgs (G:Good Γ n C X):∀ (ts:List Tg) (es:List Expr),chkTgs C ts es=true->PGs X es (tGs X.K ts)
 | [],es,h=>by
  cases es with
  | nil=>exact zsf
  | cons _ _=>exact noT h
 | t::ts,es,h=>by
  cases es with
  | nil=>exact noT h
  | cons e es=>
   change ((zan _&&zeD _ _ _)&&chkTgs _ _ _)=true at h;simp only [Bool.and_eq_true] at h
   exact znT (okTg G t e h.1.2) (okTgs G ts es h.2) (by rw [zeH h.1.1];rfl)
end
theorem zoY {n:Nat} (G:Good Γ n C X) (t:Tg) (e:Expr) (h:zeD C t e=true):PG X e (tGI X.K t):=by
 cases t with
 | name i=>exact zod (okTg G _ _ h)
 | tup ts=>
  by_cases hl:ts.length=2
  ·match ts,hl,h with
   | [a,b],_,h=>
    cases e with
    | Tuple xs k pos=>
     have h:chkTgs C [a,b] xs=true:=h
     match xs,h with
     | [x,y],h=>
      obtain ⟨h1,h2⟩:=zi0 h;obtain ⟨h3,h4⟩:=ziv (env:=X.env) h1;have hs:=okTgs G [a,b] [x,y] h;change (((zan _&&zeD _ _ _)&&((zan _&&zeD _ _ _)&&_))=true) at h;simp only [Bool.and_eq_true] at h
      exact zqB G.calm hs (zvD (okTg G a x h.1.2) (okTg G b y h.2.1.2) (by rw [zeH h.1.1];rfl) (by rw [zeH h.2.1.1];rfl)) h3 h4
     | [],h=>exact noT h
     | [_],h=>exact noT (andT h).2
     | _::_::_::_,h=>exact noT (andT (andT h).2).2
    | _=>exact noT h
  ·exact zr9 hl (okTg G _ _ h)
theorem zhP (e:zbe r h=some (w,h')):WlOk w h':=by
 (delta zbe at e;simp only [zab] at e)
 obtain ⟨o,h1,e1,e2⟩:=e;obtain ⟨rfl,ho⟩:=zb0 e1
 cases o with
 | some ls=>
  obtain ⟨l,rfl,ho⟩:=ho;simp only [zac] at e2;obtain ⟨rfl,rfl⟩:=e2;intro i hi;cases hi;exact ⟨_,ho,λc fs z=>by cases z⟩
 | none=>
  simp only [zab] at e2;obtain ⟨d,h2,e3,e4⟩:=e2
  cases r with
  | loc l=>
   obtain ⟨o,ho,il,rfl,rfl⟩:=zfe e3
   (delta wkOf items at e4;(try dsimp only at e4);simp only [zac] at e4)
   obtain ⟨rfl,rfl⟩:=e4;intro i hi;cases hi
   exact ⟨o,ho,λc fs z=>by rw [z] at il;cases il⟩
  | d x=>
   have:w.l=none:=by
    (delta wkOf at e4;(try dsimp only at e4))
    cases hi:items d with
    | none=>
     rw [hi] at e4;simp only at e4
     split at e4
     ·split at e4
      ·obtain ⟨rfl,rfl⟩:=zac.mp e4;rfl
      ·cases e4
     ·cases e4
    | some xs=>rw [hi] at e4;obtain ⟨rfl,rfl⟩:=zac.mp e4;rfl
   intro i hi;rw [this] at hi;cases hi
theorem zg7 (e:evI Γ it σ h=some (w,h')):WlOk w h':=by
 cases it with
 | seq a=>
  simp only [evI,zab] at e;obtain ⟨r,h1,e1,e2⟩:=e;exact zhP e2
 | enu a=>
  simp only [evI,zab] at e;obtain ⟨r,h1,e1,e2⟩:=e;unfold zkH at e2
  split at e2
  ·simp only [zab] at e2
   obtain ⟨w0,h2,e3,e4⟩:=e2
   have:=zhP e3
   cases en:zat 0 w0.xs with
   | none=>rw [en] at e4;cases e4
   | some l=>rw [en] at e4;obtain ⟨rfl,rfl⟩:=zac.mp e4;exact this
  ·cases e2
 | rng a=>
  simp only [evI,zab] at e;obtain ⟨r,h1,e1,e2⟩:=e
  (delta zgu at e2;(try dsimp only at e2))
  intro i el
  split at e2
  ·split at e2
   ·obtain ⟨rfl,rfl⟩:=zac.mp e2;cases el
   ·cases e2
  ·cases e2
end IT
namespace IT
open PySem PySem.Spec L2
section
variable {Γ:Calls} {n:Nat} {C:Cst} {X:Cx}
theorem zhT (G:Good Γ n C X) (sc:Scope):(relabel sc X.env).names=relN C.names sc.names:=by
 unfold relabel relN;show sc.names.map _=sc.names.map _;refine List.map_congr_left λp _=>?_;obtain ⟨m,k⟩:=p
 have e1:X.env.kindOf m=C.names.lookup m:=by
  show X.env.scope.names.lookup m=_;rw [G.names]
 simp only [G.kind,e1];have e2:(ScopeKind.function==ScopeKind.function)=true:=rfl;rw [e2,Bool.and_true]
theorem Good.blk (G:Good Γ n C X) {os:List Nat} (h:zk1 C sc (blkC C sc own) os=true) (cl:List (Str×Addr)) (pins:List (Addr×Obj)) (s₂:Shared) (H₂:Hp) (Cc:Addr) (fp:List Addr) :
  Good Γ n (blkC C sc own) (blk X (blkC C sc own).N s₂ H₂ (compEnvC sc cl Cc X.env) fp pins):=by
 unfold zk1 at h;simp only [Bool.and_eq_true] at h;obtain ⟨⟨⟨⟨⟨⟨hk,_⟩,_⟩,_⟩,_⟩,_⟩,hnd⟩:=h
 refine ⟨G.nox,G.calm,G.room,G.room1,?_,rfl,of_decide_eq_true hnd,zhT G sc,λz=>absurd z (by show ¬ (false=true);decide),λf x e=>⟨(G.funs f x e).ex,(G.funs f x e).fill,(G.funs f x e).len⟩,G.blt,G.glob,λi hi=>let ⟨np,z⟩:=G.makes i hi;⟨np,z.ex,z.len⟩,λi hi p hp=>let ⟨np,z⟩:=G.meths i hi p hp;⟨np,z.ex,z.len⟩,G.attrs,λz=>absurd z (by show ¬ (false=true);decide),let ⟨cv,Ex⟩:=G.excs;⟨cv,λc x e=>(by cases (show ([]:List Str)[c]?=some x from e)),λf p e=>⟨(Ex.funs f p e).ex,(Ex.funs f p e).fill,(Ex.funs f p e).len,(Ex.funs f p e).cls⟩⟩⟩
 show (relabel sc X.env).kind=_
 have:sc.kind=.function:=by cases e:sc.kind<;>rw [e] at hk<;>first | rfl | (exact absurd hk (by decide))
 exact this
theorem zlr (G:Good Γ n C X) {os:List Nat} (h:zk1 C sc (blkC C sc own) os=true):zjs X sc (blkC C sc own).N os:=by
 unfold zk1 at h;simp only [Bool.and_eq_true] at h;obtain ⟨⟨⟨⟨⟨⟨hk,hc⟩,hn⟩,hf⟩,hs⟩,hl⟩,hnd⟩:=h
 have ke:∀ m,X.env.kindOf m=C.names.lookup m:=λm=>by
  show X.env.scope.names.lookup m=_;rw [G.names]
 refine ⟨?_,?_,?_,?_,?_,?_⟩
 ·cases e:sc.kind<;>rw [e] at hk<;>first | rfl | (exact absurd hk (by decide))
 ·intro y hy z
  have:=List.all_eq_true.mp hc y hy
  rw [z] at this;exact absurd this (by decide)
 ·intro x hx z
  have:=List.all_eq_true.mp hn x hx
  rw [z] at this
  have e2:(NameKind.local != NameKind.local)=false:=by decide
  rw [e2,Bool.false_or] at this;exact eq_of_beq this
 ·intro x hx z
  have:=List.all_eq_true.mp hf x hx
  rw [z] at this
  have e2:(NameKind.free != NameKind.free)=false:=by decide
  rw [e2,Bool.false_or,Bool.or_eq_true] at this;rw [ke]
  rcases this with q | q
  ·exact .inl (eq_of_beq q)
  ·exact .inr (eq_of_beq q)
 ·intro i x e v
  have hi:i<(blkC C sc own).N.length:=(List.getElem?_eq_some_iff.mp e).1
  have:=List.all_eq_true.mp hs i (by simpa using hi)
  rw [e] at this;simp only [zsY] at this;unfold Vis at v;rw [zhT G sc] at v ⊢;have en:(blkC C sc own).names=relN C.names sc.names:=rfl;rw [en] at this;rw [G.N,ke]
  rcases v with v | v | v
  ·rw [v] at this
   exact .inl (by simpa using this)
  ·rw [v] at this
   simp only [Bool.or_eq_true,Bool.and_eq_true] at this
   rcases this with q | ⟨q,q2⟩
   ·exact .inl (by simpa using q)
   ·refine .inr ⟨eq_of_beq q,?_,by rw [v];decide⟩
    rcases q2 with q2 | q2
    ·exact .inl (eq_of_beq q2)
    ·exact .inr (eq_of_beq q2)
  ·rw [v] at this
   simp only [Bool.or_eq_true,Bool.and_eq_true] at this
   rcases this with q | ⟨q,q2⟩
   ·exact .inl (by simpa using q)
   ·refine .inr ⟨eq_of_beq q,?_,by rw [v];decide⟩
    rcases q2 with q2 | q2
    ·exact .inl (eq_of_beq q2)
    ·exact .inr (eq_of_beq q2)
 ·rw [G.N]
  exact eq_of_beq hl
end
noncomputable def zcZ (Γ:Calls) (X:Cx) (tg:Tg) (it:I) (cs:List T) (el:E) (e:Expr):Prop:=
 ∃ elt gt gi gifs sc pos N',e=.ListComp elt [⟨gt,gi,gifs,0⟩] sc pos/\zjs X sc N' tg.slots/\PI X gt gi (tI X.K (evI Γ it)) ∧
  (∀ cl pins s₂ H₂ C fp,PG (blk X N' s₂ H₂ (compEnvC sc cl C X.env) fp pins) gt (tGI X.K tg)/\PTs (blk X N' s₂ H₂ (compEnvC sc cl C X.env) fp pins) gifs (tTv X.K (tvs Γ cs))/\PE (blk X N' s₂ H₂ (compEnvC sc cl C X.env) fp pins) elt (tE X.K (ev Γ el))) ∧
  ∀ x,foldedSetIterable gi X.env x=pure x
theorem zcZ.read (q:tLs K (evL Γ (.comp tg it cs el)) σ H Q):zkt (tI K (evI Γ it)) tg.slots (tGI K tg) (tTv K (tvs Γ cs)) (tE K (ev Γ el)) σ H Q:=by
 have e:evL Γ (.comp tg it cs el)=λσ=>bnd (evI Γ it σ) λw=>zbd w.l (zsv tg (tvs Γ cs) (ev Γ el) σ) w.xs:=by
  funext σ
  rfl
 rw [e] at q;exact zny (λσ h w h' e=>zg7 e) q
theorem zcZ.il (hx:X.xe=λ_ _=>False) (hc:X.calm=true) (h:zcZ Γ X tg it cs el e):IL X e (evL Γ (.comp tg it cs el)):=by
 obtain ⟨elt,gt,gi,gifs,sc,pos,N',rfl,ok,hi,hB,hs⟩:=h;exact PE.imp (znx hx hc ok hi hB hs) λσ H Q q=>zcZ.read q
theorem zcZ.io (hx:X.xe=λ_ _=>False) (hc:X.calm=true) (h:zcZ Γ X tg it cs el e):IE X e (ev Γ (.lstO tg it cs el)):=by
 obtain ⟨elt,gt,gi,gifs,sc,pos,N',rfl,ok,hi,hB,hs⟩:=h;refine PE.imp (znx hx hc ok hi hB hs) λσ H Q q0=>?_;refine zf9 (zuU X.K) (λσ h w h' e=>zg7 e) ?_;obtain ⟨μ,h,env,R0,re,r,h',e,k⟩:=q0;replace e:(bnd (evI Γ it env) λw=>bnd (zbd w.l (λx=>bnd (zas tg x (clr tg.slots env)) λσ'=>bnd (tvs Γ cs σ') λt=>if t then bnd (ev Γ el σ') λr=>bnd (zbn r) λd=>IT.ok (some d) else IT.ok none) w.xs) λls=>allocO ls) h=some (r,h'):=e;simp only [zab,allocO,Option.some.injEq,Prod.mk.injEq] at e;obtain ⟨w,h1,e1,ls,h2,e2,rfl,rfl⟩:=e;refine ⟨μ,h,env,R0,re,ls,h2,zab.mpr ⟨w,h1,e1,e2⟩,λμ1 H1 a vs s1 R1 z ha=>?_⟩;have st:Stp μ1 h2 H1 (μ1++[a]) (h2++[.ols ls]) (upd H1 a (.lst vs)):=Stp.allocO R1 ha;refine k (μ1++[a]) _ (.ref a) (s1.trans st) (R1.allocO ha ⟨vs,zao,L2.Paired.mapP z λl v ⟨b,eb,ev⟩=>⟨b,st.pre l b eb,ev⟩⟩) ⟨a,?_,rfl⟩;rw [<-R1.len];simp
theorem zpl {m:Bool} (q:tE K (λσ=>bnd (fl σ) λxs=>if m then alloc xs else ok (.d (.lst xs))) σ H Q):tLs K fl σ H Q:=by
 obtain ⟨μ,h,env,R0,re,r,h',e,k⟩:=q;simp only [zab] at e;obtain ⟨xs,h1,e1,e2⟩:=e;refine ⟨μ,h,env,R0,re,xs,h1,e1,λμ1 H1 a vs s1 R1 q1 ha=>?_⟩
 cases m with
 | true=>
  simp only [if_true,alloc,Option.some.injEq,Prod.mk.injEq] at e2;obtain ⟨rfl,rfl⟩:=e2;refine k (μ1++[a]) _ (.ref a) (s1.trans (Stp.alloc R1 ha)) (R1.alloc ha q1) ⟨a,?_,rfl⟩;rw [<-R1.len];simp
 | false=>
  simp only [Bool.false_eq_true,if_false] at e2;obtain ⟨rfl,rfl⟩:=zac.mp e2;have s2:Stp μ1 h1 H1 μ1 h1 (upd H1 a (.lst vs)):=Stp.fresh ha;refine k μ1 _ (.ref a) (s1.trans s2) (R1.fresh ha) ?_;simp only [RepR,RepD];refine ⟨a,vs,rfl,.inl ⟨λl=>?_,.inl zao⟩,RepDs.stp s2 R1 q1⟩;obtain ⟨ws,z,_⟩:=R1.liveAt l
  rw [ha] at z;cases z
theorem tLs.imp (q:tLs K fl σ H Q) (i:∀ v H,Q v H->Q' v H):tLs K fl σ H Q':=by
 obtain ⟨μ,h,env,R0,re,xs,h',e,k⟩:=q;exact ⟨μ,h,env,R0,re,xs,h',e,λμ' H' a vs s1 R1 q1 ha=>i _ _ (k μ' H' a vs s1 R1 q1 ha)⟩
theorem zko (q:tG K (.name i) v σ H Q):zlE i v σ H Q:=by
 obtain ⟨μ,h,env,r,env',R0,re,qr,e,k⟩:=q;simp only [zaT,zac] at e;obtain ⟨rfl,_⟩:=e;exact k _ (re.set i qr)
theorem zpE {D:Ends} (q:tS K (λσ=>bnd (f σ) λr=>bnd (zaT t r σ) λσ'=>ok (.nx,σ')) D σ H):tE K f σ H λx H1=>tG K t x σ H1 D.nx:=by
 obtain ⟨μ,h,env,R0,re,fl,env',h',e,k⟩:=q;simp only [zab,zac,Prod.mk.injEq] at e;obtain ⟨r,h1,e1,env1,h2,e2,⟨rfl,rfl⟩,rfl⟩:=e
 have:=zbC _ _ _ _ _ _ e2
 subst this;exact ⟨μ,h,env,R0,re,r,_,e1,λμ1 H1 v s1 R1 q1=>⟨μ1,_,env,r,env1,R1,re.stp s1 R0,q1,e2,λσ' re'=>k μ1 H1 σ' s1 R1 re'⟩⟩
noncomputable def zpU:Expr->Bool
 | .BoolOp _ _ _=>true
 | _=>false
theorem zuJ (G:Good Γ n C X) (ho:biOn b=true) (hx:x=biS b) (hg:Gl X x) (ha:IA X (e::es) fs)
  (he:starEach (e::es) X.env=(false,eval e X.env)::starEach es X.env) (hpl:(backTo pos (starEach es X.env)).any (·.1)=false):IE X (.Call (.Name x p) (e::es) [] pos) (λσ=>bnd (fs σ) λrs=>bnd (rds rs) λds=>bnd (opt (biD b ds)) λz=>ok (.d z)):=by
 subst hx
 cases b with
 | len=>exact PE.imp (zgv zl5 hg (G.blt _ (by decide)) PySem.boot_len ha (by decide) (by decide) he hpl) λσ H Q q=>zjf q
 | sum=>exact noT ho
 | tuple=>exact PE.imp (zcs zjg hg (G.blt _ (by decide)) PyProof.Rows.boot_tuple ha (by decide) (by decide) he hpl) λσ H Q q=>zjf q
 | all=>exact noT ho
 | any=>exact noT ho
 | max=>exact noT ho
 | min=>exact noT ho
 | int=>exact PE.imp (zcs zlI hg (G.blt _ (by decide)) PyProof.Rows.boot_int ha (by decide) (by decide) he hpl) λσ H Q q=>zjf q
theorem zlZ {a:E} {C:Cst} {e:Expr} (h:chkT (.val a) C e=true):chkE a C e=true:=by
 change (_&&_)=true at h;rw [Bool.and_eq_true] at h;exact h.1
theorem zhI {Γ:Calls} {a:E} {C:Cst} {e:Expr} {X:Cx} (k:IE X e (ev Γ a)) (h:chkT (.val a) C e=true) (hn:∀ l ops rs pos,e≠.Compare l ops rs pos):IT' X e (tv Γ (.val a))/\(zpU e=true->PW X e (tTv X.K (tv Γ (.val a)))):=by
 change (_&&(_||_))=true at h;rw [Bool.and_eq_true,Bool.or_eq_true] at h
 have hp:ze4 e=true:=by
  rcases h.2 with z | z
  ·exact z
  ·cases e<;>first | (exact noT z) | exact absurd rfl (hn _ _ _ _)
 refine ⟨ztm k (zkD hp),λz=>?_⟩
 cases e<;>first | (exact noT z) | (first | exact noT hp | exact noF hp)
theorem zmn {vs:List Expr} {env:PySem.Env} {cpos:Pos} (st:∀ y∈vs,zan y=true) (hl:vs.length<20):((backTo cpos (starEach vs env)).all (λx=>!x.1)&&(backToKw cpos (keywordEach [] env)).all (λx=>x.1.isSome)&&decide (vs.length+([]:List Keyword).length+(if ([]:List Keyword).isEmpty then 0 else 1)<30))=true:=by
 rw [zj2 st];simp only [List.length_nil,List.isEmpty_nil,if_true,Bool.true_and,Bool.and_eq_true];exact ⟨rfl,decide_eq_true (by omega)⟩
mutual
theorem okE {Γ:Calls} {n:Nat}:∀ (a:E) (C:Cst) (e:Expr) (X:Cx),chkE a C e=true->Good Γ n C X->IE X e (ev Γ a)
 | .con d,C,e,X,h,G=>by
  replace h:=ofCo h;obtain ⟨c,k,pos,h⟩:=h;exact zpJ (d:=d) h
 | .var i,C,e,X,h,G=>by
  replace h:=ofNm h;obtain ⟨x,pos,h⟩:=h;simp only [Bool.and_eq_true] at h;obtain ⟨h1,h2⟩:=zbi h.2
  exact zsR (zta (by rw [G.N];exact eq_of_beq h.1.1) (zs4 G h.1.2) h1 h2)
 | .bin o a b,C,e,X,h,G=>by
  replace h:=ofBi h;obtain ⟨l,op,r,pos,h⟩:=h;simp only [Bool.and_eq_true] at h;exact zsZ (m:=mD (bop o)) (OpD.opI (opB h.1.1)) (okE a C l X h.1.2 G) (okE b C r X h.2 G)
 | .neg a,C,e,X,h,G=>by
  replace h:=ofUn h;obtain ⟨z250,x,p1_,h⟩:=h;replace h:=ofUS h;obtain ⟨h⟩:=h;exact zug (okE a C _ X h G)
 | .cmp o a b,C,e,X,h,G=>by
  replace h:=ofCm h;obtain ⟨l,z252,z254,p3_,h⟩:=h;replace h:=zbq h;obtain ⟨op,h⟩:=h;replace h:=zbq h;obtain ⟨r,h⟩:=h;simp only [Bool.and_eq_true,Bool.not_eq_true'] at h;exact zt0 (m:=mD (cop o)) (OpD.opI (coBe G.room.units h.1.1.1)) (okE a C _ X h.1.1.2 G) (okE b C _ X h.1.2 G) (zmc h.2)
 | .and a b,C,e,X,h,G=>by
  replace h:=ofBo h;obtain ⟨z257,z258,pos,h⟩:=h;replace h:=ofAn h;obtain ⟨h⟩:=h;replace h:=zbh h;obtain ⟨v,z259,h⟩:=h;replace h:=zbh h;obtain ⟨w,rest,h⟩:=h;simp only [Bool.and_eq_true] at h
  cases rest with
  | nil=>exact zpR (okE a C v X h.1 G) (zpG (okE b C w X h.2 G))
  | cons y ys=>exact zpR (okE a C v X h.1 G) (okE b C _ X h.2 G)
 | .or a b,C,e,X,h,G=>by
  replace h:=ofBo h;obtain ⟨z261,z262,pos,h⟩:=h;replace h:=ofOr h;obtain ⟨h⟩:=h;replace h:=zbh h;obtain ⟨v,z263,h⟩:=h;replace h:=zbh h;obtain ⟨w,rest,h⟩:=h;simp only [Bool.and_eq_true] at h
  cases rest with
  | nil=>exact ztX (okE a C v X h.1 G) (zpG (okE b C w X h.2 G))
  | cons y ys=>exact ztX (okE a C v X h.1 G) (okE b C _ X h.2 G)
 | .not a,C,e,X,h,G=>by
  replace h:=ofUn h;obtain ⟨z265,x,p1_,h⟩:=h;replace h:=ofNo h;obtain ⟨h⟩:=h;exact zt4 (okE a C _ X h G)
 | .ife c a b,C,e,X,h,G=>by
  replace h:=ofIf h;obtain ⟨t,x,y,p3_,h⟩:=h;simp only [Bool.and_eq_true] at h;exact zuC (okT c C _ X h.1.1 G).1 (okE a C _ X h.1.2 G) (okE b C _ X h.2 G)
 | .tup es,C,e,X,h,G=>by
  replace h:=ofTu h;obtain ⟨xs,p1_,p2_,h⟩:=h;simp only [Bool.and_eq_true] at h
  exact ztk (okEs es C _ X h.1 G) (of_decide_eq_true h.2) (λσ h0 rs h' e=>by rw [zdf e];exact zba h.1)
 | .lst m l,C,e,X,h,G=>by
  cases l with
  | disp es=>exact zis m (okL (.disp es) C e X h G)
  | comp tg it cs el=>exact zis m (zcZ.il G.nox G.calm (okL (.comp tg it cs el) C e X h G))
  | of a=>exact zis m (okL (.of a) C e X h G)
  | cat a b=>exact zis m (okL (.cat a b) C e X h G)
  | ofR a=>exact zis m (okL (.ofR a) C e X h G)
 | .idx a i,C,e,X,h,G=>by
  replace h:=ofSu h;obtain ⟨x,y,p2_,h⟩:=h;simp only [Bool.and_eq_true,Bool.not_eq_true'] at h;exact zti (okE a C _ X h.1.1 G) (okE i C _ X h.1.2 G) (zjq h.2)
 | .sli a lo hi,C,e,X,h,G=>by
  replace h:=ofSu h;obtain ⟨x,z270,pos,h⟩:=h;replace h:=ofSl h;obtain ⟨l,u,z271,p2,h⟩:=h;replace h:=zkc h;obtain ⟨h⟩:=h;simp only [Bool.and_eq_true] at h
  have non:∀ {z:E},zeL z=true->PO X none (tO X.K (ev Γ z)):=by
   intro z hz;unfold zeL at hz
   split at hz
   ·exact zq2
   ·cases hz
  have hl:PO X l (tO X.K (ev Γ lo)):=by
   cases l with
   | none=>exact non h.1.2
   | some y=>exact zmS (okE lo C y X h.1.2 G)
  have hu:PO X u (tO X.K (ev Γ hi)):=by
   cases u with
   | none=>exact non h.2
   | some y=>exact zmS (okE hi C y X h.2 G)
  exact ztJ (okE a C x X h.1.1 G) hl hu
 | .call f es,C,e,X,h,G=>by
  replace h:=ofCN h;obtain ⟨x,p,z274,pos,h⟩:=h;replace h:=zbh h;obtain ⟨v,vs,h⟩:=h;simp only [Bool.and_eq_true] at h;have st:=zaG h.2
  cases hp:C.fns[f]? with
  | none=>rw [hp] at h;simp at h
  | some q=>
   rw [hp] at h;have hx:=eq_of_beq h.1.1.1;subst hx
   exact znH (G.funs f q hp) G.room (zcH G h.1.1.2) (okEs es C _ X h.2 G) (λσ h0 rs h' e=>by rw [zdf e];exact zba h.2) (zbi h.1.2).1 (zak (st v (by simp))) (zaR λy hy=>st y (by simp [hy]))
 | .bi b es,C,e,X,h,G=>by
  replace h:=ofCN h;obtain ⟨x,p,z278,pos,h⟩:=h;replace h:=zbh h;obtain ⟨v,vs,h⟩:=h;simp only [Bool.and_eq_true] at h;have st:=zaG h.2;exact zuJ G h.1.1.1 (eq_of_beq h.1.1.2) (zcH G h.1.2) (okEs es C _ X h.2 G) (zak (st v (by simp))) (zaR λy hy=>st y (by simp [hy]))
 | .me m o es,C,e,X,h,G=>by
  replace h:=ofCA h;obtain ⟨ov,name,apos,vs,cpos,h⟩:=h
  cases vs with
  | cons v vs=>
   simp only [Bool.and_eq_true] at h;obtain ⟨⟨⟨⟨⟨⟨h0,h1⟩,h2⟩,h3⟩,h4⟩,h5⟩,h6⟩:=h;have st:=zaG h4;have h7:(v::vs).length<20:=of_decide_eq_true h6;have few:=zmn (env:=X.env) (cpos:=cpos) st (by assumption)
   cases m with
   | append=>exact zlq (okE o C ov X h3 G) (okEs es C _ X h4 G) (eq_of_beq h1) (zcB h2) few h5 (zak (st v (by simp))) (zaR λy hy=>st y (by simp [hy]))
   | extend=>exact zm2 (okE o C ov X h3 G) (okEs es C _ X h4 G) (eq_of_beq h1) (zcB h2) few h5 (zak (st v (by simp))) (zaR λy hy=>st y (by simp [hy]))
   | popAt=>exact znQ (okE o C ov X h3 G) (okEs es C _ X h4 G) (eq_of_beq h1) (zcB h2) few h5 (zak (st v (by simp))) (zaR λy hy=>st y (by simp [hy]))
   | pop=>exact noT h0.1
   | clear=>exact noT h0.1
  | nil=>
   simp only [Bool.and_eq_true] at h;obtain ⟨⟨⟨⟨⟨h0,h1⟩,h2⟩,h3⟩,h4⟩,h5⟩:=h
   cases es with
   | cons _ _=>exact noT h4
   | nil=>
    cases m with
    | append=>exact noT h0.1
    | popAt=>exact noT h0.1
    | extend=>exact noT h0.1
    | pop=>simp [meOn] at h0
    | clear=>simp [meOn] at h0
 | .glo d,C,e,X,h,G=>by
  replace h:=ofNm h;obtain ⟨x,pos,h⟩:=h;simp only [Bool.and_eq_true] at h;obtain ⟨⟨h1,h2⟩,h3⟩:=h
  cases hd:C.globs.lookup x with
  | none=>rw [hd] at h1;cases h1
  | some d'=>
   rw [hd] at h1;have e:=D.same_eq _ _ h1;subst e;obtain ⟨u,v,e1,e2,e3⟩:=G.glob x d hd;exact zil (zq5 (zcH G h2) e1 e2 (zbi h3).1) e3
 | .isi t a,C,e,X,h,G=>by
  replace h:=ofCN h;obtain ⟨x,p,z293,pos,h⟩:=h;replace h:=zbh h;obtain ⟨v,z294,h⟩:=h;replace h:=zbq h;obtain ⟨z295,h⟩:=h;replace h:=ofNm h;obtain ⟨y,p2,h⟩:=h;simp only [Bool.and_eq_true] at h;obtain ⟨⟨⟨⟨⟨h1,h2⟩,h3⟩,h4⟩,h5⟩,h6⟩:=h;have hx:=eq_of_beq h1;subst hx;have hy:=eq_of_beq h5
  have hb:y∈zdz:=by rw [hy];cases t<;>decide
  exact zul (zcH G h2) (G.blt _ (by decide)) (okE a C v X h4 G) hy (zcH G h6) (G.blt _ hb) (by rw [zak h3];rfl)
 | .lm m o a,C,e,X,h,G=>by
  replace h:=ofCA h;obtain ⟨ov,name,apos,z304,cpos,h⟩:=h;replace h:=zbq h;obtain ⟨v,h⟩:=h;simp only [Bool.and_eq_true] at h;obtain ⟨⟨⟨⟨⟨h1,h2⟩,h3⟩,h4⟩,h5⟩,h6⟩:=h
  have st:∀ y∈[v],zan y=true:=by intro y hy;simp at hy;rw [hy];exact h4
  have few:=zmn (env:=X.env) (cpos:=cpos) st (by simp)
  by_cases hm:m=.countT
  ·subst hm
   exact ztq G.room.units (okE o C ov X h3 G) (okE a C v X h5 G) (eq_of_beq h1) (zjc h2) few h6 (zak h4) rfl
  ·exact zvs G.room.units hm (okE o C ov X h3 G) (okE a C v X h5 G) (eq_of_beq h1) (zjc h2) few h6 (zak h4) rfl
 | .fld o f,C,e,X,h,G=>by
  replace h:=ofAt h;obtain ⟨ov,name,p2_,h⟩:=h;simp only [Bool.and_eq_true] at h;obtain ⟨⟨h1,h2⟩,h3⟩:=h;have hx:=eq_of_beq h1;subst hx;exact ztE (okE o C _ X h3 G) (zjc h2)
 | .make c f es,C,e,X,h,G=>by
  replace h:=ofCN h;obtain ⟨x,p,z316,pos,h⟩:=h;replace h:=zbh h;obtain ⟨v,vs,h⟩:=h;simp only [Bool.and_eq_true,List.any_eq_true] at h;obtain ⟨⟨⟨⟨h1,i,hi,h2,h2'⟩,h3⟩,h4⟩,h5⟩:=h;have hx:=eq_of_beq h1;subst hx;have hn:=eq_of_beq h2;have hf:=eq_of_beq h2';obtain ⟨np,M⟩:=G.makes i hi;rw [hn,hf] at M;have st:=zaG h5;exact zrC M G.room1 (zcH G h3) (okEs es C _ X h5 G) (zbi h4).1 (zak (st v (by simp))) (zaR λy hy=>st y (by simp [hy]))
 | .mc c m f o es,C,e,X,h,G=>by
  replace h:=ofCA h;obtain ⟨ov,name,apos,vs,cpos,h⟩:=h
  cases vs with
  | cons v vs=>
   simp only [Bool.and_eq_true,List.any_eq_true] at h;obtain ⟨⟨⟨⟨⟨⟨h1,i,hi,h2,h2'⟩,h3⟩,h4⟩,h5⟩,h6⟩,h7⟩:=h;have hx:=eq_of_beq h1;subst hx;have hn:=eq_of_beq h2;obtain ⟨np,M⟩:=G.meths i hi _ (List.contains_iff_mem.mp h2');rw [hn] at M;have st:=zaG h5;have h7:(v::vs).length<20:=of_decide_eq_true h7;have few:=zmn (env:=X.env) (cpos:=cpos) st (by assumption);exact zvF M G.room (okE o C _ X h4 G) (okEs es C _ X h5 G) (zak (st v (by simp))) (zaR λy hy=>st y (by simp [hy])) (zhw (zcB h3) few h6)
  | nil=>
   simp only [Bool.and_eq_true,List.any_eq_true] at h;obtain ⟨⟨⟨⟨⟨h1,i,hi,h2,h2'⟩,h3⟩,h4⟩,h5⟩,h6⟩:=h;have hx:=eq_of_beq h1;subst hx;have hn:=eq_of_beq h2;obtain ⟨np,M⟩:=G.meths i hi _ (List.contains_iff_mem.mp h2');rw [hn] at M
   cases es with
   | cons _ _=>exact noT h5
   | nil=>exact ztI M G.room (okE o C _ X h4 G) (zhw (zcB h3) (by rfl) h6)
 | .lstO tg it cs el,C,e,X,h,G=>by
  replace h:=ofLC h;obtain ⟨elt,z319,sc,pos,h⟩:=h;replace h:=zbq h;obtain ⟨g,h⟩:=h;obtain ⟨gt,gi,gifs,ga⟩:=g;simp only [Bool.and_eq_true,Bool.not_eq_true'] at h;obtain ⟨⟨⟨⟨⟨⟨h1,h2⟩,h3⟩,h4,h4'⟩,h5⟩,h6⟩,h7⟩:=h
  have ea:ga=0:=by simpa using h1
  subst ea;refine zcZ.io G.nox G.calm ⟨elt,gt,gi,gifs,sc,pos,(blkC C sc (zbr tg gt)).N,rfl,zlr G h3,okI it C gi X h5 G gt h4',λcl pins s₂ H₂ Cc fp=>?_,zg6 h2⟩;have G':=G.blk h3 cl pins s₂ H₂ Cc fp;exact ⟨zoY G' tg gt h4,okTs cs _ gifs _ h6 G',okE el _ elt _ h7 G'⟩
 | .oix a i,C,e,X,h,G=>by
  replace h:=ofSu h;obtain ⟨x,y,p2_,h⟩:=h;simp only [Bool.and_eq_true,Bool.not_eq_true'] at h;exact zuj (okE a C _ X h.1.1 G) (okE i C _ X h.1.2 G) (zjq h.2)
 | .olen a,C,e,X,h,G=>by
  replace h:=ofCN h;obtain ⟨x,p,z324,pos,h⟩:=h;replace h:=zbq h;obtain ⟨v,h⟩:=h;simp only [Bool.and_eq_true] at h;have hx:=eq_of_beq h.1.1.1;subst hx;exact zqy (zcH G h.1.1.2) (G.blt _ (by decide)) (okE a C v X h.2 G) (zak h.1.2)
 | .call0 f,C,e,X,h,G=>by
  replace h:=ofCN h;obtain ⟨x,p,z329,pos,h⟩:=h;replace h:=zjk h;obtain ⟨h⟩:=h;simp only [Bool.and_eq_true] at h
  cases hp:C.fns[f]? with
  | none=>rw [hp] at h;simp at h
  | some q=>
   rw [hp] at h;have hx:=eq_of_beq h.1.1;subst hx;exact zo3 (G.funs f q hp) G.room (zcH G h.1.2) (zbi h.2).1
 | .stuck,C,e,X,h,G=>zos
theorem okEs {Γ:Calls} {n:Nat}:∀ (as:List E) (C:Cst) (es:List Expr) (X:Cx),chkEs as C es=true->Good Γ n C X->IA X es (evs Γ as)
 | [],C,es,X,h,G=>by
  cases es with
  | nil=>exact zuq
  | cons _ _=>exact noT h
 | a::as,C,es,X,h,G=>by
  cases es with
  | nil=>exact noT h
  | cons e es=>
   change ((zan _&&chkE _ _ _)&&chkEs _ _ _)=true at h;simp only [Bool.and_eq_true] at h;exact zrW (okE a C e X h.1.2 G) (okEs as C es X h.2 G) (zak h.1.1)
theorem okT {Γ:Calls} {n:Nat}:∀ (t:T) (C:Cst) (e:Expr) (X:Cx),chkT t C e=true->Good Γ n C X->IT' X e (tv Γ t)/\(zpU e=true->PW X e (tTv X.K (tv Γ t)))
 | .val q,C,e,X,h,G=>by
  cases q with
  | cmp o a b=>
   replace h:=zlZ h;replace h:=ofCm h;obtain ⟨l,z353,z355,p3_,h⟩:=h;replace h:=zbq h;obtain ⟨op,h⟩:=h;replace h:=zbq h;obtain ⟨r,h⟩:=h;simp only [Bool.and_eq_true,Bool.not_eq_true'] at h;exact ⟨ztx (m:=mD (cop o)) (OpD.opI (coBe G.room.units h.1.1.1)) (okE a C _ X h.1.1.2 G) (okE b C _ X h.1.2 G) (zmc h.2) (λx y h0 r h1 e=>zuH e),λz=>by first | exact noT z | exact noF z⟩
  | stuck=>
   refine ⟨λpins s σ H Q I q=>?_,λ_ whole pins s σ H Q I q=>?_⟩
   ·obtain ⟨μ,h,env,R0,re,t,h',e,k⟩:=q
    cases e
   ·obtain ⟨μ,h,env,R0,re,t,h',e,k⟩:=q
    cases e
  | lst m l=>exact zhI (okE (.lst m l) C e X (zlZ h) G) h (by intro _ ops rs pos z;subst z;cases l<;>exact noT (zlZ h))
  | _=>exact zhI (okE _ C e X (zlZ h) G) h (by intro l ops rs pos z;subst z;exact noT (zlZ h))
 | .and a b,C,e,X,h,G=>by
  replace h:=ofBo h;obtain ⟨z363,z364,pos,h⟩:=h;replace h:=ofAn h;obtain ⟨h⟩:=h;replace h:=zbh h;obtain ⟨v,z365,h⟩:=h;replace h:=zbh h;obtain ⟨w,rest,h⟩:=h;simp only [Bool.and_eq_true] at h
  have key:PW X (.BoolOp .And (v::w::rest) pos) (tTv X.K (tv Γ (.and a b))):=by
   cases rest with
   | nil=>exact zp7 (tb:=λ_ _ _=>True) (okT a C v X h.1 G).1 (zqk (okT b C w X h.2 G).1)
   | cons y ys=>exact zp7 (tb:=λ_ _ _=>True) (okT a C v X h.1 G).1 ((okT b C _ X h.2 G).2 rfl)
  exact ⟨key.pt,λ_=>key⟩
 | .or a b,C,e,X,h,G=>by
  replace h:=ofBo h;obtain ⟨z367,z368,pos,h⟩:=h;replace h:=ofOr h;obtain ⟨h⟩:=h;replace h:=zbh h;obtain ⟨v,z369,h⟩:=h;replace h:=zbh h;obtain ⟨w,rest,h⟩:=h;simp only [Bool.and_eq_true] at h
  have key:PW X (.BoolOp .Or (v::w::rest) pos) (tTv X.K (tv Γ (.or a b))):=by
   cases rest with
   | nil=>exact ztv (okT a C v X h.1 G).1 (ztB (okT b C w X h.2 G).1)
   | cons y ys=>exact ztv (okT a C v X h.1 G).1 ((okT b C _ X h.2 G).2 rfl)
  exact ⟨key.pt,λ_=>key⟩
 | .not a,C,e,X,h,G=>by
  replace h:=ofUn h;obtain ⟨z371,x,p1_,h⟩:=h;replace h:=ofNo h;obtain ⟨h⟩:=h;exact ⟨zsk (okT a C _ X h G).1,λz=>by first | exact noT z | exact noF z⟩
theorem okTs {Γ:Calls} {n:Nat}:∀ (ts:List T) (C:Cst) (es:List Expr) (X:Cx),chkTs ts C es=true->Good Γ n C X->PTs X es (tTv X.K (tvs Γ ts))
 | [],C,es,X,h,G=>by
  cases es with
  | nil=>
   intro pins s σ H Q I ⟨μ,h0,env,R0,re,t,h',e,k⟩;simp only [tvs,zac] at e;obtain ⟨rfl,rfl⟩:=e;exact zqH pins s σ H Q I (k μ H true Stp.refl R0 rfl)
  | cons _ _=>exact noT h
 | t :: ts,C,es,X,h,G=>by
  cases es with
  | nil=>exact noT h
  | cons e es=>
   change ((chkT _ _ _&&chkTs _ _ _)&&List.isEmpty _)=true at h;simp only [Bool.and_eq_true] at h;obtain ⟨⟨h1,h2⟩,h3⟩:=h
   cases es with
   | cons _ _=>simp at h3
   | nil=>
    cases ts with
    | cons _ _=>exact noT h2
    | nil=>
     intro pins s σ H Q I ⟨μ,h0,env,R0,re,t',h',e,k⟩;simp only [tvs,zab] at e;obtain ⟨t1,h1',e1,e2⟩:=e;refine zrR (okT t C _ X h1 G).1 pins s σ H Q I ⟨μ,h0,env,R0,re,t1,h1',e1,λμ1 H1 b s1 R1 hb=>?_⟩;subst hb
     cases t1 with
     | true=>
      simp only [if_true,zac] at e2;obtain ⟨rfl,rfl⟩:=e2;exact k μ1 H1 _ s1 R1 rfl
     | false=>
      simp only [Bool.false_eq_true,if_false,zac] at e2;obtain ⟨rfl,rfl⟩:=e2;exact k μ1 H1 _ s1 R1 rfl
theorem okL {Γ:Calls} {n:Nat}:∀ (l:L) (C:Cst) (e:Expr) (X:Cx),chkL l C e=true->Good Γ n C X->match l with
  | .disp es=>IL X e (evL Γ (.disp es))
  | .comp tg it cs el=>zcZ Γ X tg it cs el e
  | .of a=>IL X e (evL Γ (.of a))
  | .cat a b=>IL X e (evL Γ (.cat a b))
  | .ofR a=>IL X e (evL Γ (.ofR a))
 | .disp es,C,e,X,h,G=>by
  replace h:=ofLi h;obtain ⟨xs,p1_,h⟩:=h;simp only [Bool.and_eq_true] at h
  exact zro (okEs es C _ X h.1 G) (of_decide_eq_true h.2) (λσ h0 rs h' e=>by rw [zdf e];exact zba h.1)
 | .comp tg it cs el,C,e,X,h,G=>by
  replace h:=ofLC h;obtain ⟨elt,z374,sc,pos,h⟩:=h;replace h:=zbq h;obtain ⟨g,h⟩:=h;obtain ⟨gt,gi,gifs,ga⟩:=g;simp only [Bool.and_eq_true,Bool.not_eq_true'] at h;obtain ⟨⟨⟨⟨⟨⟨h1,h2⟩,h3⟩,h4,h4'⟩,h5⟩,h6⟩,h7⟩:=h
  have ea:ga=0:=by simpa using h1
  subst ea;refine ⟨elt,gt,gi,gifs,sc,pos,(blkC C sc (zbr tg gt)).N,rfl,zlr G h3,okI it C gi X h5 G gt h4',λcl pins s₂ H₂ Cc fp=>?_,zg6 h2⟩;have G':=G.blk h3 cl pins s₂ H₂ Cc fp;exact ⟨zoY G' tg gt h4,okTs cs _ gifs _ h6 G',okE el _ elt _ h7 G'⟩
 | .of a,C,e,X,h,G=>by
  replace h:=ofCN h;obtain ⟨x,p1_,z378,p3_,h⟩:=h;replace h:=zbq h;obtain ⟨v,h⟩:=h;simp only [Bool.and_eq_true] at h;obtain ⟨⟨⟨h1,h2⟩,h3⟩,h4⟩:=h;have hx:=eq_of_beq h1;subst hx;exact zu0 (zcH G h2) (G.blt _ (by decide)) (okE a C _ X h4 G) (zak h3)
 | .cat a b,C,e,X,h,G=>by
  replace h:=ofBi h;obtain ⟨l,z387,r,p2_,h⟩:=h;replace h:=ofAd h;obtain ⟨h⟩:=h;simp only [Bool.and_eq_true] at h;exact ztw (okE a C _ X h.1 G) (okE b C _ X h.2 G)
 | .ofR a,C,e,X,h,G=>by
  replace h:=ofCN h;obtain ⟨x,p1_,z390,p6_,h⟩:=h;replace h:=zbq h;obtain ⟨z391,h⟩:=h;replace h:=ofCN h;obtain ⟨y,p3_,z393,p5_,h⟩:=h;replace h:=zbq h;obtain ⟨v,h⟩:=h;simp only [Bool.and_eq_true] at h;obtain ⟨⟨⟨⟨⟨h1,h2⟩,h3⟩,h4⟩,h5⟩,h6⟩:=h;have hx:=eq_of_beq h1;have hy:=eq_of_beq h3;subst hx hy;exact zs6 G.calm (zcH G h2) (G.blt _ (by decide)) (zcH G h4) (G.blt _ (by decide)) (okE a C _ X h6 G) (zak h5)
theorem okI {Γ:Calls} {n:Nat}:∀ (it:I) (C:Cst) (e:Expr) (X:Cx),chkI it C e=true->Good Γ n C X->∀ tg,enuB it tg=true->PI X tg e (tI X.K (evI Γ it))
 | .seq a,C,e,X,h,G,tg,_=>zuh (okE a C e X h G)
 | .enu a,C,e,X,h,G,tg,ht=>by
  replace h:=ofCN h;obtain ⟨x,p,z424,pos,h⟩:=h;replace h:=zbq h;obtain ⟨v,h⟩:=h;simp only [Bool.and_eq_true] at h;obtain ⟨⟨⟨h1,h2⟩,h3⟩,h4⟩:=h;have hx:=eq_of_beq h1;subst hx
  cases tg with
  | Tuple es k tp=>exact zuf (zcH G h2) (G.blt _ (by decide)) (okE a C v X h4 G) (zak h3)
  | _=>first | exact noT ht | exact noF ht
 | .rng a,C,e,X,h,G,tg,_=>by
  replace h:=ofCN h;obtain ⟨x,p,z429,pos,h⟩:=h;replace h:=zbq h;obtain ⟨v,h⟩:=h;simp only [Bool.and_eq_true] at h;have hx:=eq_of_beq h.1.1.1;subst hx;exact ztn (zcH G h.1.1.2) (G.blt _ (by decide)) (okE a C v X h.2 G) (zak h.1.2)
end
theorem zo6 {C:Cst} {a:E} {x1:Expr} {x2:_} {x3:_} {x4:_} (h:chkE a C (.SetComp x1 x2 x3 x4)=true):a=.stuck:=by
 cases a with
 | stuck=>rfl
 | lst m l=>cases l<;>exact noT h
 | _=>exact noT h
theorem zob {C:Cst} {a:E} {x0 x1:Expr} {x2:_} {x3:_} {x4:_} (h:chkE a C (.DictComp x0 x1 x2 x3 x4)=true):a=.stuck:=by
 cases a with
 | stuck=>rfl
 | lst m l=>cases l<;>exact noT h
 | _=>exact noT h
theorem zoa {C:Cst} {a:E} {x1:Expr} {x2:_} {x3:_} {x4:_} (h:chkE a C (.ListComp x1 x2 x3 x4)=true) (hO:zmW a=false):a=.stuck\/∃ m tg it cs el,a=.lst m (.comp tg it cs el):=by
 cases a with
 | stuck=>exact .inl rfl
 | lst m l=>
  cases l with
  | comp tg it cs el=>exact .inr ⟨m,tg,it,cs,el,rfl⟩
  | _=>exact noT h
 | lstO=>exact noF hO
 | _=>exact noT h
theorem zok {Γ:Calls} {n:Nat} {C:Cst} {X:Cx} (G:Good Γ n C X) {tg:Tg} {a:E} {t v:Expr} {pos:Pos} (h1:zeD C tg t=true) (h3:chkE a C v=true) (h2:zan t=true) (h4:(zd5 t&&zd5 v)=false) (hc:zfP v=true) (hn:zeW t=true) (hO:zmW a=false) :
  PS X (.Assign [t] v pos) (tS X.K λσ=>bnd (ev Γ a σ) λr=>bnd (zaT tg r σ) λσ'=>ok (.nx,σ')):=by
 have g:=okTg G tg t h1
 cases t with
 | Name y py=>
  cases tg with
  | tup ts=>exact noT h1
  | name iy=>
   cases v with
   | ListComp elt gens sc cpos=>
    have hb:∃ b,swapsWith (.ListComp elt gens sc cpos) (some (.Name y py)) pos.line X.env=pure b:=⟨_,rfl⟩;obtain ⟨b,hb⟩:=hb
    cases b with
    | false=>exact zp8 (okE a C _ X h3 G) g hb (zdN h4) (zgT h2)
    | true=>
     rcases zoa h3 hO with rfl | ⟨m,tg2,it,cs,el,rfl⟩
     ·exact λpins s σ H D I ⟨μ,h,env,R0,re,fl,env',h',e,k⟩=>by cases e
     ·obtain ⟨elt',gt,gi,gifs,sc',pos',N',e,ok,hi,hB,hs⟩:=okL (Γ:=Γ) (n:=n) (.comp tg2 it cs el) C _ X h3 G
      cases e;change (_&&locB C _)=true at h1;simp only [Bool.and_eq_true] at h1;obtain ⟨l1,l2⟩:=zl0 G h1.2
      refine PS.imp (ziH G.nox G.calm ok hi hB hs hb (zmR G.nd (by rw [G.N];exact eq_of_beq h1.1) l1 l2)) λD σ H q=>?_
      have q1:=zpE q;have q2:=zpl (fl:=evL Γ (.comp tg2 it cs el)) (m:=m) q1;exact zcZ.read (q2.imp λv H1 z=>zko z)
   | SetComp _ _ _ _=>
    obtain rfl:=zo6 h3
    exact λpins s σ H D I ⟨μ,h,env,R0,re,fl,env',h',e,k⟩=>by cases e
   | DictComp _ _ _ _ _=>
    obtain rfl:=zob h3
    exact λpins s σ H D I ⟨μ,h,env,R0,re,fl,env',h',e,k⟩=>by cases e
   | _=>first | exact noT hc | exact noF hc
 | _=>first | exact noT hn | exact noF hn
theorem swA {v ov:Expr} {name:Str} {p2:Pos} {l:Nat} {env:PySem.Env}:swapsWith v (some (.Attribute ov name p2)) l env=pure false:=by
 cases v<;>rfl
mutual
theorem okS {Γ:Calls} {n:Nat}:∀ (s:S) (C:Cst) (st:Stmt) (X:Cx),chkS s C st=true->Good Γ n C X->PS X st (tS X.K (ex Γ s))
 | .asg tg a,C,st,X,h,G=>by
  replace h:=ofAs h;obtain ⟨z439,v,pos,h⟩:=h;replace h:=zbq h;obtain ⟨t,h⟩:=h;simp only [Bool.and_eq_true,Bool.not_eq_true',Bool.or_eq_true] at h;obtain ⟨⟨⟨⟨h1,h2⟩,h3⟩,h4⟩,h5⟩:=h
  rcases h5 with h5 | h5
  ·exact zp8 (okE a C v X h3 G) (okTg G tg t h1) (zi2 h5) (zdN h4) (zgT h2)
  ·exact zok G h1 h3 h2 h4 h5.1.1 h5.1.2 h5.2
 | .setI o i a,C,st,X,h,G=>by
  replace h:=ofAs h;obtain ⟨z442,v,pos,h⟩:=h;replace h:=zbq h;obtain ⟨z443,h⟩:=h;replace h:=ofSu h;obtain ⟨ov,iv,p2,h⟩:=h;simp only [Bool.and_eq_true,Bool.not_eq_true'] at h;obtain ⟨⟨⟨⟨h1,h2⟩,h3⟩,h4⟩,h5⟩:=h;exact zru (okE a C v X h1 G) (okE o C ov X h2 G) (okE i C iv X h3 G) (zrO h5) (zi2 h4) (zdN (by rfl)) (zgT rfl)
 | .setF o f a,C,st,X,h,G=>by
  replace h:=ofAs h;obtain ⟨z446,v,pos,h⟩:=h;replace h:=zbq h;obtain ⟨z447,h⟩:=h;replace h:=ofAt h;obtain ⟨ov,name,p2,h⟩:=h;simp only [Bool.and_eq_true] at h;have hx:=eq_of_beq h.1.1;subst hx;exact zri (okE a C v X h.1.2 G) (okE o C ov X h.2 G) (swA)
 | .setN c o f a,C,st,X,h,G=>by
  replace h:=ofAs h;obtain ⟨z450,v,pos,h⟩:=h;replace h:=zbq h;obtain ⟨z451,h⟩:=h;replace h:=ofAt h;obtain ⟨ov,name,p2,h⟩:=h;simp only [Bool.and_eq_true,List.any_eq_true] at h;obtain ⟨⟨⟨h1,i,hi,h2,h2'⟩,h3⟩,h4⟩:=h;have hx:=eq_of_beq h1;subst hx;have hn:=eq_of_beq h2
  exact zqI (okE a C v X h3 G) (okE o C ov X h4 G) (swA) λA hA=>G.attrs i hi _ (List.contains_iff_mem.mp h2') A (by rw [hn];exact hA)
 | .exp a,C,st,X,h,G=>by
  replace h:=ofEx h;obtain ⟨v,p1_,h⟩:=h;simp only [Bool.and_eq_true,Bool.not_eq_true'] at h;exact zpY (okE a C _ X h.1 G) (zom h.2)
 | .ife c a b,C,st,X,h,G=>by
  replace h:=zsU h;obtain ⟨t,x,y,p3_,h⟩:=h;simp only [Bool.and_eq_true] at h;exact zuM (okT c C _ X h.1.1 G).1 (okSs a C _ X h.1.2 G) (okSs b C _ X h.2 G)
 | .for tg it body,C,st,X,h,G=>by
  replace h:=ofFo h;obtain ⟨t,iter,b,z456,p3_,h⟩:=h;replace h:=zjk h;obtain ⟨h⟩:=h;simp only [Bool.and_eq_true,Bool.not_eq_true'] at h;obtain ⟨⟨⟨⟨h1,h1'⟩,h2⟩,h3⟩,h4⟩:=h
  exact zua (by rw [G.nox];exact PassesOwn.never) G.calm (okI it C _ X h2 G _ h1') (zoY G tg _ h1) (okSs body C _ X h3 G) (zg6 h4) (λσ h w h' e=>zg7 e)
 | .ret a,C,st,X,h,G=>by
  replace h:=ofRe h;obtain ⟨z458,p1_,h⟩:=h;replace h:=zlg h;obtain ⟨v,h⟩:=h;exact zux (okE a C _ X h G)
 | .retN,C,st,X,h,G=>by
  replace h:=ofRe h;obtain ⟨z460,p0_,h⟩:=h;replace h:=zkc h;obtain ⟨h⟩:=h;exact zr4
 | .brk,C,st,X,h,G=>noT h
 | .cnt,C,st,X,h,G=>noT h
 | .whl c b,C,st,X,h,G=>by
  replace h:=ofWh h;obtain ⟨t,x,z465,p2_,h⟩:=h;replace h:=zjk h;obtain ⟨h⟩:=h;simp only [Bool.and_eq_true] at h
  exact zog (by rw [G.nox];exact PassesOwn.never) (okT c C _ X h.1 G).1 (okSs b C _ X h.2 G) zby
 | .rai c es,C,st,X,h,G=>zjw
 | .tryc f es c i d,C,st,X,h,G=>by
  replace h:=ofTr h;obtain ⟨z475,z482,z495,z496,p15_,h⟩:=h;replace h:=zbq h;obtain ⟨z476,h⟩:=h;replace h:=ofEx h;obtain ⟨z477,p5_,h⟩:=h;replace h:=ofCN h;obtain ⟨x,p1_,z479,p4_,h⟩:=h;replace h:=zbh h;obtain ⟨v,vs,h⟩:=h;replace h:=zbq h;obtain ⟨z483,h⟩:=h;replace h:=ofHa h;obtain ⟨z484,z486,z487,p14_,h⟩:=h;replace h:=zlg h;obtain ⟨z485,h⟩:=h;replace h:=ofNm h;obtain ⟨y,p7_,h⟩:=h;replace h:=zkc h;obtain ⟨h⟩:=h;replace h:=zbq h;obtain ⟨z488,h⟩:=h;replace h:=ofAs h;obtain ⟨z489,z492,p13_,h⟩:=h;replace h:=zbq h;obtain ⟨z490,h⟩:=h;replace h:=ofNm h;obtain ⟨z,p9_,h⟩:=h;replace h:=ofCo h;obtain ⟨k,p11_,p12_,h⟩:=h;replace h:=zjk h;obtain ⟨h⟩:=h;replace h:=zjk h;obtain ⟨h⟩:=h;simp only [Bool.and_eq_true] at h;obtain ⟨⟨⟨⟨⟨⟨⟨⟨⟨⟨h1,h2⟩,h3⟩,h4⟩,h5⟩,h6⟩,h7⟩,h8⟩,h9⟩,h10⟩,h11⟩:=h;have st:=zaG h4;obtain ⟨cv,Ex⟩:=G.excs
  cases hp:C.fns[f]? with
  | none=>rw [hp] at h1;cases h1
  | some q=>
   rw [hp] at h1;have hx:=eq_of_beq h1;subst hx
   cases hc:C.exs[c]? with
   | none=>rw [hc] at h5;cases h5
   | some u=>
    rw [hc] at h5;have hu:=eq_of_beq h5;subst hu;obtain ⟨Ca,e1,e2,e3,e4⟩:=Ex.cls c _ hc;obtain ⟨l1,l2⟩:=zl0 G h9
    exact zrF G.nox (G.defc h11) (G.funs f q hp) (Ex.funs f q hp) G.room (zcH G h2) (okEs es C _ X h4 G) (λσ h0 rs h' e=>by rw [zdf e];exact zba h4) (zbi h3).1 (zak (st _ (.head _))) (zaR λy hy=>st y (.tail _ hy)) (zcH G h6) e1 (zbi h7).1 e2 e4 G.nd (by rw [G.N];exact eq_of_beq h8) l1 l2 (λX'=>zpJ h10) rfl
 | .stuck,C,st,X,h,G=>zjw
theorem okSs {Γ:Calls} {n:Nat}:∀ (ss:List S) (C:Cst) (sts:List Stmt) (X:Cx),chkSs ss C sts=true->Good Γ n C X->PSs X sts (tS X.K (exs Γ ss))
 | [],C,sts,X,h,G=>by
  cases sts with
  | nil=>exact zr8
  | cons _ _=>exact noT h
 | s::ss,C,sts,X,h,G=>by
  cases sts with
  | nil=>exact noT h
  | cons st sts=>
   change (chkS _ _ _&&chkSs _ _ _)=true at h;simp only [Bool.and_eq_true] at h;exact zoj (okS s C st X h.1 G) (okSs ss C sts X h.2 G)
end
end IT
namespace IT
open PySem PySem.Spec L2
structure Thr (X:Cx) (cv:ClsV) (E:R->Hp->Prop):Prop where
 own:PassesOwn (model X.prog X.w) X.A X.env X.xe
 pass:zc0 (CXk X.prog X.w) X (wX cv E)
 made:∀ pins σ H s h' a C vs,Inv X pins σ H s->Heap.MadeExcOf s.heap h' a C vs->wX cv E C none H->X.xe (.ref a) { s with heap:=h' }
mutual
theorem okX {Γ:Calls} {n:Nat} {cv:ClsV} {E:R->Hp->Prop}:∀ (s:S) (C:Cst) (st:Stmt) (X:Cx),chkS s C st=true->Good Γ n C X.nox->Excs Γ n C X cv->Thr X cv E->XS X E st (exX Γ s)
 | .asg tg a,C,st,X,h,G,Ex,T=>by
  cases a with
  | call f es=>
   replace h:=ofAs h;obtain ⟨z498,v,pos,h⟩:=h;replace h:=zbq h;obtain ⟨t,h⟩:=h;simp only [Bool.and_eq_true,Bool.not_eq_true',Bool.or_eq_true] at h;obtain ⟨⟨⟨⟨h1,h2⟩,h3⟩,h4⟩,h5⟩:=h;replace h3:=ofCN h3;obtain ⟨x,p,z512,cpos,h3⟩:=h3;replace h3:=zbh h3;obtain ⟨v,vs,h3⟩:=h3;simp only [Bool.and_eq_true] at h3;have st:=zaG h3.2
   cases hp:C.fns[f]? with
   | none=>rw [hp] at h3;simp at h3
   | some q=>
    rw [hp] at h3;have hx:=eq_of_beq h3.1.1.1;subst hx
    have hpe:=zqO (X:=X) (E:=E) (p:=p) (pos:=cpos) (Ex.funs f q hp) G.room (show Gl X _ from zcH (X:=X.nox) G h3.1.1.2) T.pass (zmZ (okEs es C _ X.nox h3.2 G)) (λσ h0 rs h' e=>by rw [zdf e];exact zba h3.2) (zbi h3.1.2).1 (zak (st v (by simp))) (zaR λy hy=>st y (by simp [hy]))
    refine zsT (znD (pos:=pos) hpe (zpP (okTg G tg t h1)) (zi2 (by rfl)) (zdN h4) (zgT h2)) λσ H q=>?_;exact q
  | _=>exact zaM
 | .rai c es,C,st,X,h,G,Ex,T=>by
  replace h:=ofRa h;obtain ⟨z501,z506,p5_,h⟩:=h;replace h:=zlg h;obtain ⟨z502,h⟩:=h;replace h:=ofCN h;obtain ⟨x,p1_,z504,p4_,h⟩:=h;replace h:=zbh h;obtain ⟨v,vs,h⟩:=h;replace h:=zkc h;obtain ⟨h⟩:=h;simp only [Bool.and_eq_true] at h;obtain ⟨⟨⟨⟨⟨h1,h2⟩,h3⟩,h4⟩,h5⟩,h6⟩:=h;have st:=zaG h4
  cases hc:C.exs[c]? with
  | none=>rw [hc] at h1;cases h1
  | some u=>
   rw [hc] at h1;have hu:=eq_of_beq h1;subst hu;obtain ⟨Ca,e1,e2,e3,e4⟩:=Ex.cls c _ hc;have dc:=G.defc h6
   exact zpa (X:=X) (cv:=cv) (E:=E) ⟨dc.ex,dc.st,dc.fr⟩ G.calm e3 (show Gl X _ from zcH (X:=X.nox) G h2) e1 e2 (zmZ (okEs es C _ X.nox h4 G)) (by rw [<-zba h4];exact of_decide_eq_true h5) (λσ h0 rs h' e=>by rw [zdf e];exact zba h4) (zbi h3).1 (zak (st _ (.head _))) (zaR λy hy=>st y (.tail _ hy)) (λpins σ H s h' a vs I m w=>T.made pins σ H s h' a _ vs I m w)
 | .ife c a b,C,st,X,h,G,Ex,T=>by
  replace h:=zsU h;obtain ⟨t,x,y,p3_,h⟩:=h;simp only [Bool.and_eq_true] at h;exact zvA (PT.nox (okT c C _ X.nox h.1.1 G).1) (okXs a C _ X h.1.2 G Ex T) (okXs b C _ X h.2 G Ex T)
 | .for tg it body,C,st,X,h,G,Ex,T=>by
  replace h:=ofFo h;obtain ⟨t,iter,b,z509,p3_,h⟩:=h;replace h:=zjk h;obtain ⟨h⟩:=h;simp only [Bool.and_eq_true,Bool.not_eq_true'] at h;obtain ⟨⟨⟨⟨h1,h1'⟩,h2⟩,h3⟩,h4⟩:=h;exact zui T.own G.calm (zsW (okI it C _ X.nox h2 G _ h1')) (zpP (zoY G tg _ h1)) (PSs.nox (okSs body C _ X.nox h3 G)) (okXs body C _ X h3 G Ex T) (zg6 h4) (λσ h w h' e=>zg7 e)
 | .setI _ _ _,C,st,X,h,G,Ex,T=>zaM
 | .setF _ _ _,C,st,X,h,G,Ex,T=>zaM
 | .setN _ _ _ _,C,st,X,h,G,Ex,T=>zaM
 | .exp _,C,st,X,h,G,Ex,T=>zaM
 | .ret _,C,st,X,h,G,Ex,T=>zaM
 | .retN,C,st,X,h,G,Ex,T=>zaM
 | .brk,C,st,X,h,G,Ex,T=>zaM
 | .cnt,C,st,X,h,G,Ex,T=>zaM
 | .whl _ _,C,st,X,h,G,Ex,T=>zaM
 | .tryc _ _ _ _ _,C,st,X,h,G,Ex,T=>zaM
 | .stuck,C,st,X,h,G,Ex,T=>zaM
theorem okXs {Γ:Calls} {n:Nat} {cv:ClsV} {E:R->Hp->Prop}:∀ (ss:List S) (C:Cst) (sts:List Stmt) (X:Cx),chkSs ss C sts=true->Good Γ n C X.nox->Excs Γ n C X cv->Thr X cv E->XSs X E sts (exXs Γ ss)
 | [],C,sts,X,h,G,Ex,T=>by
  cases sts with
  | nil=>exact zqo
  | cons _ _=>exact noT h
 | s::ss,C,sts,X,h,G,Ex,T=>by
  cases sts with
  | nil=>exact noT h
  | cons st sts=>
   change (chkS _ _ _&&chkSs _ _ _)=true at h;simp only [Bool.and_eq_true] at h;exact zpj (zs9 (okS s C st X.nox h.1 G)) (okX s C st X h.1 G Ex T) (okXs ss C sts X h.2 G Ex T)
end
end IT
namespace IT
open PySem PySem.Spec L2
section
variable {K:PySem.W.Frag} {μ μ':List Addr} {h h':Sto} {H H':Hp}
theorem RepDs.less (i:∀ a,A' a->A a) (q:RepDs K A H x v):RepDs K A' H x v:=RepDs.mono (λ_ _ z=>z) (λ_ _ n z=>⟨λl=>n (i _ l),z⟩) x v q
theorem RepD.less (i:∀ a,A' a->A a) (q:RepD K A H x v):RepD K A' H x v:=RepD.mono (λ_ _ z=>z) (λ_ _ n z=>⟨λl=>n (i _ l),z⟩) x v q
theorem zeO (st:Stp μ h H μ' h' H') (R0:Rep K μ h H):μ'.take h.length=μ:=by
 have hl:=R0.len;refine List.ext_getElem? λi=>?_
 by_cases hi:i<μ.length
 ·rw [List.getElem?_take_of_lt (by omega),st.pre i μ[i] (List.getElem?_eq_getElem hi),List.getElem?_eq_getElem hi]
 ·rw [List.getElem?_eq_none (by simp;omega),List.getElem?_eq_none (by omega)]
theorem zhU:∀ a,Live (μ'.take n) (h'.take n) a->Live μ' h' a:=by
 rintro a ⟨i,o,e1,e2,e3⟩
 have hi:i<n:=by
  have:=(List.getElem?_eq_some_iff.mp e1).1
  simp at this;omega
 rw [List.getElem?_take_of_lt hi] at e1 e2;exact ⟨i,o,e1,e2,e3⟩
noncomputable def R.locs:R->List Nat
 | .d _=>[]
 | .loc l=>[l]
noncomputable def Ob.locs:Ob->List Nat
 | .lst _=>[]
 | .fro _=>[]
 | .ols ls=>ls
 | .dfr _=>[]
 | .ins _ fs=>(fs.map λp=>R.locs p.2).flatten
theorem zen {α β:Type} {F:α->β->Prop}:∀ {xs:List α} {ys:List β} {x:α},Paired F xs ys->x∈xs->∃ y,F x y
 | _,_,_,.nil,h=>by simp at h
 | _,_,x,.cons r t,h=>by
  rcases List.mem_cons.mp h with rfl | h
  ·exact ⟨_,r⟩
  ·exact zen t h
theorem zdK {α β:Type} {F G:α->β->Prop}:∀ {xs:List α} {ys:List β},Paired F xs ys->(∀ x∈xs,∀ y,F x y->G x y)->Paired G xs ys
 | _,_,.nil,_=>.nil
 | _,_,.cons r t,f=>.cons (f _ (by simp) _ r) (zdK t λx hx=>f x (by simp [hx]))
theorem zlT {a:Addr} {o:Ob} (q:RepO K μ h H a o):∀ l∈o.locs,l<μ.length:=by
 intro l hl
 cases o with
 | lst _=>simp [Ob.locs] at hl
 | fro _=>simp [Ob.locs] at hl
 | dfr _=>simp [Ob.locs] at hl
 | ols ls=>
  obtain ⟨vs,_,z⟩:=q;obtain ⟨v,b,eb,_⟩:=zen z hl;exact (List.getElem?_eq_some_iff.mp eb).1
 | ins c fs=>
  obtain ⟨C,dx,fs',_,_,z⟩:=q;simp only [Ob.locs,List.mem_flatten,List.mem_map] at hl;obtain ⟨_,⟨p,hp,rfl⟩,hl⟩:=hl;obtain ⟨q',_,qr⟩:=zen z hp
  cases hr:p.2 with
  | d x=>rw [hr] at hl;simp [R.locs] at hl
  | loc k=>
   rw [hr] at hl qr;simp [R.locs] at hl;subst hl;obtain ⟨b,eb,_⟩:=qr;exact (List.getElem?_eq_some_iff.mp eb).1
theorem zh1 {μ2:List Addr} {h2:Sto} {a:Addr} (q:RepO K μ' h' H' a o) (lv:∀ b,Live μ2 h2 b->Live μ' h' b) (cl:∀ l∈o.locs,∀ b,μ'[l]?=some b->μ2[l]?=some b):RepO K μ2 h2 H' a o:=by
 cases o with
 | lst xs=>obtain ⟨vs,e,z⟩:=q;exact ⟨vs,e,z.less lv⟩
 | fro xs=>obtain ⟨vs,e,z⟩:=q;exact ⟨vs,e,z.less lv⟩
 | dfr kvs=>obtain ⟨ob,xs,e,z⟩:=q;exact ⟨ob,xs,e,zdK z λp _ r y=>⟨y.1,⟨y.2.1.1,RepD.less lv y.2.1.2⟩,RepD.less lv y.2.2⟩⟩
 | ols ls=>obtain ⟨vs,e,z⟩:=q;exact ⟨vs,e,zdK z λl hl v ⟨b,eb,ev⟩=>⟨b,cl l hl b eb,ev⟩⟩
 | ins c fs=>
  obtain ⟨C,dx,fs',hC,e,z⟩:=q;refine ⟨C,dx,fs',hC,e,zdK z λp hp q' ⟨e1,qr⟩=>⟨e1,?_⟩⟩
  cases hr:p.2 with
  | d x=>rw [hr] at qr;exact RepD.less lv qr
  | loc k=>
   rw [hr] at qr;obtain ⟨b,eb,ev⟩:=qr;refine ⟨b,cl k ?_ b eb,ev⟩;simp only [Ob.locs,List.mem_flatten,List.mem_map]
   exact ⟨_,⟨p,hp,rfl⟩,by rw [hr];simp [R.locs]⟩
theorem R.same_eq {x y:R} (e:x.same y=true):x=y:=by
 cases x with
 | d x=>
  cases y with
  | d y=>rw [D.same_eq x y e]
  | loc _=>cases e
 | loc l=>
  cases y with
  | d _=>cases e
  | loc k=>simp only [R.same] at e;rw [eq_of_beq e]
theorem zhF:∀ {fs gs:List (Str×R)},zdE fs gs=true->fs=gs
  | [],[],_=>rfl
  | [],_::_,e=>by simp [zdE] at e
  | (f,x)::r,[],e=>by simp [zdE] at e
  | (f,x)::r,(g,y)::t,e=>by
    simp only [zdE,Bool.and_eq_true] at e;obtain ⟨⟨e1,e2⟩,e3⟩:=e;rw [eq_of_beq e1,R.same_eq e2,zhF e3]
theorem zh0:∀ {h h1:Sto} {i:Nat} {o1:Ob},objs h h1=true->h1[i]?=some o1->i<h.length->∃ o,h[i]?=some o/\o1.locs=o.locs
 | [],_,_,_,_,_,hi=>by simp at hi
 | o::h,[],_,_,e,_,_=>by simp [objs] at e
 | o::h,o1::t,0,x,e,ex,_=>by
  simp only [List.getElem?_cons_zero,Option.some.injEq] at ex;subst ex;refine ⟨o,rfl,?_⟩;simp only [objs,Bool.and_eq_true] at e;have e:=e.1
  cases o<;>cases o1<;>simp only [Bool.false_eq_true] at e<;>try rfl
  ·simp only [Bool.and_eq_true] at e
   rw [zhF e.2];rfl
  ·simp only [Ob.locs]
   rw [eq_of_beq e]
 | o::h,o1::t,i+1,x,e,ex,hi=>by
  simp only [objs,Bool.and_eq_true] at e;obtain ⟨o',e1,e2⟩:=zh0 (i:=i) e.2 (by simpa using ex) (by simpa using hi);exact ⟨o',by simpa using e1,e2⟩
theorem zoe (st:Stp μ h H μ' h' H') (R0:Rep K μ h H) (R1:Rep K μ' h' H'):Stp μ h H μ (h'.take h.length) H':=by
 refine ⟨λ_ _ e=>e,st.keep,λa l=>st.live a (zhU (n:=h.length) a ?_)⟩;rw [zeO st R0];exact l
theorem zqi (st:Stp μ h H μ' h' H') (R0:Rep K μ h H) (R1:Rep K μ' h' H') (ob:objs h h'=true) (q:RepR K μ' h' H' r v) (e:fin0 h.length keep r h'=some (r2,h2)) :
  ∃ μ2,Stp μ h H μ2 h2 H'/\Rep K μ2 h2 H'/\RepR K μ2 h2 H' r2 v:=by
 have st1:=zoe st R0 R1
 have lv:∀ a,Live μ (h'.take h.length) a->Live μ' h' a:=λa l=>zhU (n:=h.length) a (by rw [zeO st R0];exact l)
 have hlen:=R0.len
 have at1:∀ (l:Nat) (b:Addr),l<h.length->μ'[l]?=some b->μ[l]?=some b:=λl b hl eb=>by
  rw [<-zeO st R0,List.getElem?_take_of_lt hl];exact eb
 have small:∀ (i:Nat) (o:Ob),i<h.length->h'[i]?=some o->∀ l∈o.locs,l<h.length:=by
  intro i o hi ho l hl;obtain ⟨o0,e0,el⟩:=zh0 ob ho hi;rw [el] at hl
  have hi':i<μ.length:=by omega
  have:=zlT (R0.obj i μ[i] o0 (List.getElem?_eq_getElem hi') e0) l hl
  omega
 have R2:Rep K μ (h'.take h.length) H':=by
  have hl':(h'.take h.length).length=h.length:=by
   have:=R1.len
   have h3:μ.length<=μ'.length:=by rw [<-zeO st R0,List.length_take];exact Nat.min_le_right _ _
   simp;omega
  refine ⟨by rw [hl'];exact hlen,R0.nd,λi a o e1 e2=>?_⟩
  have hi:i<h.length:=by rw [<-hlen];exact (List.getElem?_eq_some_iff.mp e1).1
  rw [List.getElem?_take_of_lt hi] at e2;exact zh1 (R1.obj i a o (st.pre i a e1) e2) lv λl hl b eb=>at1 l b (small i o hi e2 l hl) eb
 cases r with
 | d x=>
  simp only [fin0,Option.some.injEq,Prod.mk.injEq] at e;obtain ⟨rfl,rfl⟩:=e;exact ⟨μ,st1,R2,RepD.less lv q⟩
 | loc l =>
  obtain ⟨a,ea,rfl⟩:=q;simp only [fin0] at e
  by_cases hl:l<h.length
  ·rw [if_pos hl] at e
   simp only [Option.some.injEq,Prod.mk.injEq] at e;obtain ⟨rfl,rfl⟩:=e;exact ⟨μ,st1,R2,a,at1 l a hl ea,rfl⟩
  ·rw [if_neg hl] at e
   obtain ⟨o,ho⟩:=R1.placeO ea;rw [ho] at e
   have apart:a ∉ μ:=by
    intro hm;obtain ⟨i,hi,ei⟩:=List.getElem_of_mem hm
    have:=zgs R1.nd (st.pre i a (by rw [List.getElem?_eq_getElem hi,ei])) ea
    omega
   have data:∀ xs,o.isL=true->o.items=xs->∃ μ2,Stp μ h H μ2 (h'.take h.length) H'/\Rep K μ2 (h'.take h.length) H'/\RepR K μ2 (h'.take h.length) H' (.d (.lst xs)) (.ref a):=by
    rintro xs il rfl
    obtain ⟨vs,hH,z⟩:=R1.placeL ea ho il;refine ⟨μ,st1,R2,?_⟩;simp only [RepR,RepD];refine ⟨a,vs,rfl,.inl ⟨?_,.inl hH⟩,z.less lv⟩
    rintro ⟨i,ys,e1,e2,_⟩
    exact apart (List.mem_of_getElem? e1)
   cases o with
   | ins _ _=>cases e
   | ols _=>cases e
   | dfr _=>cases e
   | fro xs=>
    simp only [Option.some.injEq,Prod.mk.injEq] at e;obtain ⟨rfl,rfl⟩:=e;exact data xs rfl rfl
   | lst xs=>
    cases keep with
    | false=>
     simp only [Bool.false_eq_true,if_false,Option.some.injEq,Prod.mk.injEq] at e;obtain ⟨rfl,rfl⟩:=e;exact data xs rfl rfl
    | true=>
     simp only [if_true,Option.some.injEq,Prod.mk.injEq] at e;obtain ⟨rfl,rfl⟩:=e;obtain ⟨vs,hH,z⟩:=R1.placeL ea ho rfl
     have hl2:(h'.take h.length).length=μ.length:=by rw [<-R2.len]
     have lv2:∀ b,Live (μ++[a]) (h'.take h.length++[.lst xs]) b->Live μ' h' b:=by
      intro b l2
      rcases (zjU R2.len).mp l2 with w | ⟨rfl,_⟩
      ·exact lv b w
      ·exact ⟨l,_,ea,ho,rfl⟩
     refine ⟨μ++[a],⟨λi b e=>?_,st.keep,λb l2=>st.live b (lv2 b l2)⟩,⟨by simp [hl2],?_,λi b o e1 e2=>?_⟩,a,?_,rfl⟩
     ·rw [List.getElem?_append_left (List.getElem?_eq_some_iff.mp e).1];exact e
     ·rw [List.nodup_append]
      refine ⟨R0.nd,by simp,λb hb c hc=>?_⟩;simp at hc;subst hc
      rintro rfl
      exact apart hb
     ·by_cases hi:i<μ.length
      ·rw [List.getElem?_append_left hi] at e1
       rw [List.getElem?_append_left (by omega)] at e2
       have hi2:i<h.length:=by omega
       rw [List.getElem?_take_of_lt hi2] at e2;refine zh1 (R1.obj i b o (st.pre i b e1) e2) lv2 λk hk c ec=>?_;have hk2:=small i o hi2 e2 k hk;rw [List.getElem?_append_left (by omega)];exact at1 k c hk2 ec
      ·rw [List.getElem?_append_right (by omega)] at e1
       rw [List.getElem?_append_right (by omega)] at e2
       have hz:i-μ.length=0:=by
        cases hk:i-μ.length with
        | zero=>rfl
        | succ k=>rw [hk] at e1;simp at e1
       rw [hl2,hz] at e2;rw [hz] at e1;simp at e1 e2;subst e1 e2;exact ⟨vs,hH,z.less lv2⟩
     ·rw [hlen.symm]
      simp
theorem zlU (st:Stp μ h H μ' h' H') (R0:Rep K μ h H) (R1:Rep K μ' h' H') (q:RepR K μ' h' H' r v) (e:fin h all keep r h'=some (r2,h2)) :
  ∃ μ2,Stp μ h H μ2 h2 H'/\Rep K μ2 h2 H'/\RepR K μ2 h2 H' r2 v:=by
 unfold fin at e
 cases all with
 | true=>
  simp only [if_true,Option.some.injEq,Prod.mk.injEq] at e;obtain ⟨rfl,rfl⟩:=e;exact ⟨μ',st,R1,q⟩
 | false=>
  simp only [Bool.false_eq_true,if_false] at e
  split at e
  ·rename_i ob
   exact zqi st R0 R1 ob q e
  ·cases e
end
structure Fun2 (K:PySem.W.Frag) (x qual:Str) (st:Stmt) (f:Addr) (fd:FuncData):Prop where
 ex:∃ (oc:Value) (od:Option Addr) (dV kV doc pm:Value) (an:Option Addr) (cdv ct:Value) (osl:Array (Option Value)),
  fd=PySem.W.fnOf x qual (zbz st) (zaI st) (zag st) dV kV doc pm an cdv ct/\K.lookup f=some ⟨oc,od,.func fd,osl⟩/\PySem.W.codeIn K cdv qual=true
 kp:PySem.W.keepIn K (.ref f)=true
section
variable {P:Program} {w:World} {K:PySem.W.Frag} {mg:Str->Option Value} {base:Heap}
theorem Fun2.ok (F:Fun2 K x qual st f fd) (S:zfV N ps (zag st)) (len:∀ vs H Q E,sp vs H Q E->vs.length=ps.length)
  (hbody:∀ (cdv:Value) (A:Around) (outer:List PySem.Env) (s:Shared) (H:Hp) (vs:List V) (Q:VK) (E:XK),Room k (A.deeper (PyProof.Rows.envOfC qual (zag st) s.heap.objs.size f cdv))->sp vs H Q E →
   ∃ t,PSs (cxOf CX0 P w K mg base N qual (zag st) f cdv A outer s H E).nox (zaI st) t/\t { nx:=λ_ H'=>Q .non H',rt:=Q } (L2.start N vs) H):FnOk P w K mg base CX0 (k+1) f fd ps sp:=by
 obtain ⟨oc,od,dV,kV,doc,pm,an,cdv,ct,osl,rfl,lk,hcd⟩:=F.ex;refine zut lk hcd S len λA outer s H vs Q E hr hsp=>?_;obtain ⟨t,h,q⟩:=hbody cdv A outer s H vs Q E hr hsp;exact ⟨t,h.nox,q⟩
theorem zjh {dV kV doc pm cdv ct:Value} (l:K.lookup f=some ⟨oc,od,.func (PySem.W.fnOf x qual (zbz st) (zaI st) (zag st) dV kV doc pm an cdv ct),osl⟩)
  (c:PySem.W.codeIn K cdv qual=true) (k:PySem.W.keepIn K (.ref f)=true):Fun2 K x qual st f (PySem.W.fnOf x qual (zbz st) (zaI st) (zag st) dV kV doc pm an cdv ct):=⟨⟨oc,od,dV,kV,doc,pm,an,cdv,ct,osl,rfl,l,c⟩,k⟩
end
structure zft (K:PySem.W.Frag) (fns:List (Str×Nat×List D)) (cls:List zmF) (Pr:List F) (globs:List (Str×D)) (gds:List (Str×List (List Nat×D))) (exs:List Str) (fi:Nat) (x qual:Str) (st:Stmt) (f:Addr) (fd:FuncData) (N ps:List Str) (B:F):Prop where
 at':Pr[fi]?=some B
 fn:Fun2 K x qual st f fd
 sc:zfV N ps (zag st)
 np:B.np=ps.length
 ns:B.ns=N.length
 bi:∃ dvs,(∀ A H,RepDs K A H B.dfl dvs)/\∀ j,j<=B.dfl.length->∃ ds,zcp K fd ps ds/\Vals (dvs.drop j) ds
 chk:chkSs B.body ⟨N,(zag st).names,fns,globs,true,cls,gds,exs⟩ (zaI st)=true
noncomputable def cvOf (exA:List Addr):ClsV:=λr=>some (match r with
 | .d (.int i)=>.ref (exA.getD i.toNat 0)
 | _=>.none)
structure Txt (w:World) (K:PySem.W.Frag) (mg:Str->Option Value) (fns:List (Str×Nat×List D)) (cls:List zmF) (Pr:List F) (globs:List (Str×D)) (gds:List (Str×List (List Nat×D))) (exs:List Str) (exA:List Addr) (addr:Nat->Addr) (fdOf:Nat->FuncData) (psOf:Nat->List Str):Prop where
 defs:∀ fi B,Pr[fi]?=some B->∃ x qual st N,zft K fns cls Pr globs gds exs fi x qual st (addr fi) (fdOf fi) N (psOf fi) B
 blt:∀ x∈zdz,mg x=none
 glob:∀ (x:Str) (d:D),globs.lookup x=some d->∃ u v,mg x=some u/\RelV v u/\∀ A H,RepD K A H d v
 funs:∀ fi p,fns[fi]?=some p->mg p.1=some (.ref (addr fi))/\∃ B,Pr[fi]?=some B/\B.np=p.2.1/\B.dfl=p.2.2
 makes:∀ i∈cls,∃ C B,mg i.name=some (.ref C)/\PySem.W.nsIn K mainGlobals i.name=some (some (.ref C))/\Cls K C/\Mk K C (addr i.init)/\Pr[i.init]?=some B/\B.dfl=[]
 meths:∀ i∈cls,∀ p∈i.meths,∃ C B,PySem.W.nsIn K mainGlobals i.name=some (some (.ref C))/\Cls K C/\Meth K C p.1 (addr p.2)/\Pr[p.2]?=some B/\B.dfl=[]
 attrs:∀ i∈cls,∀ f∈i.fields,∀ A,PySem.W.nsIn K mainGlobals i.name=some (some (.ref A))->zbR K A f
 excs:∀ (c:Nat) (x:Str),exs[c]?=some x->∃ Ca,mg x=some (.ref Ca)/\exA.getD c 0=Ca/\ExcK K Ca/\PySem.W.exmOne K (.ref Ca) (.ref Ca)=some true
 few:Pr.length<=1000
section
variable {P:Program} {w:World} {K:PySem.W.Frag} {mg:Str->Option Value} {base:Heap} {fns:List (Str×Nat×List D)} {cls:List zmF} {Pr:List F} {globs:List (Str×D)} {gds:List (Str×List (List Nat×D))} {exs:List Str} {exA:List Addr} {addr:Nat->Addr} {fdOf:Nat->FuncData} {psOf:Nat->List Str}
theorem zfA (h:np<=rs.length):zau np dfl rs=rs:=by
 rw [zaS (by omega),List.drop_eq_nil_of_le (by omega)];simp
theorem zh3:zau np dfl (zau np dfl rs)=zau np dfl rs:=by
 by_cases hs:rs.length+dfl.length<np
 ·rw [zbk hs,zbk hs]
 ·refine zfA ?_
  rw [zaS hs];simp only [List.length_append,List.length_map,List.length_drop];omega
theorem zkX (e0:Pr[fi]?=some B) (rs:List R):zaf Pr m fi rs=zaf Pr m fi (zau B.np B.dfl rs):=by
 cases m with
 | zero=>rfl
 | succ m=>
  funext h
  rw [za3,za3];simp only [e0];rw [zh3]
theorem zig (e0:Pr[fi]?=some B) (e:zaf Pr (m+1) fi rs h=some p):(zau B.np B.dfl rs).length=B.np:=by
 rw [za3] at e;simp only [e0] at e
 split at e
 ·assumption
 ·cases e
theorem zaU.env (q:zaU K μ h H rs vs) (i:Nat) (r:R) (e:(rs.map some)[i]?=some (some r)):∃ v,(vs.map some)[i]?=some (some v)/\RepR K μ h H r v:=by
 induction q generalizing i with
 | nil=>simp at e
 | @cons r' v rs vs q1 _ ih=>
  cases i with
  | zero=>simp at e;subst e;exact ⟨v,rfl,q1⟩
  | succ i=>
   simp only [List.map_cons,List.getElem?_cons_succ] at e ⊢;exact ih i e
theorem zgb (e0:Pr[fi]?=some B) (ed:B.dfl=[]) (e:zaf Pr m fi rs h=some p):rs.length=B.np:=by
 cases m with
 | zero=>cases e
 | succ m=>
  have:=zig e0 e
  rw [ed] at this
  have ef:zau B.np [] rs=rs:=by
   unfold zau
   split
   ·rfl
   ·simp
  rwa [ef] at this
theorem zkm (e0:Pr[fi]?=some B) (e:zaf Pr m fi rs h=some p):(zau B.np B.dfl rs).length=B.np:=by
 cases m with
 | zero=>cases e
 | succ m=>exact zig e0 e
theorem zkQ (T:Txt w K mg fns cls Pr globs gds exs exA addr fdOf psOf) (e0:Pr[fi]?=some B) (rs:List R):zaf Pr m (xof fi) rs=zaf Pr m (xof fi) (zau B.np B.dfl rs):=by
 cases m with
 | zero=>rfl
 | succ m=>
  funext h
  rw [zek T.few e0,zek T.few e0,zh3]
theorem zlS (T:Txt w K mg fns cls Pr globs gds exs exA addr fdOf psOf) (e0:Pr[fi]?=some B) (e:zaf Pr m (xof fi) rs h=some p):(zau B.np B.dfl rs).length=B.np:=by
 cases m with
 | zero=>cases e
 | succ m=>
  rw [zek T.few e0] at e
  split at e
  ·assumption
  ·cases e
theorem zmU (T:Txt w K mg fns cls Pr globs gds exs exA addr fdOf psOf) (Dd:zft K fns cls Pr globs gds exs fi x qual st f fd N ps B)
  (ih:∀ g B,Pr[g]?=some B->FnOk P w K mg base CX0 (2*m) (addr g) (fdOf g) (psOf g) (spF K (psOf g).length (zaf Pr m g)))
  (ihx:∀ g B,Pr[g]?=some B->FnOk P w K mg base (CXk P w) (2*m) (addr g) (fdOf g) (psOf g) (spX K (cvOf exA) (psOf g).length (zaf Pr m (xof g))))
  {CX:CXT} {cdv:Value} {A:Around} {outer:List PySem.Env} {s:Shared} {H:Hp} {E:XK} (hr:Room (2*m+1) (A.deeper (PyProof.Rows.envOfC qual (zag st) s.heap.objs.size f cdv))) :
  Good (zaf Pr m) (2*m) ⟨N,(zag st).names,fns,globs,true,cls,gds,exs⟩ (cxOf CX P w K mg base N qual (zag st) f cdv A outer s H E).nox/\Excs (zaf Pr m) (2*m) ⟨N,(zag st).names,fns,globs,true,cls,gds,exs⟩ (cxOf CX P w K mg base N qual (zag st) f cdv A outer s H E) (cvOf exA):=by
 have Ex:Excs (zaf Pr m) (2*m) ⟨N,(zag st).names,fns,globs,true,cls,gds,exs⟩ (cxOf CX P w K mg base N qual (zag st) f cdv A outer s H E) (cvOf exA):=by
  refine ⟨λc x e=>?_,λg y e=>?_⟩
  ·obtain ⟨Ca,e1,e2,e3,e4⟩:=T.excs c x e
   exact ⟨Ca,e1,by show some (Value.ref (exA.getD (Int.toNat (c:Int)) 0))=_;rw [Int.toNat_natCast,e2],e3,e4⟩
  ·obtain ⟨e1,B',e2,e3,e4⟩:=T.funs g y e
   obtain ⟨x',q',st',N',d'⟩:=T.defs g B' e2;obtain ⟨dvs,b1,b2⟩:=d'.bi;rw [<-e3,<-e4]
   have:=ihx g B' e2
   rw [<-d'.np] at this;exact ⟨⟨addr g,fdOf g,psOf g,dvs,this,e1,d'.fn.kp,b1,b2⟩,zkQ T d'.at',λrs h p e=>zlS T d'.at' e,λrs h r h' _=>⟨_,rfl⟩⟩
 refine ⟨⟨rfl,rfl,hr.mono (by omega),hr,Dd.sc.kind,rfl,Dd.sc.nd,rfl,λ_ _=>rfl,λg y e=>?_,T.blt,T.glob,λi hi=>?_,λi hi p hp=>?_,T.attrs,λ_=>⟨rfl,rfl,rfl⟩,cvOf exA,Ex.cls,λg y e=>⟨(Ex.funs g y e).ex,(Ex.funs g y e).fill,(Ex.funs g y e).len,(Ex.funs g y e).cls⟩⟩,Ex⟩
 ·obtain ⟨e1,B',e2,e3,e4⟩:=T.funs g y e
  obtain ⟨x',q',st',N',d'⟩:=T.defs g B' e2;obtain ⟨dvs,b1,b2⟩:=d'.bi;rw [<-e3,<-e4]
  have:=ih g B' e2
  rw [<-d'.np] at this;exact ⟨⟨addr g,fdOf g,psOf g,dvs,this,e1,d'.fn.kp,b1,b2⟩,zkX d'.at',λrs h p e=>zkm d'.at' e⟩
 ·obtain ⟨C,B',e1,e2,e3,e4,e5,e6⟩:=T.makes i hi
  obtain ⟨x',q',st',N',d'⟩:=T.defs _ B' e5;obtain ⟨dvs,b1,b2⟩:=d'.bi
  have:=ih _ B' e5
  rw [<-d'.np] at this;obtain ⟨ds,c1,c2⟩:=b2 0 (Nat.zero_le _)
  have hd:ds=[]:=by
   have hv:dvs=[]:=by
    have:=b1 (λ_=>False) (λ_=>none)
    rw [e6] at this
    simpa [RepDs] using this
   rw [hv] at c2;cases c2;rfl
  subst hd;exact ⟨B'.np,⟨C,addr i.init,fdOf i.init,psOf i.init,e1,e2,e3,e4,this,c1⟩,λrs h p e=>zgb d'.at' e6 e⟩
 ·obtain ⟨C,B',e2,e3,e4,e5,e6⟩:=T.meths i hi p hp
  obtain ⟨x',q',st',N',d'⟩:=T.defs _ B' e5;obtain ⟨dvs,b1,b2⟩:=d'.bi
  have:=ih _ B' e5
  rw [<-d'.np] at this;obtain ⟨ds,c1,c2⟩:=b2 0 (Nat.zero_le _)
  have hd:ds=[]:=by
   have hv:dvs=[]:=by
    have:=b1 (λ_=>False) (λ_=>none)
    rw [e6] at this
    simpa [RepDs] using this
   rw [hv] at c2;cases c2;rfl
  subst hd;exact ⟨B'.np,⟨C,addr p.2,fdOf p.2,psOf p.2,e2,e3,e4,this,c1⟩,λrs h p e=>zgb d'.at' e6 e⟩
theorem zpT (Dd:zft K fns cls Pr globs gds exs fi x qual st f fd N ps B) {μ:List Addr} {h0:Sto} {H:Hp} {rs:List R} {vs:List V} (qr:zaU K μ h0 H rs vs) (hv0:vs.length=ps.length) (hl0:rs.length=B.np):RepE K μ h0 H (rs.map some++List.replicate (B.ns-B.np) none) (L2.start N vs):=by
 have hpl:ps.length<=N.length:=by have:=congrArg List.length Dd.sc.pre;rw [List.length_take] at this;omega
 have re:RepE K μ h0 H (rs.map some++List.replicate (B.ns-B.np) none) (L2.start N vs):=by
  have hv:=qr.length;have h1:=Dd.np;have h2:=Dd.ns;refine ⟨?_,λi r e=>?_⟩
  ·unfold L2.start
   simp;omega
  ·by_cases hi:i<rs.length
   ·rw [List.getElem?_append_left (by simpa using hi)] at e
    obtain ⟨v,e1,z⟩:=qr.env i r e;refine ⟨v,?_,z⟩;unfold L2.start
    rw [List.getElem?_append_left (by simp;omega)]
    exact e1
   ·rw [List.getElem?_append_right (by simpa using hi),List.getElem?_replicate] at e
    split at e<;>cases e
 exact re
theorem zuv (T:Txt w K mg fns cls Pr globs gds exs exA addr fdOf psOf) (Dd:zft K fns cls Pr globs gds exs fi x qual st f fd N ps B)
  (ih:∀ g B,Pr[g]?=some B->FnOk P w K mg base CX0 (2*m) (addr g) (fdOf g) (psOf g) (spF K (psOf g).length (zaf Pr m g)))
  (ihx:∀ g B,Pr[g]?=some B->FnOk P w K mg base (CXk P w) (2*m) (addr g) (fdOf g) (psOf g) (spX K (cvOf exA) (psOf g).length (zaf Pr m (xof g)))):FnOk P w K mg base CX0 (2*m+2) f fd ps (spF K ps.length (zaf Pr (m+1) fi)):=by
 refine Dd.fn.ok (k:=2*m+1) Dd.sc (λvs H Q E h=>?_) (λcdv A outer s H vs Q E hr h=>?_)
 ·exact h.1
 ·have G:=(zmU (CX:=CX0) (cdv:=cdv) (outer:=outer) (s:=s) (H:=H) (E:=E) T Dd ih ihx hr).1
  refine ⟨_,okSs B.body _ (zaI st) _ Dd.chk G,?_⟩;obtain ⟨hv0,μ,h0,rs,R0,qr,r,h',e,k⟩:=h
  have hl0:rs.length=B.np:=by rw [qr.length,hv0,Dd.np]
  have ef:zau B.np B.dfl rs=rs:=zfA (by omega);rw [za3] at e;simp only [Dd.at'] at e;rw [ef,if_pos hl0] at e;have re:=zpT Dd qr hv0 hl0
  cases eb:IT.exs (zaf Pr m) B.body (rs.map some++List.replicate (B.ns-B.np) none) h0 with
  | none=>rw [eb] at e;cases e
  | some p=>
   obtain ⟨⟨fl,env'⟩,h1⟩:=p;rw [eb] at e;refine ⟨μ,h0,_,R0,re,fl,env',h1,eb,λμ' H' σ' st1 R1 _=>?_⟩
   cases fl with
   | ret r1=>
    intro v qv;obtain ⟨μ2,st2,R2,q2⟩:=zlU st1 R0 R1 qv e;exact k μ2 H' v st2 R2 q2
   | nx=>
    obtain ⟨μ2,st2,R2,q2⟩:=zlU (v:=.non) st1 R0 R1 (by simp only [RepR,RepD]) e;exact k μ2 H' .non st2 R2 q2
   | brk=>cases e
   | cnt=>cases e
theorem zqt {outer:List PySem.Env} {H:Hp} {s s':Shared} {E E':XK} {e:Value} (h:CXk P w outer H s E e s') (i:∀ C H,E C none H->E' C none H):CXk P w outer H s E' e s':=by
 obtain ⟨a,C,H',e1,f,q⟩:=h;exact ⟨a,C,H',e1,f,i C H' q⟩
theorem zrz (T:Txt w K mg fns cls Pr globs gds exs exA addr fdOf psOf) (Dd:zft K fns cls Pr globs gds exs fi x qual st f fd N ps B)
  (ih:∀ g B,Pr[g]?=some B->FnOk P w K mg base CX0 (2*m) (addr g) (fdOf g) (psOf g) (spF K (psOf g).length (zaf Pr m g)))
  (ihx:∀ g B,Pr[g]?=some B->FnOk P w K mg base (CXk P w) (2*m) (addr g) (fdOf g) (psOf g) (spX K (cvOf exA) (psOf g).length (zaf Pr m (xof g)))):FnOk P w K mg base (CXk P w) (2*m+2) f fd ps (spX K (cvOf exA) ps.length (zaf Pr (m+1) (xof fi))):=by
 obtain ⟨oc,od,dV,kV,doc,pm,an,cdv,ct,osl,rfl,lk,hcd⟩:=Dd.fn.ex;refine zut (k:=2*m+1) lk hcd Dd.sc (λvs H Q E h=>h.1) λA outer s H vs Q E hr h=>?_;obtain ⟨G,Ex⟩:=zmU (CX:=CXk P w) (cdv:=cdv) (outer:=outer) (s:=s) (H:=H) (E:=E) T Dd ih ihx hr;have dc:zgR (cxOf (CXk P w) P w K mg base N qual (zag st) f cdv A outer s H E):=⟨rfl,rfl,rfl⟩
 have wE:∀ C H,wX (cvOf exA) (λr H'=>∃ C,cvOf exA r=some C/\E C none H') C none H->E C none H:=λC H ⟨r,e1,C',e2,q⟩=>by
  rw [e1] at e2;cases e2;exact q
 have Th:Thr (cxOf (CXk P w) P w K mg base N qual (zag st) f cdv A outer s H E) (cvOf exA) (λr H'=>∃ C,cvOf exA r=some C/\E C none H'):=by
  refine ⟨PassesOwn.leaving,λpins σ H1 s1 e s' I c=>?_,λpins σ H1 s1 h' a C vs I m q=>?_⟩
  ·exact wpAny_mono (zt3 dc I c) (λ_ s'' z=>zqt z wE) λ_ _ z=>z
  ·exact zox dc I m (wE _ _ q)
 have hx:=okXs B.body _ (zaI st) _ Dd.chk G Ex Th;refine ⟨λD σ H=>RX K (exXs (zaf Pr m) B.body) (λr H'=>∃ C,cvOf exA r=some C/\E C none H') σ H,λpins s σ H D I q=>wpAny_mono (hx pins s σ H I q) (λ_ _ z=>z.elim) λ_ _ z=>z,?_⟩;obtain ⟨hv0,μ,h0,rs,r,h',C,R0,qr,e,hC,k⟩:=h
 have hl0:rs.length=B.np:=by rw [qr.length,hv0,Dd.np]
 have ef:zau B.np B.dfl rs=rs:=zfA (by omega);rw [zek T.few Dd.at',ef,if_pos hl0] at e;have re:=zpT Dd qr hv0 hl0
 cases eb:exXs (zaf Pr m) B.body (rs.map some++List.replicate (B.ns-B.np) none) h0 with
 | none=>rw [eb] at e;cases e
 | some p=>
  obtain ⟨r1,h1⟩:=p;rw [eb] at e;simp only at e;refine ⟨μ,h0,_,R0,re,r1,h1,eb,λμ1 H1 st1 R1=>?_⟩;unfold finX at e
  split at e
  ·rename_i c
   obtain ⟨μ2,st2,R2,q2⟩:=zlU (v:=.int c) st1 R0 R1 (by simp only [RepR,RepD]) e
   have er:r=.d (.int c):=by
    unfold fin at e
    split at e
    ·cases e;rfl
    ·split at e
     ·cases e;rfl
     ·cases e
   subst er;exact ⟨C,hC,k μ2 H1 st2 R2⟩
  ·cases e
theorem zkP:FnOk P w K mg base (CXk P w) 0 f fd ps (spX K cv np (zaf Pr 0 fi)):=by
 refine ⟨λvs H Q E h=>?_,λA outer s H args us vs Q E hr e0 hb r h=>?_⟩
 ·obtain ⟨_,μ,h0,rs,r,h',C,R0,qr,e,_⟩:=h
  cases e
 ·obtain ⟨_,μ,h0,rs,r,h',C,R0,qr,e,_⟩:=h
  cases e
theorem zm8:FnOk P w K mg base CX0 0 f fd ps (spF K np (zaf Pr 0 fi)):=by
 refine ⟨λvs H Q E h=>?_,λA outer s H args us vs Q E hr e0 hb r h=>?_⟩
 ·obtain ⟨_,μ,h0,rs,R0,qr,r,h',e,k⟩:=h
  cases e
 ·obtain ⟨_,μ,h0,rs,R0,qr,r,h',e,k⟩:=h
  cases e
theorem zgD (T:Txt w K mg fns cls Pr globs gds exs exA addr fdOf psOf):∀ m fi B,Pr[fi]?=some B->FnOk P w K mg base CX0 (2*m) (addr fi) (fdOf fi) (psOf fi) (spF K (psOf fi).length (zaf Pr m fi))/\FnOk P w K mg base (CXk P w) (2*m) (addr fi) (fdOf fi) (psOf fi) (spX K (cvOf exA) (psOf fi).length (zaf Pr m (xof fi)))
 | 0,fi,B,e=>⟨zm8,zkP⟩
 | m+1,fi,B,e=>by
  obtain ⟨x,q,st,N,d⟩:=T.defs fi B e;have a:=λg B' e'=>(zgD T m g B' e').1;have b:=λg B' e'=>(zgD T m g B' e').2;exact ⟨zuv T d a b,zrz T d a b⟩
theorem zqC (T:Txt w K mg fns cls Pr globs gds exs exA addr fdOf psOf) (m fi:Nat) (B:F) (e:Pr[fi]?=some B):FnOk P w K mg base CX0 (2*m) (addr fi) (fdOf fi) (psOf fi) (spF K (psOf fi).length (zaf Pr m fi)):=(zgD T m fi B e).1
end
theorem zjv:∀ ns:List Int,RepDs K A H (ns.map D.int) (ns.map V.int)
 | []=>.nil
 | n::r=>.cons (by simp only [RepD]) (zjv r)
theorem znn {ns:List Int} {E:XK} (hS:SqL K H a (ns.map V.int)) (e:m [.d (.lst (ns.map .int))] []=some (.d (.bl true),[])):spF K 1 m [.ref a] H (λv _=>v=.bl true) E:=by
 have nl:∀ b,¬ Live [] [] b:=by
  rintro b ⟨i,xs,e1,_⟩
  simp at e1
 refine ⟨rfl,[],[],[.d (.lst (ns.map .int))],⟨rfl,by simp,λi a o e1 _=>by simp at e1⟩,.cons ?_ .nil,_,_,e,λμ' H' v st R1 q=>?_⟩
 ·simp only [RepR,RepD]
  refine ⟨a,ns.map V.int,rfl,?_,zjv ns⟩
  rcases hS with z | z
  ·exact .inl ⟨nl a,z⟩
  ·exact .inr z
 ·simpa only [RepR,RepD] using q
theorem us0 {P:List Value->Prop} (h:P []):∀ us:List Value,us.length=0->P us:=λus hl=>by
 cases us with
 | nil=>exact h
 | cons=>cases hl
theorem usS {P:List Value->Prop} {n:Nat} (h:∀ a,∀ us:List Value,us.length=n->P (a::us)):∀ us:List Value,us.length=n+1->P us:=λus hl=>by
 cases us with
 | nil=>cases hl
 | cons a r=>exact h a r (Nat.succ.inj hl)
theorem us1 {P:List Value->Prop} (h:∀ a0,P [a0]):∀ us:List Value,us.length=1->P us:=usS λa=>us0 (h a)
theorem us2 {P:List Value->Prop} (h:∀ a0 a1,P [a0,a1]):∀ us:List Value,us.length=2->P us:=usS λa=>us1 (h a)
theorem us3 {P:List Value->Prop} (h:∀ a0 a1 a2,P [a0,a1,a2]):∀ us:List Value,us.length=3->P us:=usS λa=>us2 (h a)
theorem us4 {P:List Value->Prop} (h:∀ a0 a1 a2 a3,P [a0,a1,a2,a3]):∀ us:List Value,us.length=4->P us:=usS λa=>us3 (h a)
open PySem.W in
theorem toX {r:RowW} {d:DefRec} {kwd:List (Str×Expr)} {run:Value->List Value->Sem Value} (e:∀ P,as=(K P).map (·.1))
  (h:WalkO q loose XP (InK K) r d kwd run):WalkX q loose XP (X.obsZ as) (X.valZ K n t) r d kwd run:=by
 intro w s₀ s₁ mg mb G y a o pm cd doc dV kV h1 h2 h3 h4 h5 h6 args vals as' L;exact h w s₀ s₁ mg mb G (InK.keeps w _ _ (X.z_facts e y).2.1 L.keeps) a o pm cd doc dV kV h1 h2 h3 h4 h5 h6 args vals as'
end IT
namespace IT
inductive Ok {α:Type} (m:Option (α×Sto)) (Q:α->Sto->Prop):Prop where
 | mk (a:α) (h':Sto) (e:m=some (a,h')) (q:Q a h')
section
variable {α β:Type} {Q:α->Sto->Prop} {R:β->Sto->Prop} {h:Sto}
theorem Ok.mono (k:Ok m Q) (i:∀ a h,Q a h->Q' a h):Ok m Q':=by
 obtain ⟨a,h',e,q⟩:=k;exact ⟨a,h',e,i a h' q⟩
@[simp] theorem ok_bnd {x:M α} {f:α->M β}:Ok (bnd x f h) R↔Ok (x h) λa h1=>Ok (f a h1) R:=by
 unfold bnd;constructor
 ·rintro ⟨b,h',e,q⟩
  cases ex:x h with
  | none=>rw [ex] at e;cases e
  | some p=>rw [ex] at e;exact ⟨p.1,p.2,rfl,b,h',e,q⟩
 ·rintro ⟨a,h1,e,b,h',e',q⟩
  rw [e];exact ⟨b,h',e',q⟩
@[simp] theorem ok_some' {a:α}:Ok (some (a,h)) Q↔Q a h:=by
 constructor
 ·rintro ⟨b,h',e,q⟩;cases e;exact q
 ·intro q;exact ⟨a,h,rfl,q⟩
@[simp] theorem ok_ok {a:α}:Ok (ok a h) Q↔Q a h:=ok_some'
@[simp] theorem ok_none:Ok (none:Option (α×Sto)) Q↔False:=by
 constructor
 ·rintro ⟨b,h',e,q⟩;cases e
 ·intro z;exact z.elim
@[simp] theorem ok_opt {o:Option α}:Ok (opt o h) Q↔∃ a,o=some a/\Q a h:=by
 unfold opt
 cases o with
 | none=>simp
 | some a=>simp
@[simp] theorem ok_rd_d {x:D} {Q:D->Sto->Prop}:Ok (rd (.d x) h) Q↔Q x h:=ok_some'
@[simp] theorem ok_fz_d {x:D} {Q:D->Sto->Prop}:Ok (fz (.d x) h) Q↔Q x h:=ok_some'
end
theorem zn1 (I:Nat->Env->Sto->Prop)
  (step:∀ i x σ h,xs[i]?=some x->I i σ h->Ok (f x σ h) λp h1=>match p.1 with
   | .ret r=>Q (.ret r,p.2) h1
   | .brk=>Q (.nx,p.2) h1
   | _=>zaE l h h1=true/\I (i+1) p.2 h1)
  (fin:∀ σ h,I xs.length σ h->Q (.nx,σ) h) {σ:Env} {h:Sto} (h0:I 0 σ h):Ok (loop l f xs σ h) Q:=by
 have gen:∀ (ys:List Ite) (i:Nat) (σ:Env) (h:Sto),xs.drop i=ys->i<=xs.length->I i σ h->Ok (loop l f ys σ h) Q:=by
  intro ys
  induction ys with
  | nil=>
   intro i σ h e hi hI
   have:i=xs.length:=by
    have:=congrArg List.length e
    simp at this;omega
   subst this;exact ⟨_,_,rfl,fin σ h hI⟩
  | cons y ys ih=>
   intro i σ h e hi hI
   have hil:i<xs.length:=by
    have:=congrArg List.length e
    simp at this;omega
   have hy:xs[i]?=some y:=by
    have:=congrArg (λz=>z[0]?) e
    simpa using this
   have hd:xs.drop (i+1)=ys:=by
    have:=congrArg List.tail e
    simpa using this
   obtain ⟨⟨fl,σ1⟩,h1,ef,q⟩:=step i y σ h hy hI;simp only [loop,ef]
   cases fl with
   | ret r=>exact ⟨_,_,rfl,q⟩
   | brk=>exact ⟨_,_,rfl,q⟩
   | nx=>simp only at q ⊢;rw [if_pos q.1];exact ih (i+1) σ1 h1 hd (by omega) q.2
   | cnt=>simp only at q ⊢;rw [if_pos q.1];exact ih (i+1) σ1 h1 hd (by omega) q.2
 exact gen xs 0 σ h (by simp) (by omega) h0
theorem zbj {α:Type} {g:α->Ite} {l:Option Nat} {f:Ite->Env->M (Fl×Env)} {xs:List α} {Q:Fl×Env->Sto->Prop} (I:Nat->Env->Sto->Prop)
  (step:∀ i x σ h,xs[i]?=some x->I i σ h->Ok (f (g x) σ h) λp h1=>match p.1 with
   | .ret r=>Q (.ret r,p.2) h1
   | .brk=>Q (.nx,p.2) h1
   | _=>zaE l h h1=true/\I (i+1) p.2 h1)
  (fin:∀ σ h,I xs.length σ h->Q (.nx,σ) h) {σ:Env} {h:Sto} (h0:I 0 σ h):Ok (loop l f (xs.map g) σ h) Q:=by
 refine zn1 I (λi x σ h hx hI=>?_) (λσ h hI=>fin σ h (by simpa using hI)) h0;rw [List.getElem?_map,Option.map_eq_some_iff] at hx;obtain ⟨y,hy,rfl⟩:=hx;exact step i y σ h hy hI
theorem zgA {l:Option Nat} {xs:List D} {Q:Fl×Env->Sto->Prop} (I:Nat->Env->Sto->Prop)
  (step:∀ i x σ h,xs[i]?=some x->I i σ h->Ok (f (dI x) σ h) λp h1=>match p.1 with
   | .ret r=>Q (.ret r,p.2) h1
   | .brk=>Q (.nx,p.2) h1
   | _=>zaE l h h1=true/\I (i+1) p.2 h1)
  (fin:∀ σ h,I xs.length σ h->Q (.nx,σ) h) {σ:Env} {h:Sto} (h0:I 0 σ h):Ok (loop l f (xs.map dI) σ h) Q:=zbj I step fin h0
theorem zfm {α β:Type} {g:β->Ite} {l:Option Nat} {f:Ite->M (Option α)} {xs:List β} {Q:List α->Sto->Prop} (I:Nat->List α->Sto->Prop)
  (step:∀ i x ys h,xs[i]?=some x->I i ys h->Ok (f (g x) h) λo h1=>zaE l h h1=true/\I (i+1) (match o with | some y=>ys++[y] | none=>ys) h1)
  (fin:∀ ys h,I xs.length ys h->Q ys h) {h:Sto} (h0:I 0 [] h):Ok (zbd l f (xs.map g) h) Q:=by
 have gen:∀ (zs:List β) (i:Nat) (ys:List α) (h:Sto),xs.drop i=zs->i<=xs.length->I i ys h->Ok (zbd l f (zs.map g) h) λr h1=>Q (ys++r) h1:=by
  intro zs
  induction zs with
  | nil=>
   intro i ys h e hi hI
   have:i=xs.length:=by
    have:=congrArg List.length e
    simp at this;omega
   subst this
   exact ⟨_,_,rfl,by show Q (ys++[]) h;rw [List.append_nil];exact fin ys h hI⟩
  | cons y zs ih=>
   intro i ys h e hi hI
   have hil:i<xs.length:=by
    have:=congrArg List.length e
    simp at this;omega
   have hy:xs[i]?=some y:=by
    have:=congrArg (λz=>z[0]?) e
    simpa using this
   have hd:xs.drop (i+1)=zs:=by
    have:=congrArg List.tail e
    simpa using this
   obtain ⟨o,h1,ef,st,q⟩:=step i y ys h hy hI;simp only [List.map_cons,zbd,ef];rw [if_pos st,ok_bnd];refine (ih (i+1) _ h1 hd (by omega) q).mono λr h2 hq=>?_;rw [ok_ok]
   cases o with
   | none=>exact hq
   | some z=>simpa using hq
 have:=gen xs 0 [] h (by simp) (by omega) h0
 simpa using this
theorem zjY {α:Type} {l:Option Nat} {f:Ite->M (Option α)} {xs:List D} {Q:List α->Sto->Prop} (I:Nat->List α->Sto->Prop)
  (step:∀ i x ys h,xs[i]?=some x->I i ys h->Ok (f (dI x) h) λo h1=>zaE l h h1=true/\I (i+1) (match o with | some y=>ys++[y] | none=>ys) h1)
  (fin:∀ ys h,I xs.length ys h->Q ys h) {h:Sto} (h0:I 0 [] h):Ok (zbd l f (xs.map dI) h) Q:=zfm I step fin h0
theorem zgl {α β:Type} {d:β->Ite} {l:Option Nat} {f:Ite->M (Option α)} {g:β->Option α} {h:Sto}:∀ {xs:List β},(∀ x∈xs,f (d x) h=some (g x,h))->zaE l h h=true->zbd l f (xs.map d) h=some (xs.filterMap g,h)
 | [],_,_=>rfl
 | x::xs,e,s=>by
  simp only [List.map_cons,zbd,e x (by simp),if_pos s];unfold bnd;rw [zgl (λy hy=>e y (by simp [hy])) s];simp only [ok,List.filterMap_cons]
  cases g x<;>rfl
theorem zsA (Γ:Calls) (i:_) (σ:Env):ev Γ (.var i) σ=(λh=>match σ[i]? with
  | some (some r)=>some (r,h)
  | _=>none):=rfl
theorem zuk (Γ:Calls) (a:_) (σ:Env):ev Γ (.neg a) σ=(bnd (ev Γ a σ) λx=>match x with
  | .d (.int i)=>ok (.d (.int (-i)))
  | _=>λ_=>none):=rfl
theorem zs8 (Γ:Calls) (a:_) (b:_) (σ:Env):ev Γ (.and a b) σ=(bnd (ev Γ a σ) λx=>match x with
  | .d (.bl c)=>if c then ev Γ b σ else ok (.d (.bl false))
  | _=>λ_=>none):=rfl
theorem zuF (Γ:Calls) (a:_) (b:_) (σ:Env):ev Γ (.or a b) σ=(bnd (ev Γ a σ) λx=>match x with
  | .d (.bl c)=>if c then ok (.d (.bl true)) else ev Γ b σ
  | _=>λ_=>none):=rfl
theorem zsy (Γ:Calls) (a:_) (σ:Env):ev Γ (.not a) σ=(bnd (ev Γ a σ) λx=>bnd (rd x) λd=>bnd (opt (tru d)) λt=>ok (.d (.bl (!t)))):=rfl
theorem zvI (Γ:Calls) (m:_) (o:_) (es:_) (σ:Env):ev Γ (.me m o es) σ=(bnd (ev Γ o σ) λx=>bnd (zeE x) λ_=>bnd (evs Γ es σ) λrs=>meth m x rs):=rfl
theorem zrh (Γ:Calls) (c:_) (f:_) (es:_) (σ:Env):ev Γ (.make c f es) σ=(bnd (evs Γ es σ) λrs=>bnd (newA c) λx=>bnd (Γ f (x::rs)) λr=>match r with
  | .d .non=>ok x
  | _=>λ_=>none):=rfl
theorem zvh (Γ:Calls) (c:_) (m:_) (f:_) (o:_) (es:_) (σ:Env):ev Γ (.mc c m f o es) σ=(bnd (ev Γ o σ) λx=>bnd (isA x c m) λ_=>bnd (evs Γ es σ) λrs=>Γ f (x::rs)):=rfl
theorem zrq (Γ:Calls) (tg:_) (it:_) (c:_) (el:_) (σ:Env):ev Γ (.lstO tg it c el) σ=(bnd (evI Γ it σ) λw=>bnd (zbd w.l (λx=>bnd (zas tg x (clr tg.slots σ)) λσ'=>bnd (tvs Γ c σ') λt=>if t then bnd (ev Γ el σ') λr=>bnd (zbn r) λd=>ok (some d) else ok none) w.xs) λls=>allocO ls):=rfl
theorem zsz (Γ:Calls) (a:_) (i:_) (σ:Env):ev Γ (.oix a i) σ=(bnd (ev Γ a σ) λx=>bnd (ev Γ i σ) λy=>bnd (zbF x) λo=>match o,y with
  | some ls,.d (.int k)=>match at' ls k with
   | some l=>ok (.loc l)
   | none=>λ_=>none
  | _,_=>λ_=>none):=rfl
theorem zrN (Γ:Calls) (a:_) (σ:Env):ev Γ (.olen a) σ=(bnd (ev Γ a σ) λx=>bnd (zbF x) λo=>match o with
  | some ls=>ok (.d (.int ls.length))
  | none=>λ_=>none):=rfl
theorem zoy (Γ:Calls) (f:_) (σ:Env):ev Γ (.call0 f) σ=(Γ f []):=rfl
theorem zpu (Γ:Calls)  (σ:Env):ev Γ .stuck σ=(λ_=>none):=rfl
theorem zqS (Γ:Calls) (e:_) (σ:Env):evL Γ (.ofR e) σ=(bnd (ev Γ e σ) λr=>match r with
  | .d (.int n)=>if decide (-(2 ^ 62)<=n)&&decide (n<=16777216) then ok (za6 0 n.toNat) else λ_=>none
  | _=>λ_=>none):=rfl
theorem zqX (Γ:Calls) (e:_) (σ:Env):evI Γ (.rng e) σ=(bnd (ev Γ e σ) λr=>zgu r):=rfl
theorem zq0 (Γ:Calls) (e:_) (σ:Env):evI Γ (.enu e) σ=(bnd (ev Γ e σ) λr=>zkH r):=rfl
theorem zqW :fzs []=(ok []):=rfl
theorem zou (r:_) (rs:_):fzs (r::rs)=(bnd (fz r) λd=>bnd (fzs rs) λds=>ok (d::ds)):=rfl
theorem zra :rds []=(ok []):=rfl
theorem zpr (r:_) (rs:_):rds (r::rs)=(bnd (rd r) λd=>bnd (rds rs) λds=>ok (d::ds)):=rfl
theorem zsc (Γ:Calls) (o:_) (i:_) (e:_) (σ:Env):ex Γ (.setI o i e) σ=(bnd (ev Γ e σ) λr=>bnd (ev Γ o σ) λx=>bnd (ev Γ i σ) λy=>bnd (fz r) λd=>bnd (rd y) λy=>bnd (zf2 x y d) λ_=>ok (.nx,σ)):=rfl
theorem zuD (Γ:Calls) (c:_) (b:_) (σ:Env):ex Γ (.whl c b) σ=(zeC (tv Γ c) (exs Γ b) zby σ):=rfl
theorem znW (Γ:Calls)  (σ:Env):ex Γ .stuck σ=(λ_=>none):=rfl
theorem zoD (Γ:Calls) (s:_) (r:_) (σ:Env):exs Γ (s::r) σ=(bnd (ex Γ s σ) λp=>match p.1 with
  | .nx=>exs Γ r p.2
  | _=>ok p):=rfl
theorem ziQ:meth .append (.loc l) [r] h=(bnd (fz r) λd h=>match h[l]? with
  | some (.lst xs)=>if decide (xs.length<big) then some (.d .non,h.set l (.lst (xs++[d]))) else none
  | _=>none) h:=rfl
theorem znV :meth .pop (.loc l) [] h=(λh=>match h[l]? with
  | some (.lst xs)=>match xs[xs.length-1]? with
   | some y=>some (.d y,h.set l (.lst xs.dropLast))
   | none=>none
  | _=>none) h:=rfl
theorem zkZ:meth .popAt (.loc l) [.d (.int i)] h=(λh=>if decide (-(2 ^ 63)<=i)&&decide (i<2 ^ 63) then match h[l]? with
  | some (.lst xs)=>match ixn xs.length i with
   | some k=>match xs[k]? with
    | some y=>some (.d y,h.set l (.lst (xs.eraseIdx k)))
    | none=>none
   | none=>none
  | _=>none
  else none) h:=rfl
theorem zks :meth .clear (.loc l) [] h=(λh=>match h[l]? with
  | some (.lst xs)=>some (.d .non,h.set l (.lst []))
  | _=>none) h:=rfl
theorem ziT:meth .extend (.loc l) [r] h=(bnd (rd r) λd h=>match d with
  | .lst ys=>match h[l]? with
   | some (.lst xs)=>if fit (xs.length+ys.length) then some (.d .non,h.set l (.lst (xs++ys))) else none
   | _=>none
  | _=>none) h:=rfl
section
variable {Γ:Calls} {σ:Env} {h:Sto}
section
variable {Q:Fl×Env->Sto->Prop}
theorem zky:Ok (exs Γ (s::r) σ h) Q↔Ok (ex Γ s σ h) λp h1=>match p.1 with | .nx=>Ok (exs Γ r p.2 h1) Q | .ret r=>Q (.ret r,p.2) h1 | .brk=>Q (.brk,p.2) h1 | .cnt=>Q (.cnt,p.2) h1:=by
 rw [zoD,ok_bnd];constructor
 ·intro k
  refine k.mono λp h1 q=>?_;obtain ⟨fl,e⟩:=p
  cases fl<;>simpa using q
 ·intro k
  refine k.mono λp h1 q=>?_;obtain ⟨fl,e⟩:=p
  cases fl<;>simpa using q
theorem ztM:Ok (ex Γ (.setI o i e) σ h) Q↔Ok (ev Γ e σ h) λr h1=>Ok (ev Γ o σ h1) λx h2=>Ok (ev Γ i σ h2) λy h3=>Ok (fz r h3) λd h4=>Ok (rd y h4) λy h5=>Ok (zf2 x y d h5) λ_ h6=>Q (.nx,σ) h6:=by rw [zsc];simp only [ok_bnd,ok_ok]
end
section
variable {Q:Env->Sto->Prop}
theorem zqj:Ok (zaT (.name i) r σ h) Q↔Q (σ.set i (some r)) h:=by rw [zaT];exact ok_ok
theorem ztP:Ok (zaT (.tup ts) r σ h) Q↔Ok (rd r h) λd h1=>∃ xs,d=.tup xs/\Ok (bindTs ts xs σ h1) Q:=by
 rw [zaT,ok_bnd]
 constructor<;>intro k<;>refine k.mono λd h1 q=>?_
 ·cases d<;>first | (exact ⟨_,rfl,q⟩) | (simp at q)
 ·obtain ⟨xs,rfl,q⟩:=q;exact q
theorem zm7:Ok (bindTs [] [] σ h) Q↔Q σ h:=by simp only [bindTs,ok_ok]
theorem zkY:Ok (bindTs (t::ts) (x::xs) σ h) Q↔Ok (zaT t (.d x) σ h) λσ' h1=>Ok (bindTs ts xs σ' h1) Q:=by simp only [bindTs,ok_bnd]
end
theorem w_bI:Ok (zas tg (.r x) σ h) Q↔Ok (zaT tg x σ h) Q:=by rw [zas]
theorem zvB:Ok (zas (.tup [a,b]) (.en i x) σ h) Q↔Ok (zaT a (.d (.int i)) σ h) λσ' h1=>Ok (zaT b x σ' h1) Q:=by rw [zas];simp only [ok_bnd]
section
variable {Q:R->Sto->Prop}
theorem zu8:Ok (ev Γ (.var i) σ h) Q↔∃ r,σ[i]?=some (some r)/\Q r h:=by
 rw [zsA]
 cases e:σ[i]? with
 | none=>simp
 | some o=>cases o<;>simp
theorem zu1:Ok (ev Γ (.neg a) σ h) Q↔Ok (ev Γ a σ h) λx h1=>∃ i,x=.d (.int i)/\Q (.d (.int (-i))) h1:=by
 rw [zuk,ok_bnd]
 constructor<;>intro k<;>refine k.mono λx h1 q=>?_
 ·cases x with
  | loc l=>simp at q
  | d d=>cases d<;>first | (exact ⟨_,rfl,by simpa using q⟩) | (simp at q)
 ·obtain ⟨i,rfl,q⟩:=q;simpa using q
theorem zuE:Ok (ev Γ (.and a b) σ h) Q↔Ok (ev Γ a σ h) λx h1=>∃ c,x=.d (.bl c)/\(c=true->Ok (ev Γ b σ h1) Q)/\(c=false->Q (.d (.bl false)) h1):=by
 rw [zs8,ok_bnd]
 constructor<;>intro k<;>refine k.mono λx h1 q=>?_
 ·cases x with
  | loc l=>simp at q
  | d d=>cases d<;>first | (rename_i c;refine ⟨c,rfl,?_⟩;cases c<;>simpa using q) | (simp at q)
 ·obtain ⟨c,rfl,q⟩:=q;cases c<;>simpa using q
theorem w_or:Ok (ev Γ (.or a b) σ h) Q↔Ok (ev Γ a σ h) λx h1=>∃ c,x=.d (.bl c)/\(c=false->Ok (ev Γ b σ h1) Q)/\(c=true->Q (.d (.bl true)) h1):=by
 rw [zuF,ok_bnd]
 constructor<;>intro k<;>refine k.mono λx h1 q=>?_
 ·cases x with
  | loc l=>simp at q
  | d d=>cases d<;>first | (rename_i c;refine ⟨c,rfl,?_⟩;cases c<;>simpa using q) | (simp at q)
 ·obtain ⟨c,rfl,q⟩:=q;cases c<;>simpa using q
theorem w_not:Ok (ev Γ (.not a) σ h) Q↔Ok (ev Γ a σ h) λx h1=>Ok (rd x h1) λd h2=>∃ b,tru d=some b/\Q (.d (.bl (!b))) h2:=by
 rw [zsy];simp only [ok_bnd,ok_opt,ok_ok]
theorem w_me:Ok (ev Γ (.me m o es) σ h) Q↔Ok (ev Γ o σ h) λx h1=>Ok (zeE x h1) λ_ h2=>Ok (evs Γ es σ h2) λrs h3=>Ok (meth m x rs h3) Q:=by rw [zvI];simp only [ok_bnd]
end
theorem zmC:Ok (fzs [] h) Q↔Q [] h:=by rw [zqW];exact ok_ok
theorem zkA:Ok (fzs (r::rs) h) Q↔Ok (fz r h) λd h1=>Ok (fzs rs h1) λds h2=>Q (d::ds) h2:=by rw [zou];simp only [ok_bnd,ok_ok]
theorem zls:Ok (rds [] h) Q↔Q [] h:=by rw [zra];exact ok_ok
theorem zkI:Ok (rds (r::rs) h) Q↔Ok (rd r h) λd h1=>Ok (rds rs h1) λds h2=>Q (d::ds) h2:=by rw [zpr];simp only [ok_bnd,ok_ok]
section
variable {Q:Bool->Sto->Prop}
end
section
variable {Q:List D->Sto->Prop}
noncomputable def zoJ (Γ:Calls) (tg:Tg) (c:List T) (el:E) (σ:Env) (x:Ite):M (Option D):=bnd (zas tg x (clr tg.slots σ)) λσ'=>bnd (tvs Γ c σ') λt=>if t then bnd (ev Γ el σ') λr=>bnd (fz r) λd=>ok (some d) else ok none
end
theorem zqh:Ok (zoJ Γ tg c el σ x h) Q↔Ok (zas tg x (clr tg.slots σ) h) λσ' h1=>Ok (tvs Γ c σ' h1) λt h2=>(t=true->Ok (ev Γ el σ' h2) λr h3=>Ok (fz r h3) λd h4=>Q (some d) h4)/\(t=false->Q none h2):=by
 unfold zoJ;simp only [ok_bnd]
 constructor<;>intro k<;>refine k.mono λσ' h1 q=>?_<;>refine q.mono λt h2 q=>?_<;>cases t<;>simpa using q
noncomputable def zlz (Γ:Calls) (tg:Tg) (c:List T) (el:E) (σ:Env) (x:Ite):M (Option Nat):=bnd (zas tg x (clr tg.slots σ)) λσ'=>bnd (tvs Γ c σ') λt=>if t then bnd (ev Γ el σ') λr=>bnd (zbn r) λd=>ok (some d) else ok none
theorem ztg:Ok (ev Γ (.lstO tg it c el) σ h) Q↔Ok (evI Γ it σ h) λw h1=>Ok (zbd w.l (zlz Γ tg c el σ) w.xs h1) λls h2=>Q (.loc h2.length) (h2++[.ols ls]):=by rw [zrq];simp only [ok_bnd,allocO,ok_some'];rfl
theorem zqU:Ok (zlz Γ tg c el σ x h) Q↔Ok (zas tg x (clr tg.slots σ) h) λσ' h1=>Ok (tvs Γ c σ' h1) λt h2=>(t=true->Ok (ev Γ el σ' h2) λr h3=>Ok (zbn r h3) λd h4=>Q (some d) h4)/\(t=false->Q none h2):=by
 unfold zlz;simp only [ok_bnd]
 constructor<;>intro k<;>refine k.mono λσ' h1 q=>?_<;>refine q.mono λt h2 q=>?_<;>cases t<;>simpa using q
section
variable {Q:Wk->Sto->Prop}
theorem zuZ:Ok (evI Γ (.enu e) σ h) Q↔Ok (ev Γ e σ h) λr h1=>isLs r=true/\Ok (zbe r h1) λw h2=>∃ l,zat 0 w.xs=some l/\Q ⟨l,w.l⟩ h2:=by
 rw [zq0];simp only [ok_bnd,zkH]
 refine iff_of_eq (congrArg (Ok (ev Γ e σ h)) (funext λr=>funext λh1=>propext ?_))
 by_cases c:isLs r=true
 ·rw [if_pos c,ok_bnd]
  simp only [c,true_and];refine iff_of_eq (congrArg (Ok (zbe r h1)) (funext λw=>funext λh2=>propext ?_))
  cases zat 0 w.xs<;>simp
 ·rw [if_neg c];simp [c]
noncomputable def nums {α:Type} (i:Int):List α->List (Int×α)
 | []=>[]
 | x::t=>(i,x)::nums (i+1) t
theorem ziw {α:Type}:∀ (xs:List α) (i:Int) (j:Nat) (p:Int×α),(nums i xs)[j]?=some p->p.1=i+j/\xs[j]?=some p.2
 | [],_,_,_,e=>by simp [nums] at e
 | x::xs,i,0,p,e=>by simp [nums] at e;subst e;exact ⟨by simp,rfl⟩
 | x::xs,i,j+1,p,e=>by
  simp only [nums,List.getElem?_cons_succ] at e ⊢;obtain ⟨h1,h2⟩:=ziw xs (i+1) j p e
  exact ⟨by rw [h1];push_cast;omega,h2⟩
theorem zoL:Ok (zbe (.d (.tup xs)) h) Q↔Q ⟨xs.map dI,none⟩ h:=by simp only [zbe,zbF,ok_bnd,ok_some',ok_rd_d,wkOf,items,ok_ok]
theorem zpC:Ok (zbe (.d (.lst xs)) h) Q↔Q ⟨xs.map dI,none⟩ h:=by simp only [zbe,zbF,ok_bnd,ok_some',ok_rd_d,wkOf,items,ok_ok]
theorem zow:Ok (zbe (.loc l) h) Q↔∃ o,h[l]?=some o/\match o with
  | .lst xs=>Q ⟨xs.map dI,some l⟩ h
  | .fro xs=>Q ⟨xs.map dI,some l⟩ h
  | .ols ls=>Q ⟨ls.map λl=>.r (.loc l),some l⟩ h
  | .ins _ _=>False
  | .dfr _=>False:=by
 simp only [zbe,zbF,ok_bnd]
 cases e:h[l]? with
 | none=>simp [rd,e]
 | some o=>cases o<;>simp [rd,e,Ob.isL,Ob.items,wkOf,items]
theorem zuX:Ok (evI Γ (.rng e) σ h) Q↔Ok (ev Γ e σ h) λr h1=>Ok (zgu r h1) Q:=by rw [zqX];simp only [ok_bnd]
theorem zrA:Ok (zgu (.d (.int n)) h) Q↔(-(2 ^ 62)<=n/\n<=16777216)/\Q ⟨(za6 0 n.toNat).map dI,none⟩ h:=by
 simp only [zgu]
 by_cases c:-(2 ^ 62)<=n/\n<=16777216
 ·rw [if_pos (by rw [Bool.and_eq_true];exact ⟨decide_eq_true c.1,decide_eq_true c.2⟩),ok_ok]
  exact ⟨λq=>⟨c,q⟩,λq=>q.2⟩
 ·rw [if_neg (by rw [Bool.and_eq_true];exact λz=>c ⟨of_decide_eq_true z.1,of_decide_eq_true z.2⟩)]
  simp only [ok_none,false_iff];exact λz=>c z.1
end
theorem zoW:Ok (rd (.loc l) h) Q↔∃ o,h[l]?=some o/\o.isL=true/\Q (.lst o.items) h:=by
 simp only [rd]
 cases h[l]? with
 | none=>simp
 | some o=>cases o<;>simp [Ob.isL]
theorem zo0:Ok (fz (.loc l) h) Q↔∃ o,h[l]?=some o/\o.isL=true/\Q (.lst o.items) (h.set l (.fro o.items)):=by
 simp only [fz]
 cases h[l]? with
 | none=>simp
 | some o=>cases o<;>simp [Ob.isL]
theorem zqm:Ok (zeE (.loc l) h) Q↔∃ o,h[l]?=some o/\o.isL=true/\Q () h:=by
 simp only [zeE]
 cases h[l]? with
 | none=>simp
 | some o=>cases o<;>simp [Ob.isL]
theorem zuc:Ok (getA (.loc l) f h) Q↔∃ c fs,h[l]?=some (.ins c fs)/\∃ r,fs.lookup f=some r/\Q r h:=by
 simp only [getA]
 cases h[l]? with
 | none=>simp
 | some o=>
  cases o with
  | ins c fs=>
   constructor
   ·intro q
    refine ⟨c,fs,rfl,?_⟩;simp only at q
    split at q
    ·rename_i r e;exact ⟨r,e,by simpa using q⟩
    ·simp at q
   ·rintro ⟨c',fs',e,r,e2,q⟩
    cases e;simp only [e2,ok_some'];exact q
  | _=>simp
theorem ztL:Ok (setA (.loc l) f v h) Q↔∃ c fs,h[l]?=some (.ins c fs)/\(fs.lookup f).isSome=true/\fs.length<900/\Q () (h.set l (.ins c (putF f v fs))):=by
 simp only [setA]
 cases h[l]? with
 | none=>simp
 | some o=>
  cases o with
  | ins c fs=>
   constructor
   ·intro q
    refine ⟨c,fs,rfl,?_⟩;simp only at q
    split at q
    ·rename_i hl;exact ⟨hl.1,hl.2,by simpa using q⟩
    ·simp at q
   ·rintro ⟨c',fs',e,hl,hl2,q⟩
    cases e;simp only [hl,hl2,and_self,if_true,ok_some'];exact q
  | _=>simp
theorem zsV:Ok (setN (.loc l) c f v h) Q↔∃ fs,h[l]?=some (.ins c fs)/\fs.length<900/\Q () (h.set l (.ins c (putF f v fs))):=by
 simp only [setN]
 cases h[l]? with
 | none=>simp
 | some o=>
  cases o with
  | ins c' fs=>
   constructor
   ·intro q
    simp only at q
    split at q
    ·rename_i hl
     obtain ⟨rfl,hl⟩:=hl;exact ⟨fs,rfl,hl,by simpa using q⟩
    ·simp at q
   ·rintro ⟨fs',e,hl,q⟩
    cases e;simp only [hl,and_self,if_true,ok_some'];exact q
  | _=>simp
theorem zsO:Ok (ev Γ (.make c f es) σ h) Q↔Ok (evs Γ es σ h) λrs h1=>Ok (Γ f (.loc h1.length::rs) (h1++[.ins c []])) λr h2=>r=.d .non/\Q (.loc h1.length) h2:=by
 rw [zrh];simp only [ok_bnd,newA,ok_some']
 refine iff_of_eq (congrArg (Ok (evs Γ es σ h)) (funext λrs=>funext λh1=>congrArg (Ok _) (funext λr=>funext λh2=>propext ?_)))
 match r with
 | .d .non=>simp
 | .loc _=>simp
 | .d (.bl _) | .d (.int _) | .d (.str _) | .d (.tup _) | .d (.lst _)=>simp
theorem w_mc:Ok (ev Γ (.mc c m f o es) σ h) Q↔Ok (ev Γ o σ h) λx h1=>Ok (isA x c m h1) λ_ h2=>Ok (evs Γ es σ h2) λrs h3=>Ok (Γ f (x::rs) h3) Q:=by rw [zvh];simp only [ok_bnd]
theorem zuS:Ok (isA (.loc l) c m h) Q↔∃ fs,h[l]?=some (.ins c fs)/\fs.lookup m=none/\Q () h:=by
 simp only [isA]
 cases h[l]? with
 | none=>simp
 | some o=>
  cases o with
  | ins c' fs=>
   constructor
   ·intro q
    simp only at q
    split at q
    ·rename_i e
     obtain ⟨rfl,e2⟩:=e;exact ⟨fs,rfl,Option.isNone_iff_eq_none.mp e2,by simpa using q⟩
    ·simp at q
   ·rintro ⟨fs',e,e2,q⟩
    cases e;simp only [e2,Option.isNone_none,and_self,if_true,ok_some'];exact q
  | _=>simp
theorem zlx:Ok (zbn (.loc l) h) Q↔∃ c fs,h[l]?=some (.ins c fs)/\Q l h:=by
 simp only [zbn]
 cases h[l]? with
 | none=>simp
 | some o=>cases o<;>simp
theorem ztC:Ok (ev Γ (.olen a) σ h) Q↔Ok (ev Γ a σ h) λx h1=>∃ l ls,x=.loc l/\h1[l]?=some (.ols ls)/\Q (.d (.int ls.length)) h1:=by
 rw [zrN];simp only [ok_bnd]
 refine iff_of_eq (congrArg (Ok (ev Γ a σ h)) (funext λx=>funext λh1=>propext ?_))
 cases x with
 | d x=>simp [zbF]
 | loc l=>
  simp only [zbF]
  cases e:h1[l]? with
  | none=>simp [e]
  | some o=>
   cases o with
   | ols ls=>
    simp only [ok_some',R.loc.injEq,ok_ok];constructor
    ·intro q;exact ⟨l,ls,rfl,e,q⟩
    ·rintro ⟨_,ls',rfl,e',q⟩;rw [e] at e';cases e';exact q
   | _=>simp [e]
theorem zn3:Ok (ev Γ (.call0 f) σ h) Q↔Ok (Γ f [] h) Q:=by rw [zoy]
theorem zuO:Ok (ev Γ (.oix a i) σ h) Q↔Ok (ev Γ a σ h) λx h1=>Ok (ev Γ i σ h1) λy h2=>∃ l ls k j,x=.loc l/\h2[l]?=some (.ols ls)/\y=.d (.int k)/\at' ls k=some j/\Q (.loc j) h2:=by
 rw [zsz];simp only [ok_bnd]
 refine iff_of_eq (congrArg (Ok (ev Γ a σ h)) (funext λx=>funext λh1=>congrArg (Ok (ev Γ i σ h1)) (funext λy=>funext λh2=>propext ?_)))
 cases x with
 | d x=>simp [zbF]
 | loc l=>
  simp only [zbF]
  cases e:h2[l]? with
  | none=>simp [e]
  | some o=>
   cases o with
   | ols ls=>
    simp only [ok_some',R.loc.injEq]
    match y with
    | .d (.int k)=>
     simp only
     cases ea:at' ls k with
     | none=>simp [e,ea]
     | some j=>simp [e,ea]
    | .loc _=>simp
    | .d .non | .d (.bl _) | .d (.str _) | .d (.tup _) | .d (.lst _)=>simp
   | _=>simp [e]
theorem zop:Ok (meth .append (.loc l) [r] h) Q↔Ok (fz r h) λd h1=>∃ xs,h1[l]?=some (.lst xs)/\xs.length<big/\Q (.d .non) (h1.set l (.lst (xs++[d]))):=by
 rw [ziQ,ok_bnd]
 constructor<;>intro k<;>refine k.mono λd h1 q=>?_
 ·cases e:h1[l]? with
  | none=>rw [e] at q;simp at q
  | some o=>
   rw [e] at q
   cases o with
   | fro xs=>simp at q
   | ins _ _=>simp at q
   | ols _=>simp at q
   | dfr _=>simp at q
   | lst xs=>
    simp only at q
    by_cases c:xs.length<big
    ·rw [if_pos (decide_eq_true c)] at q;exact ⟨xs,rfl,c,by simpa using q⟩
    ·rw [if_neg (by simpa using c)] at q;simp at q
 ·obtain ⟨xs,e,c,q⟩:=q
  rw [e];simp only;rw [if_pos (decide_eq_true c)]
  simpa using q
theorem zry:Ok (zf2 (.loc l) (.int k) d h) Q↔∃ xs,h[l]?=some (.lst xs)/\∃ j,ixn xs.length k=some j/\Q () (h.set l (.lst (xs.set j d))):=by
 simp only [zf2]
 cases e:h[l]? with
 | none=>simp
 | some o=>
  cases o with
  | fro xs=>simp
  | ins _ _=>simp
  | ols _=>simp
  | dfr _=>simp
  | lst xs=>
   simp only [Option.some.injEq,Ob.lst.injEq,exists_eq_left']
   cases c:ixn xs.length k with
   | none=>simp
   | some j=>simp
theorem zuR:Ok (evL Γ (.ofR e) σ h) Q↔Ok (ev Γ e σ h) λr h1=>∃ n,r=.d (.int n)/\(-(2 ^ 62)<=n/\n<=16777216)/\Q (za6 0 n.toNat) h1:=by
 rw [zqS];simp only [ok_bnd]
 refine iff_of_eq (congrArg (Ok (ev Γ e σ h)) (funext λr=>funext λh1=>propext ?_))
 match r with
 | .d (.int n)=>
  simp only [R.d.injEq,D.int.injEq,exists_eq_left']
  by_cases c:-(2 ^ 62)<=n/\n<=16777216
  ·rw [if_pos (by rw [Bool.and_eq_true];exact ⟨decide_eq_true c.1,decide_eq_true c.2⟩),ok_ok]
   exact ⟨λq=>⟨c,q⟩,λq=>q.2⟩
  ·rw [if_neg (by rw [Bool.and_eq_true];exact λz=>c ⟨of_decide_eq_true z.1,of_decide_eq_true z.2⟩)]
   simp only [ok_none,false_iff];exact λz=>c z.1
 | .loc _=>simp
 | .d .non | .d (.bl _) | .d (.str _) | .d (.tup _) | .d (.lst _)=>simp
theorem zvf:Ok (ex Γ (.whl c b) σ h) Q↔Ok (zeC (tv Γ c) (exs Γ b) zby σ h) Q:=by rw [zuD]
theorem zuN:Ok (ex Γ .stuck σ h) Q↔False:=by rw [znW];exact ok_none
theorem zve {c:Nat} {es:List E}:Ok (ex Γ (.rai c es) σ h) Q↔False:=by rw [show ex Γ (.rai c es) σ=λ_=>none from rfl];exact ok_none
theorem zvi:Ok (ev Γ .stuck σ h) Q↔False:=by rw [zpu];exact ok_none
theorem znN:Ok (meth .extend (.loc l) [r] h) Q↔Ok (rd r h) λd h1=>∃ ys xs,d=.lst ys/\h1[l]?=some (.lst xs)/\fit (xs.length+ys.length)=true/\Q (.d .non) (h1.set l (.lst (xs++ys))):=by
 rw [ziT,ok_bnd];refine iff_of_eq (congrArg (Ok (rd r h)) (funext λd=>funext λh1=>propext ?_))
 cases d with
 | lst ys=>
  simp only [D.lst.injEq,exists_eq_left']
  cases e:h1[l]? with
  | none=>simp
  | some o=>
   cases o with
   | fro xs=>simp
   | ins _ _=>simp
   | ols _=>simp
   | dfr _=>simp
   | lst xs=>
    simp only [Option.some.injEq,Ob.lst.injEq,exists_eq_left',and_assoc]
    cases c:fit (xs.length+ys.length)<;>simp [c]
 | _=>simp
theorem zuG:Ok (meth .pop (.loc l) [] h) Q↔∃ xs,h[l]?=some (.lst xs)/\∃ y,xs[xs.length-1]?=some y/\Q (.d y) (h.set l (.lst xs.dropLast)):=by
 rw [znV];dsimp only
 cases e:h[l]? with
 | none=>simp
 | some o=>
  cases o with
  | fro xs=>simp
  | ins _ _=>simp
  | ols _=>simp
  | dfr _=>simp
  | lst xs=>
   simp only [Option.some.injEq,Ob.lst.injEq,exists_eq_left']
   cases c:xs[xs.length-1]? with
   | none=>simp
   | some y=>simp
theorem zsd (c:-(2 ^ 63)<=i) (c2:i<2 ^ 63):Ok (meth .popAt (.loc l) [.d (.int i)] h) Q↔∃ xs,h[l]?=some (.lst xs)/\∃ k,ixn xs.length i=some k/\∃ y,xs[k]?=some y/\Q (.d y) (h.set l (.lst (xs.eraseIdx k))):=by
 rw [zkZ];dsimp only
 rw [if_pos (by rw [Bool.and_eq_true];exact ⟨decide_eq_true c,decide_eq_true c2⟩)]
 cases e:h[l]? with
 | none=>simp
 | some o=>
  cases o with
  | fro xs=>simp
  | ins _ _=>simp
  | ols _=>simp
  | dfr _=>simp
  | lst xs=>
   simp only [Option.some.injEq,Ob.lst.injEq,exists_eq_left']
   cases c:ixn xs.length i with
   | none=>simp
   | some k=>
    simp only [Option.some.injEq,exists_eq_left']
    cases c2:xs[k]? with
    | none=>simp
    | some y=>simp
theorem zqv:Ok (meth .clear (.loc l) [] h) Q↔∃ xs,h[l]?=some (.lst xs)/\Q (.d .non) (h.set l (.lst [])):=by
 rw [zks];dsimp only
 cases e:h[l]? with
 | none=>simp
 | some o=>cases o<;>simp
end
class Cont (α:Type) where
 q:α->Sto->Prop
structure Ask {α:Type} (m:Option (α×Sto)) [c:Cont α]:Prop where
 ok:Ok m c.q
theorem ask {α:Type} {m:Option (α×Sto)} {Q:α->Sto->Prop} (k:Ok m Q):@Ask α m ⟨Q⟩:=@Ask.mk α m ⟨Q⟩ k
theorem ztd {α:Type} {m:Option (α×Sto)} {Q:α->Sto->Prop}:Ok m Q↔@Ask α m ⟨Q⟩:=⟨λk=>@Ask.mk α m ⟨Q⟩ k,λk=>@Ask.ok α m ⟨Q⟩ k⟩
theorem zt2 {n:Nat} {i:Int} (c:0<=i) (c2:i<n):ixn n i=some i.toNat:=by
 unfold ixn;rw [if_pos c,if_pos c2]
theorem ztp {α:Type} {xs:List α} {i:Int} {x:α} (c:0<=i) (e:xs[i.toNat]?=some x):at' xs i=some x:=by
 have:=(List.getElem?_eq_some_iff.mp e).1
 unfold at';rw [zt2 c (by omega)];exact e
theorem zcE {xs:List D} {x:D} (c:0<=i) (e:xs[i.toNat]?=some x):idxD (.tup xs) (.int i)=some x:=ztp c e
theorem zfj:idxD (.tup (x::xs)) (.int 0)=some x:=by refine zcE (by decide) rfl
theorem zjO:idxD (.tup (x::y::xs)) (.int 1)=some y:=by refine zcE (by decide) rfl
theorem zp6:idxD (.tup (x::y::z::xs)) (.int 2)=some z:=by refine zcE (by decide) rfl
theorem zgJ (c:zhY a b=true):cop .eq a b=some (.bl (a.eqb b)):=if_pos c
theorem zfO (c:zhY a b=true):cop .ne a b=some (.bl (!a.eqb b)):=if_pos c
theorem zoI (c:fit xs.length=true):Ok (zbe (.d (.str xs)) h) Q↔Q ⟨(xs.map λc=>D.str [c]).map dI,none⟩ h:=by simp only [zbe,zbF,ok_bnd,ok_some',ok_rd_d,wkOf,items,c,if_true,ok_ok]
theorem ztD {α:Type} {xs:List α} {a:Int} (c:0<=a):cut xs none (some a)=xs.take a.toNat:=by
 unfold cut sIx;simp only [if_neg (show ¬ a<0 by omega),List.drop_zero,Nat.sub_zero]
 rcases Nat.le_total a.toNat xs.length with k | k
 ·rw [Nat.min_eq_left k]
 ·rw [Nat.min_eq_right k,List.take_length,List.take_of_length_le k]
theorem zrj {α:Type} {xs:List α} {x:α}:at' (xs++[x]) (-1)=some x:=by
 have:ixn (xs++[x]).length (-1)=some xs.length:=by
  unfold ixn
  rw [if_neg (by decide),if_pos (by simp;omega)]
  congr 1
  simp;omega
 simp only [at',this];simp
theorem zad:(h++(x::t))[h.length]?=some x:=by
 rw [List.getElem?_append_right (Nat.le_refl _),Nat.sub_self];rfl
theorem zai:(h++(x::t)).set h.length y=h++(y::t):=by
 rw [List.set_append_right _ _ (Nat.le_refl _),Nat.sub_self];rfl
theorem zgS {h t:Sto}:(h++t).take h.length=h:=by simp
theorem zbl:zaE none h h'=true:=rfl
theorem cutN {α:Type} {xs:List α} {n:Nat}:cut xs none (some (n:Int))=xs.take n:=by rw [ztD (by omega)];rfl
theorem zif {a b:D} (c:b.dep<=60):zhY a b=true:=by unfold zhY;exact decide_eq_true (by omega)
theorem zj3 {a b:D} (c:a.dep<=60):zhY a b=true:=by unfold zhY;exact decide_eq_true (by omega)
theorem znp {α:Type} {xs:List α} {a b:Option Int}:(cut xs a b).length<=xs.length:=by
 unfold cut;simp;omega
mutual
theorem D.eqb_rfl:∀ x:D,x.eqb x=true
 | .non=>rfl
 | .bl a=>by simp [D.eqb]
 | .int a=>by simp [D.eqb]
 | .str a=>by simp [D.eqb]
 | .tup a=>by simp only [D.eqb];exact D.eqbs_rfl a
 | .lst a=>by simp only [D.eqb];exact D.eqbs_rfl a
theorem D.eqbs_rfl:∀ x:List D,D.eqbs x x=true
 | []=>rfl
 | a::r=>by simp only [D.eqbs,Bool.and_eq_true];exact ⟨D.eqb_rfl a,D.eqbs_rfl r⟩
end
theorem deps_le:∀ {xs:List D} {n:Nat},(∀ x∈xs,x.dep<=n)->D.deps xs<=n
 | [],_,_=>by simp [D.deps]
 | x::xs,n,h=>by
  have h1:=h x (by simp);have h2:=deps_le (xs:=xs) (n:=n) λy hy=>h y (by simp [hy])
  simp only [D.deps];omega
theorem Ok.eq {α:Type} {m:Option (α×Sto)} {a:α} {h:Sto} (k:Ok m λb h1=>b=a/\h1=h):m=some (a,h):=by
 obtain ⟨b,h1,e,rfl,rfl⟩:=k;exact e
theorem zcd {α β:Type} {d:β->Ite} {l:Option Nat} {f:Ite->M (Option α)} {g:β->Option α} {h:Sto} {xs:List β} {Q:List α->Sto->Prop} (e:∀ x∈xs,Ok (f (d x) h) λo h1=>o=g x/\h1=h) (s:zaE l h h=true) (q:Q (xs.filterMap g) h):Ok (zbd l f (xs.map d) h) Q:=
 ⟨_,_,zgl (λx hx=>(e x hx).eq) s,q⟩
theorem zkG {l:Option Nat} {g:D->Option D} {h:Sto} {xs:List D} {Q:List D->Sto->Prop} (e:∀ x∈xs,Ok (f (dI x) h) λo h1=>o=g x/\h1=h) (s:zaE l h h=true) (q:Q (xs.filterMap g) h):Ok (zbd l f (xs.map dI) h) Q:=zcd e s q
theorem zf8 {l:Nat} (e:h[l]?=some (.lst xs)):zaE (some l) h h=true:=by
 simp only [zaE,e,Ob.same,Ob.isL,Ob.items,Bool.true_and];exact D.sames_refl _
theorem zdx {l:Nat} (e:h[l]?=some (.ols ls)) (e1:h1[l]?=some (.ols ls)):zaE (some l) h h1=true:=by
 simp only [zaE,e,e1,Ob.same,beq_self_eq_true]
theorem R.same_self:∀ x:R,x.same x=true
 | .d x=>D.same_refl x
 | .loc l=>by simp [R.same]
theorem zfD:∀ fs:List (PySem.Str×R),zdE fs fs=true
  | []=>rfl
  | (f,x)::r=>by simp [zdE,R.same_self,zfD r]
theorem ze8:∀ kvs:List (D×D),zcC kvs kvs=true
 | []=>rfl
 | p::r=>by simp [zcC,D.same_refl,ze8 r]
theorem zlo (o:Ob) (h:Sto) (o1:Ob) (t:Sto):objs (o::h) (o1::t)=((match o,o1 with
   | .ins c fs,.ins c1 fs1=>c==c1&&zdE fs fs1
   | .ols a,.ols b=>a==b
   | .dfr a,.dfr b=>zcC a b
   | .lst _,.lst _=>true
   | .lst _,.fro _=>true
   | .fro _,.lst _=>true
   | .fro _,.fro _=>true
   | _,_=>false)&&objs h t):=rfl
theorem zds:∀ {h t:Sto},objs h (h++t)=true
 | [],_=>rfl
 | o::h,t=>by
  rw [List.cons_append,zlo,zds,Bool.and_true]
  cases o<;>simp [zfD,ze8]
theorem zl8 {h:Sto}:objs h h=true:=by
 have:=zds (h:=h) (t:=[])
 rwa [List.append_nil] at this
theorem zcb {h:Sto}:(h++(x::y::t))[h.length+1]?=some y:=by
 rw [List.getElem?_append_right (by omega),Nat.add_sub_cancel_left];rfl
theorem zdY {h:Sto}:(h++(x::y::t)).set (h.length+1) z=h++(x::z::t):=by
 rw [List.set_append_right _ _ (by omega),Nat.add_sub_cancel_left];rfl
theorem zrm {α β:Type} {f:α->β} {xs:List α} {a b:Option Int}:cut (xs.map f) a b=(cut xs a b).map f:=by
 unfold cut;rw [List.length_map,List.map_take,List.map_drop]
theorem zlj {P:List F} {F:IT.F} (e:P[f]?=some F) (er:zau F.np F.dfl rs=rs') (el:rs'.length=F.np)
  (k:Ok (exs (zaf P n) F.body (rs'.map some++List.replicate (F.ns-F.np) none) h) λp h1=>match p.1 with
   | .ret r=>Ok (fin h F.all F.keep r h1) Q
   | .nx=>Ok (fin h F.all F.keep (.d .non) h1) Q
   | _=>False):Ok (zaf P (n+1) f rs h) Q:=by
 obtain ⟨⟨fl,σ⟩,h1,ee,q⟩:=k;rw [za3];simp only [e,er];rw [if_pos el,ee]
 cases fl with
 | ret r=>exact q
 | nx=>exact q
 | brk=>exact q.elim
 | cnt=>exact q.elim
theorem zvJ:zau np [] rs=rs:=by
 unfold zau
 split
 ·rfl
 ·simp
theorem zr1 {P:List F} {F:IT.F} (e:P[f]?=some F) (ed:F.dfl=[]) (el:rs.length=F.np)
  (k:Ok (exs (zaf P n) F.body (rs.map some++List.replicate (F.ns-F.np) none) h) λp h1=>match p.1 with
   | .ret r=>Ok (fin h F.all F.keep r h1) Q
   | .nx=>Ok (fin h F.all F.keep (.d .non) h1) Q
   | _=>False):Ok (zaf P (n+1) f rs h) Q:=zlj e (by rw [ed];exact zvJ) el k
theorem zrT:Ok (fin h false k (.d x) h1) Q↔objs h h1=true/\Q (.d x) (h1.take h.length):=by
 simp only [fin,Bool.false_eq_true,if_false]
 by_cases c:objs h h1=true
 ·rw [if_pos c];simp [fin0,c]
 ·rw [if_neg c];simp [c]
theorem zah:Ok (fin h true k r h1) Q↔Q r h1:=by simp only [fin,if_true,ok_some']
theorem zqG {xs:List D} (q:Q (.d (.lst xs)) h):Ok (fin h false false (.loc h.length) (h++.lst xs::t)) Q:=by
 simp only [fin,Bool.false_eq_true,if_false,zds,if_true,fin0,zad,Nat.lt_irrefl,zgS,ok_some'];exact q
theorem zol {o:Ob} (q:Q (.d (.lst xs)) h):Ok (fin h false false (.loc (h.length+1)) (h++o::.lst xs::t)) Q:=by
 simp only [fin,Bool.false_eq_true,if_false,zds,if_true,fin0,zcb,show ¬ (h.length+1<h.length) by omega,zgS,ok_some'];exact q
end IT
namespace IT
open PySem (Str)
noncomputable def wO {α:Type} (o:Option α) (Q:α->Prop):Prop:=match o with
 | some a=>Q a
 | none=>False
noncomputable def wB (t:Bool) (A B:Prop):Prop:=match t with
 | true=>A
 | false=>B
noncomputable def wLs (o:Ob) (Q:List D->Prop):Prop:=match o with
 | .lst xs=>Q xs
 | .fro xs=>Q xs
 | .ins _ _=>False
 | .ols _=>False
 | .dfr _=>False
noncomputable def wLw (o:Ob) (Q:List D->Prop):Prop:=match o with
 | .lst xs=>Q xs
 | .fro _=>False
 | .ins _ _=>False
 | .ols _=>False
 | .dfr _=>False
noncomputable def wIn (o:Ob) (Q:Str->List (Str×R)->Prop):Prop:=match o with
 | .ins c fs=>Q c fs
 | .lst _=>False
 | .fro _=>False
 | .ols _=>False
 | .dfr _=>False
noncomputable def wOl (o:Ob) (Q:List Nat->Prop):Prop:=match o with
 | .ols ls=>Q ls
 | .lst _=>False
 | .fro _=>False
 | .ins _ _=>False
 | .dfr _=>False
noncomputable def wRd (r:R) (h:Sto) (Q:D->Sto->Prop):Prop:=match r with
 | .d x=>Q x h
 | .loc l=>wO h[l]? λo=>wLs o λxs=>Q (.lst xs) h
noncomputable def wFz (r:R) (h:Sto) (Q:D->Sto->Prop):Prop:=match r with
 | .d x=>Q x h
 | .loc l=>wO h[l]? λo=>wLs o λxs=>Q (.lst xs) (h.set l (.fro xs))
noncomputable def wRds:List R->Sto->(List D->Sto->Prop)->Prop
 | [],h,Q=>Q [] h
 | r::rs,h,Q=>wRd r h λd h1=>wRds rs h1 λds h2=>Q (d::ds) h2
noncomputable def wFzs:List R->Sto->(List D->Sto->Prop)->Prop
 | [],h,Q=>Q [] h
 | r::rs,h,Q=>wFz r h λd h1=>wFzs rs h1 λds h2=>Q (d::ds) h2
noncomputable def wBl (r:R) (Q:Bool->Prop):Prop:=match r with
 | .d (.bl b)=>Q b
 | _=>False
noncomputable def wInt (r:R) (Q:Int->Prop):Prop:=match r with
 | .d (.int b)=>Q b
 | _=>False
noncomputable def wPl (r:R) (Q:Nat->Prop):Prop:=match r with
 | .loc l=>Q l
 | .d _=>False
noncomputable def wTup (d:D) (Q:List D->Prop):Prop:=match d with
 | .tup xs=>Q xs
 | _=>False
mutual
noncomputable def wT:Tg->R->Env->Sto->(Env->Sto->Prop)->Prop
 | .name i,r,σ,h,Q=>Q (σ.set i (some r)) h
 | .tup ts,r,σ,h,Q=>wRd r h λd h1=>wTup d λxs=>wTs ts xs σ h1 Q
noncomputable def wTs:List Tg->List D->Env->Sto->(Env->Sto->Prop)->Prop
 | [],xs,σ,h,Q=>match xs with
  | []=>Q σ h
  | _::_=>False
 | t::ts,xs,σ,h,Q=>match xs with
  | x::xs=>wT t (.d x) σ h λσ' h1=>wTs ts xs σ' h1 Q
  | []=>False
end
noncomputable def wBI (tg:Tg) (x:Ite) (σ:Env) (h:Sto) (Q:Env->Sto->Prop):Prop:=match x with
 | .r x=>wT tg x σ h Q
 | .en i x=>match tg with
  | .tup [a,b]=>wT a (.d (.int i)) σ h λσ' h1=>wT b x σ' h1 Q
  | _=>False
noncomputable def wWk (r:R) (h:Sto) (Q:Wk->Sto->Prop):Prop:=match r with
 | .d (.tup xs)=>Q ⟨xs.map dI,none⟩ h
 | .d (.lst xs)=>Q ⟨xs.map dI,none⟩ h
 | .d (.str x)=>wB (fit x.length) (Q ⟨(x.map λc=>D.str [c]).map dI,none⟩ h) False
 | .d _=>False
 | .loc l=>wO h[l]? λo=>match o with
  | .lst xs=>Q ⟨xs.map dI,some l⟩ h
  | .fro xs=>Q ⟨xs.map dI,some l⟩ h
  | .ols ls=>Q ⟨ls.map λl=>.r (.loc l),some l⟩ h
  | .ins _ _=>False
  | .dfr _=>False
noncomputable def wEn (r:R) (h:Sto) (Q:Wk->Sto->Prop):Prop:=match r with
 | .loc l=>wWk (.loc l) h λw h2=>wO (zat 0 w.xs) λl=>Q ⟨l,w.l⟩ h2
 | .d (.lst xs)=>wO (zat 0 (xs.map dI)) λl=>Q ⟨l,none⟩ h
 | .d _=>False
noncomputable def wMe (m:Me) (x:R) (rs:List R) (h:Sto) (Q:R->Sto->Prop):Prop:=match m,rs with
 | .append,[r]=>wPl x λl=>wFz r h λd h1=>wO h1[l]? λo=>wLw o λxs=>xs.length<big/\Q (.d .non) (h1.set l (.lst (xs++[d])))
 | .pop,[]=>wPl x λl=>wO h[l]? λo=>wLw o λxs=>wO xs[xs.length-1]? λy=>Q (.d y) (h.set l (.lst xs.dropLast))
 | .clear,[]=>wPl x λl=>wO h[l]? λo=>wLw o λ_=>Q (.d .non) (h.set l (.lst []))
 | .extend,[r]=>wPl x λl=>wRd r h λd h1=>wO (match d with | .lst ys=>some ys | _=>none) λys=>wO h1[l]? λo=>wLw o λxs=>fit (xs.length+ys.length)=true/\Q (.d .non) (h1.set l (.lst (xs++ys)))
 | m,rs=>Ok (meth m x rs h) Q
mutual
noncomputable def wE (Γ:Calls):E->Env->Sto->(R->Sto->Prop)->Prop
 | .con d,_,h,Q=>Q (.d d) h
 | .var i,σ,h,Q=>wO σ[i]? λo=>wO o λr=>Q r h
 | .bin o a b,σ,h,Q=>wE Γ a σ h λx h1=>wE Γ b σ h1 λy h2=>wRd x h2 λx h3=>wRd y h3 λy h4=>wO (bop o x y) λz=>Q (.d z) h4
 | .neg a,σ,h,Q=>wE Γ a σ h λx h1=>wInt x λi=>Q (.d (.int (-i))) h1
 | .cmp o a b,σ,h,Q=>wE Γ a σ h λx h1=>wE Γ b σ h1 λy h2=>wRd x h2 λx h3=>wRd y h3 λy h4=>wO (cop o x y) λz=>Q (.d z) h4
 | .and a b,σ,h,Q=>wE Γ a σ h λx h1=>wBl x λc=>wB c (wE Γ b σ h1 Q) (Q (.d (.bl false)) h1)
 | .or a b,σ,h,Q=>wE Γ a σ h λx h1=>wBl x λc=>wB c (Q (.d (.bl true)) h1) (wE Γ b σ h1 Q)
 | .not a,σ,h,Q=>wE Γ a σ h λx h1=>wRd x h1 λd h2=>wO (tru d) λb=>Q (.d (.bl (!b))) h2
 | .ife c a b,σ,h,Q=>wC Γ c σ h λt h1=>wB t (wE Γ a σ h1 Q) (wE Γ b σ h1 Q)
 | .tup es,σ,h,Q=>wEs Γ es σ h λrs h1=>wFzs rs h1 λds h2=>Q (.d (.tup ds)) h2
 | .lst m l,σ,h,Q=>wL Γ l σ h λxs h1=>match m with
  | true=>Q (.loc h1.length) (h1++[.lst xs])
  | false=>Q (.d (.lst xs)) h1
 | .idx a i,σ,h,Q=>wE Γ a σ h λx h1=>wE Γ i σ h1 λy h2=>wRd x h2 λx h3=>wRd y h3 λy h4=>wO (idxD x y) λz=>Q (.d z) h4
 | .sli a lo hi,σ,h,Q=>wE Γ a σ h λx h1=>wE Γ lo σ h1 λl h2=>wE Γ hi σ h2 λu h3=>wRd x h3 λx h4=>wRd l h4 λl h5=>wRd u h5 λu h6=>wO (sliD x l u) λz=>Q (.d z) h6
 | .call f es,σ,h,Q=>wEs Γ es σ h λrs h1=>@Ask _ (Γ f rs h1) ⟨Q⟩
 | .bi b es,σ,h,Q=>wEs Γ es σ h λrs h1=>wRds rs h1 λds h2=>wO (biD b ds) λz=>Q (.d z) h2
 | .me m o es,σ,h,Q=>wE Γ o σ h λx h1=>wPl x λl=>wO h1[l]? λo=>wLs o λ_=>wEs Γ es σ h1 λrs h3=>wMe m (.loc l) rs h3 Q
 | .glo d,_,h,Q=>Q (.d d) h
 | .isi t e,σ,h,Q=>wE Γ e σ h λr h1=>wRd r h1 λd h2=>Q (.d (.bl (isiD t d))) h2
 | .lm m o a,σ,h,Q=>wE Γ o σ h λx h0=>wRd x h0 λ_ h1=>wE Γ a σ h1 λy h2=>wRd x h2 λx h3=>wRd y h3 λy h4=>wO (lmD m x y) λz=>Q (.d z) h4
 | .fld o f,σ,h,Q=>wE Γ o σ h λx h1=>wPl x λl=>wO h1[l]? λo=>wIn o λ_ fs=>wO (fs.lookup f) λr=>Q r h1
 | .make c f es,σ,h,Q=>wEs Γ es σ h λrs h1=>@Ask _ (Γ f (.loc h1.length::rs) (h1++[.ins c []])) ⟨λr h2=>r=.d .non/\Q (.loc h1.length) h2⟩
 | .mc c m f o es,σ,h,Q=>wE Γ o σ h λx h1=>wPl x λl=>wO h1[l]? λo=>wIn o λc' fs=>c'=c/\fs.lookup m=none/\wEs Γ es σ h1 λrs h3=>@Ask _ (Γ f (.loc l::rs) h3) ⟨Q⟩
 | .lstO tg it c el,σ,h,Q=>wI Γ it σ h λw h1=>@Ask _ (zbd w.l (zlz Γ tg c el σ) w.xs h1) ⟨λls h2=>Q (.loc h2.length) (h2++[.ols ls])⟩
 | .oix a i,σ,h,Q=>wE Γ a σ h λx h1=>wE Γ i σ h1 λy h2=>wPl x λl=>wO h2[l]? λo=>wOl o λls=>wInt y λk=>wO (at' ls k) λj=>Q (.loc j) h2
 | .olen a,σ,h,Q=>wE Γ a σ h λx h1=>wPl x λl=>wO h1[l]? λo=>wOl o λls=>Q (.d (.int ls.length)) h1
 | .call0 f,_,h,Q=>@Ask _ (Γ f [] h) ⟨Q⟩
 | .stuck,_,_,_=>False
noncomputable def wEs (Γ:Calls):List E->Env->Sto->(List R->Sto->Prop)->Prop
 | [],_,h,Q=>Q [] h
 | e::es,σ,h,Q=>wE Γ e σ h λr h1=>wEs Γ es σ h1 λrs h2=>Q (r::rs) h2
noncomputable def wC (Γ:Calls):T->Env->Sto->(Bool->Sto->Prop)->Prop
 | .val e,σ,h,Q=>wE Γ e σ h λr h1=>wRd r h1 λd h2=>wO (tru d) λt=>Q t h2
 | .and a b,σ,h,Q=>wC Γ a σ h λt h1=>wB t (wC Γ b σ h1 Q) (Q false h1)
 | .or a b,σ,h,Q=>wC Γ a σ h λt h1=>wB t (Q true h1) (wC Γ b σ h1 Q)
 | .not a,σ,h,Q=>wC Γ a σ h λt h1=>Q (!t) h1
noncomputable def wCs (Γ:Calls):List T->Env->Sto->(Bool->Sto->Prop)->Prop
 | [],_,h,Q=>Q true h
 | c::cs,σ,h,Q=>wC Γ c σ h λt h1=>wB t (wCs Γ cs σ h1 Q) (Q false h1)
noncomputable def wL (Γ:Calls):L->Env->Sto->(List D->Sto->Prop)->Prop
 | .disp es,σ,h,Q=>wEs Γ es σ h λrs h1=>wFzs rs h1 Q
 | .comp tg it c el,σ,h,Q=>wI Γ it σ h λw h1=>@Ask _ (zbd w.l (zoJ Γ tg c el σ) w.xs h1) ⟨Q⟩
 | .of e,σ,h,Q=>wE Γ e σ h λr h1=>wRd r h1 λd h2=>wO (items d) λxs=>Q xs h2
 | .cat a b,σ,h,Q=>wE Γ a σ h λx h1=>wE Γ b σ h1 λy h2=>wRd x h2 λx h3=>wRd y h3 λy h4=>wO (catD x y) λxs=>Q xs h4
 | .ofR e,σ,h,Q=>wE Γ e σ h λr h1=>wInt r λn=>(-(2 ^ 62)<=n/\n<=16777216)/\Q (za6 0 n.toNat) h1
noncomputable def wI (Γ:Calls):I->Env->Sto->(Wk->Sto->Prop)->Prop
 | .seq e,σ,h,Q=>wE Γ e σ h λr h1=>wWk r h1 Q
 | .rng e,σ,h,Q=>wE Γ e σ h λr h1=>wInt r λn=>(-(2 ^ 62)<=n/\n<=16777216)/\Q ⟨(za6 0 n.toNat).map dI,none⟩ h1
 | .enu e,σ,h,Q=>wE Γ e σ h λr h1=>wEn r h1 Q
end
mutual
noncomputable def wS (Γ:Calls):S->Env->Sto->(Fl×Env->Sto->Prop)->Prop
 | .asg tg e,σ,h,Q=>wE Γ e σ h λr h1=>wT tg r σ h1 λσ' h2=>Q (.nx,σ') h2
 | .setI o i e,σ,h,Q=>wE Γ e σ h λr h1=>wE Γ o σ h1 λx h2=>wE Γ i σ h2 λy h3=>wFz r h3 λd h4=>wInt y λk=>wPl x λl=>wO h4[l]? λo=>wLw o λxs=>wO (ixn xs.length k) λj=>Q (.nx,σ) (h4.set l (.lst (xs.set j d)))
 | .setF o f e,σ,h,Q=>wE Γ e σ h λr h1=>wE Γ o σ h1 λx h2=>wPl x λl=>wO h2[l]? λob=>wIn ob λc fs=>(fs.lookup f).isSome=true/\fs.length<900/\Q (.nx,σ) (h2.set l (.ins c (putF f r fs)))
 | .setN c o f e,σ,h,Q=>wE Γ e σ h λr h1=>wE Γ o σ h1 λx h2=>wPl x λl=>wO h2[l]? λob=>wIn ob λc' fs=>c'=c/\fs.length<900/\Q (.nx,σ) (h2.set l (.ins c' (putF f r fs)))
 | .exp e,σ,h,Q=>wE Γ e σ h λ_ h1=>Q (.nx,σ) h1
 | .ife c a b,σ,h,Q=>wC Γ c σ h λt h1=>wB t (wSs Γ a σ h1 Q) (wSs Γ b σ h1 Q)
 | .for tg it b,σ,h,Q=>wI Γ it σ h λw h1=>@Ask _ (loop w.l (λx σ=>bnd (zas tg x σ) λσ'=>exs Γ b σ') w.xs σ h1) ⟨Q⟩
 | .ret e,σ,h,Q=>wE Γ e σ h λr h1=>Q (.ret r,σ) h1
 | .retN,σ,h,Q=>Q (.ret (.d .non),σ) h
 | .brk,σ,h,Q=>Q (.brk,σ) h
 | .cnt,σ,h,Q=>Q (.cnt,σ) h
 | .whl c b,σ,h,Q=>@Ask _ (zeC (tv Γ c) (exs Γ b) zby σ h) ⟨Q⟩
 | .rai _ _,_,_,_=>False
 | .tryc f es c i d,σ,h,Q=>wEs Γ es σ h λrs h1=>@Ask _ (Γ f rs h1) ⟨λ_ h2=>Q (.nx,σ) h2⟩\/Γ f rs h1=none/\@Ask _ (Γ (xof f) rs h1) ⟨λr h2=>zkB c r=true/\Q (.nx,σ.set i (some (.d d))) h2⟩
 | .stuck,_,_,_=>False
noncomputable def wSs (Γ:Calls):List S->Env->Sto->(Fl×Env->Sto->Prop)->Prop
 | [],σ,h,Q=>Q (.nx,σ) h
 | s::r,σ,h,Q=>wS Γ s σ h λp h1=>match p.1 with
  | .nx=>wSs Γ r p.2 h1 Q
  | .ret r=>Q (.ret r,p.2) h1
  | .brk=>Q (.brk,p.2) h1
  | .cnt=>Q (.cnt,p.2) h1
end
theorem zfZ {α:Type} {o:Option α} {Q:α->Prop}:(∃ a,o=some a/\Q a)=wO o Q:=by
 cases o<;>simp [wO]
theorem zl7:((t=true->A)/\(t=false->B))=wB t A B:=by cases t<;>simp [wB]
theorem zqx:((t=false->B)/\(t=true->A))=wB t A B:=by cases t<;>simp [wB]
section
variable {h:Sto}
theorem qRd {r:R} {Q:D->Sto->Prop}:Ok (rd r h) Q=wRd r h Q:=by
 cases r with
 | d x=>exact propext ok_rd_d
 | loc l=>
  rw [propext zoW];simp only [wRd,<-zfZ]
  congr;funext o;congr;cases o<;>simp [wLs,Ob.isL,Ob.items]
theorem qFz {r:R} {Q:D->Sto->Prop}:Ok (fz r h) Q=wFz r h Q:=by
 cases r with
 | d x=>exact propext ok_fz_d
 | loc l=>
  rw [propext zo0];simp only [wFz,<-zfZ]
  congr;funext o;congr;cases o<;>simp [wLs,Ob.isL,Ob.items]
theorem qRds:∀ {rs:List R} {h:Sto} {Q:List D->Sto->Prop},Ok (rds rs h) Q=wRds rs h Q
 | [],h,Q=>propext zls
 | r::rs,h,Q=>by rw [propext zkI,wRds,qRd];simp only [qRds]
theorem qFzs:∀ {rs:List R} {h:Sto} {Q:List D->Sto->Prop},Ok (fzs rs h) Q=wFzs rs h Q
 | [],h,Q=>propext zmC
 | r::rs,h,Q=>by rw [propext zkA,wFzs,qFz];simp only [qFzs]
mutual
theorem qT:∀ (tg:Tg) (r:R) (σ:Env) (h:Sto) (Q:Env->Sto->Prop),Ok (zaT tg r σ h) Q=wT tg r σ h Q
 | .name i,r,σ,h,Q=>by rw [propext zqj,wT]
 | .tup ts,r,σ,h,Q=>by
  rw [propext ztP,wT,qRd]
  congr;funext d h1
  cases d<;>simp [wTup,qTs ts]
theorem qTs:∀ (ts:List Tg) (xs:List D) (σ:Env) (h:Sto) (Q:Env->Sto->Prop),Ok (bindTs ts xs σ h) Q=wTs ts xs σ h Q
 | [],[],σ,h,Q=>by rw [propext zm7,wTs]
 | [],_::_,σ,h,Q=>by simp [bindTs,wTs]
 | t::ts,[],σ,h,Q=>by simp [bindTs,wTs]
 | t::ts,x::xs,σ,h,Q=>by rw [propext zkY,qT t];simp only [qTs ts,wTs]
end
theorem qBI:Ok (zas tg x σ h) Q=wBI tg x σ h Q:=by
 cases x with
 | r x=>rw [propext w_bI,qT];rfl
 | en i x=>
  match tg with
  | .tup [a,b]=>rw [propext zvB,qT];simp only [qT];rfl
  | .name _=>simp [zas,wBI]
  | .tup []=>simp [zas,wBI]
  | .tup [_]=>simp [zas,wBI]
  | .tup (_::_::_::_)=>simp [zas,wBI]
theorem qWk {r:R} {Q:Wk->Sto->Prop}:Ok (zbe r h) Q=wWk r h Q:=by
 match r with
 | .d (.tup xs)=>exact propext zoL
 | .d (.lst xs)=>exact propext zpC
 | .d (.str x)=>
  simp only [wWk]
  cases c:fit x.length with
  | true=>rw [propext (zoI c)];rfl
  | false=>simp [zbe,zbF,wkOf,items,c,wB]
 | .d .non=>simp [zbe,zbF,wkOf,items,wWk]
 | .d (.bl _)=>simp [zbe,zbF,wkOf,items,wWk]
 | .d (.int _)=>simp [zbe,zbF,wkOf,items,wWk]
 | .loc l=>rw [propext zow,zfZ];rfl
theorem qEn {r:R} {Q:Wk->Sto->Prop}:(isLs r=true/\Ok (zbe r h) λw h2=>∃ l,zat 0 w.xs=some l/\Q ⟨l,w.l⟩ h2)=wEn r h Q:=by
 simp only [qWk,zfZ]
 match r with
 | .loc l=>simp [isLs,wEn]
 | .d (.lst xs)=>simp [isLs,wEn,wWk]
 | .d .non=>simp [isLs,wEn]
 | .d (.bl _)=>simp [isLs,wEn]
 | .d (.int _)=>simp [isLs,wEn]
 | .d (.str _)=>simp [isLs,wEn]
 | .d (.tup _)=>simp [isLs,wEn]
theorem znE {l:Nat}:(∃ xs,h[l]?=some (.lst xs)/\p xs)=wO h[l]? λo=>wLw o p:=by
 cases h[l]? with
 | none=>simp [wO]
 | some o=>cases o<;>simp [wO,wLw]
theorem qMe {m:Me} {l:Nat}:Ok (meth m (.loc l) rs h) Q=wMe m (.loc l) rs h Q:=by
 unfold wMe
 split
 ·rw [propext zop,qFz];simp only [wPl,znE]
 ·rw [propext zuG];simp only [wPl,znE,zfZ]
 ·rw [propext zqv];simp only [wPl,znE]
 ·rw [propext znN,qRd]
  simp only [wPl]
  congr;funext d h1
  cases d with
  | lst ys=>simp only [D.lst.injEq,exists_and_left,exists_eq_left',znE,wO]
  | _=>simp [wO]
 ·rfl
end
theorem zrM {h:Sto} {l:Nat} {p:Str->List (Str×R)->Prop}:(∃ c fs,h[l]?=some (.ins c fs)/\p c fs)=wO h[l]? λo=>wIn o p:=by
 cases h[l]? with
 | none=>simp [wO]
 | some o=>
  cases o with
  | ins c fs=>
   simp only [wO,wIn,eq_iff_iff];constructor
   ·rintro ⟨_,_,e,q⟩;cases e;exact q
   ·intro q;exact ⟨_,_,rfl,q⟩
  | _=>simp [wO,wIn]
theorem zpO {h:Sto} {l:Nat} {c:Str} {p:List (Str×R)->Prop}:(∃ fs,h[l]?=some (.ins c fs)/\p fs)=wO h[l]? λo=>wIn o λc' fs=>c'=c/\p fs:=by
 cases h[l]? with
 | none=>simp [wO]
 | some o=>
  cases o with
  | ins c' fs=>
   simp only [wO,wIn,eq_iff_iff];constructor
   ·rintro ⟨_,e,q⟩;cases e;exact ⟨rfl,q⟩
   ·rintro ⟨rfl,q⟩;exact ⟨_,rfl,q⟩
  | _=>simp [wO,wIn]
theorem znb {x:R} {p:Int->Prop}:(∃ i,x=.d (.int i)/\p i)=wInt x p:=by
 match x with
 | .d (.int i)=>simp [wInt]
 | .loc _ | .d .non | .d (.bl _) | .d (.str _) | .d (.tup _) | .d (.lst _)=>simp [wInt]
theorem zsr {x:R} {p:Bool->Prop}:(∃ i,x=.d (.bl i)/\p i)=wBl x p:=by
 match x with
 | .d (.bl i)=>simp [wBl]
 | .loc _ | .d .non | .d (.int _) | .d (.str _) | .d (.tup _) | .d (.lst _)=>simp [wBl]
theorem zu7 {x:R} {f:Str} {h:Sto} {Q:R->Sto->Prop}:Ok (getA x f h) Q=wPl x λl=>wO h[l]? λo=>wIn o λ_ fs=>wO (fs.lookup f) λr=>Q r h:=by
 cases x with
 | d x=>simp [getA,wPl]
 | loc l=>rw [propext zuc];simp only [zfZ];rw [zrM];rfl
theorem zsN {x:R} {h:Sto} {Q:Unit->Sto->Prop}:Ok (zeE x h) Q=wPl x λl=>wO h[l]? λo=>wLs o λ_=>Q () h:=by
 cases x with
 | d x=>simp [zeE,wPl]
 | loc l=>
  rw [propext zqm];simp only [wPl,<-zfZ]
  congr;funext o;congr;cases o<;>simp [wLs,Ob.isL]
theorem qIsA {x:R} {c m:Str} {h:Sto} {Q:Unit->Sto->Prop}:Ok (isA x c m h) Q=wPl x λl=>wO h[l]? λo=>wIn o λc' fs=>c'=c/\fs.lookup m=none/\Q () h:=by
 cases x with
 | d x=>simp [isA,wPl]
 | loc l=>rw [propext zuS,zpO];rfl
theorem zuK {x:R} {f:Str} {v:R} {h:Sto} {Q:Unit->Sto->Prop}:Ok (setA x f v h) Q=wPl x λl=>wO h[l]? λo=>wIn o λc fs=>(fs.lookup f).isSome=true/\fs.length<900/\Q () (h.set l (.ins c (putF f v fs))):=by
 cases x with
 | d x=>simp [setA,wPl]
 | loc l=>rw [propext ztL,zrM];rfl
theorem zu3 {x:R} {c f:Str} {v:R} {h:Sto} {Q:Unit->Sto->Prop}:Ok (setN x c f v h) Q=wPl x λl=>wO h[l]? λo=>wIn o λc' fs=>c'=c/\fs.length<900/\Q () (h.set l (.ins c' (putF f v fs))):=by
 cases x with
 | d x=>simp [setN,wPl]
 | loc l=>
  rw [propext zsV,zpO];simp only [wPl]
  cases h[l]? with
  | none=>rfl
  | some o=>
   cases o with
   | ins c' fs=>
    simp only [wO,wIn];apply propext;constructor
    ·rintro ⟨rfl,q⟩;exact ⟨rfl,q⟩
    ·rintro ⟨rfl,q⟩;exact ⟨rfl,q⟩
   | _=>rfl
theorem zt7 {x:R} {k:D} {d:D} {h:Sto} {Q:Unit->Sto->Prop}:Ok (zf2 x k d h) Q=wInt (.d k) λk=>wPl x λl=>wO h[l]? λo=>wLw o λxs=>wO (ixn xs.length k) λj=>Q () (h.set l (.lst (xs.set j d))):=by
 cases x with
 | d x=>cases k<;>simp [zf2,wPl,wInt]
 | loc l=>
  cases k with
  | int k=>rw [propext zry];simp only [zfZ];rw [znE];rfl
  | _=>simp [zf2,wInt]
theorem zpH {h:Sto} {x:R} {p:Nat->List Nat->Prop}:(∃ l ls,x=.loc l/\h[l]?=some (.ols ls)/\p l ls)=wPl x λl=>wO h[l]? λo=>wOl o λls=>p l ls:=by
 cases x with
 | d x=>simp [wPl]
 | loc l=>
  simp only [R.loc.injEq,wPl]
  cases e:h[l]? with
  | none=>
   simp only [wO,eq_iff_iff,iff_false]
   rintro ⟨_,ls,rfl,e2,_⟩
   rw [e] at e2;cases e2
  | some o=>
   simp only [wO,eq_iff_iff];constructor
   ·rintro ⟨_,ls,rfl,e2,q⟩
    rw [e] at e2;cases e2
    exact q
   ·intro q
    cases o with
    | ols ls=>exact ⟨l,ls,rfl,e,q⟩
    | _=>exact q.elim
theorem qOix {x y:R} {h:Sto} {Q:R->Sto->Prop}:(∃ l ls k j,x=.loc l/\h[l]?=some (.ols ls)/\y=.d (.int k)/\at' ls k=some j/\Q (.loc j) h)=wPl x λl=>wO h[l]? λo=>wOl o λls=>wInt y λk=>wO (at' ls k) λj=>Q (.loc j) h:=by
 rw [<-zpH (p:=λl ls=>wInt y λk=>wO (at' ls k) λj=>Q (.loc j) h)];simp only [<-znb,<-zfZ,eq_iff_iff];constructor
 ·rintro ⟨l,ls,k,j,a,b,c,d,q⟩;exact ⟨l,ls,a,b,k,c,j,d,q⟩
 ·rintro ⟨l,ls,a,b,k,c,j,d,q⟩;exact ⟨l,ls,k,j,a,b,c,d,q⟩
theorem qOpt {α:Type} {o:Option α} {h:Sto} {Q:α->Sto->Prop}:Ok (opt o h) Q=wO o λa=>Q a h:=by rw [propext ok_opt,zfZ]
theorem zqz {y:R} {h:Sto} {p:Int->Sto->Prop}:(wRd y h λd h1=>wInt (.d d) λk=>p k h1)=wInt y λk=>p k h:=by
 match y with
 | .d (.int i)=>rfl
 | .d .non | .d (.bl _) | .d (.str _) | .d (.tup _) | .d (.lst _)=>rfl
 | .loc l=>
  simp only [wRd,wInt]
  cases h[l]? with
  | none=>rfl
  | some o=>cases o<;>rfl
theorem qMe' {m:Me} {x:R} {Γ:Calls} {h:Sto} {W:Sto->(List R->Sto->Prop)->Prop} {Q:R->Sto->Prop}:(wPl x λl=>wO h[l]? λo=>wLs o λ_=>W h λrs h3=>Ok (meth m x rs h3) Q)=(wPl x λl=>wO h[l]? λo=>wLs o λ_=>W h λrs h3=>wMe m (.loc l) rs h3 Q):=by
 cases x with
 | d x=>rfl
 | loc l=>simp only [wPl,qMe]
theorem zc3 {α:Type} {m:Option (α×Sto)} {Q:α->Sto->Prop}:Ok m Q=@Ask α m ⟨Q⟩:=propext ztd
theorem ztu {c m:Str} {x:R} {f:Nat} {Γ:Calls} {h:Sto} {W:Sto->(List R->Sto->Prop)->Prop} {Q:R->Sto->Prop}:(wPl x λl=>wO h[l]? λo=>wIn o λc' fs=>c'=c/\fs.lookup m=none/\W h λrs h3=>Ok (Γ f (x::rs) h3) Q)=(wPl x λl=>wO h[l]? λo=>wIn o λc' fs=>c'=c/\fs.lookup m=none/\W h λrs h3=>@Ask _ (Γ f (.loc l::rs) h3) ⟨Q⟩):=by
 cases x with
 | d x=>rfl
 | loc l=>simp only [wPl,zc3]
theorem qIf {α:Type} {t:Bool} {x y:M α} {h:Sto} {Q:α->Sto->Prop}:Ok ((if t=true then x else y) h) Q=wB t (Ok (x h) Q) (Ok (y h) Q):=by cases t<;>rfl
mutual
theorem qE (Γ:Calls):∀ (e:E) (σ:Env) (h:Sto) (Q:R->Sto->Prop),Ok (ev Γ e σ h) Q=wE Γ e σ h Q
 | .con d,σ,h,Q=>propext ok_ok
 | .var i,σ,h,Q=>by
  refine (propext zu8).trans ?_;show _=wO σ[i]? λo=>wO o λr=>Q r h
  cases σ[i]? with
  | none=>simp [wO]
  | some o=>cases o<;>simp [wO]
 | .bin o a b,σ,h,Q=>(propext ok_bnd).trans (by simp only [ok_bnd,qE Γ a,qE Γ b,qRd,qOpt,ok_ok];rfl)
 | .neg a,σ,h,Q=>by rw [propext zu1,qE Γ a];simp only [znb];rfl
 | .cmp o a b,σ,h,Q=>(propext ok_bnd).trans (by simp only [ok_bnd,qE Γ a,qE Γ b,qRd,qOpt,ok_ok];rfl)
 | .and a b,σ,h,Q=>by rw [propext zuE,qE Γ a];simp only [qE Γ b,zsr,zl7];rfl
 | .or a b,σ,h,Q=>by rw [propext w_or,qE Γ a];simp only [qE Γ b,zsr,zqx];rfl
 | .not a,σ,h,Q=>(propext ok_bnd).trans (by simp only [ok_bnd,qE Γ a,qRd,qOpt,ok_ok];rfl)
 | .ife c a b,σ,h,Q=>(propext ok_bnd).trans (by simp only [qC Γ c,qIf,qE Γ a,qE Γ b];rfl)
 | .tup es,σ,h,Q=>(propext ok_bnd).trans (by simp only [ok_bnd,qEs Γ es,qFzs,ok_ok];rfl)
 | .lst true l,σ,h,Q=>(propext ok_bnd).trans (by simp only [qL Γ l,if_true,alloc,ok_some'];rfl)
 | .lst false l,σ,h,Q=>(propext ok_bnd).trans (by simp only [qL Γ l,Bool.false_eq_true,if_false,ok_ok];rfl)
 | .idx a b,σ,h,Q=>(propext ok_bnd).trans (by simp only [ok_bnd,qE Γ a,qE Γ b,qRd,qOpt,ok_ok];rfl)
 | .sli a b c,σ,h,Q=>(propext ok_bnd).trans (by simp only [ok_bnd,qE Γ a,qE Γ b,qE Γ c,qRd,qOpt,ok_ok];rfl)
 | .call f es,σ,h,Q=>(propext ok_bnd).trans (by simp only [ok_bnd,qEs Γ es,zc3,ok_ok];rfl)
 | .bi b es,σ,h,Q=>(propext ok_bnd).trans (by simp only [ok_bnd,qEs Γ es,qRds,qOpt,ok_ok];rfl)
 | .me m o es,σ,h,Q=>by
  rw [propext w_me,qE Γ o];simp only [zsN,qEs Γ es,qMe' (Γ:=Γ) (W:=λh Q=>wEs Γ es σ h Q)];rfl
 | .glo d,σ,h,Q=>propext ok_ok
 | .isi t e,σ,h,Q=>(propext ok_bnd).trans (by simp only [ok_bnd,qE Γ e,qRd,ok_ok];rfl)
 | .lm m o a,σ,h,Q=>(propext ok_bnd).trans (by simp only [ok_bnd,qE Γ o,qE Γ a,qRd,qOpt,ok_ok];rfl)
 | .fld o f,σ,h,Q=>(propext ok_bnd).trans (by simp only [ok_bnd,qE Γ o,zu7,ok_ok];rfl)
 | .make c f es,σ,h,Q=>by rw [propext zsO,qEs Γ es];simp only [zc3];rfl
 | .mc c m f o es,σ,h,Q=>by
  rw [propext w_mc,qE Γ o];simp only [qIsA,qEs Γ es,ztu (Γ:=Γ) (W:=λh Q=>wEs Γ es σ h Q)];rfl
 | .lstO tg it c el,σ,h,Q=>by rw [propext ztg,qI Γ it];simp only [zc3];rfl
 | .oix a b,σ,h,Q=>by rw [propext zuO,qE Γ a];simp only [qE Γ b,qOix];rfl
 | .olen a,σ,h,Q=>by
  rw [propext ztC,qE Γ a];simp only [zpH];rfl
 | .call0 f,σ,h,Q=>by rw [propext zn3,zc3];rfl
 | .stuck,σ,h,Q=>by rw [propext zvi];rfl
theorem qEs (Γ:Calls):∀ (es:List E) (σ:Env) (h:Sto) (Q:List R->Sto->Prop),Ok (evs Γ es σ h) Q=wEs Γ es σ h Q
 | [],σ,h,Q=>propext ok_ok
 | e::es,σ,h,Q=>(propext ok_bnd).trans (by simp only [ok_bnd,qE Γ e,qEs Γ es,ok_ok];rfl)
theorem qC (Γ:Calls):∀ (e:T) (σ:Env) (h:Sto) (Q:Bool->Sto->Prop),Ok (tv Γ e σ h) Q=wC Γ e σ h Q
 | .val e,σ,h,Q=>(propext ok_bnd).trans (by simp only [ok_bnd,qE Γ e,qRd,qOpt,ok_ok];rfl)
 | .and a b,σ,h,Q=>(propext ok_bnd).trans (by simp only [qC Γ a,qIf,qC Γ b,ok_ok];rfl)
 | .or a b,σ,h,Q=>(propext ok_bnd).trans (by simp only [qC Γ a,qIf,qC Γ b,ok_ok];rfl)
 | .not a,σ,h,Q=>(propext ok_bnd).trans (by simp only [ok_bnd,qC Γ a,ok_ok];rfl)
theorem qCs (Γ:Calls):∀ (es:List T) (σ:Env) (h:Sto) (Q:Bool->Sto->Prop),Ok (tvs Γ es σ h) Q=wCs Γ es σ h Q
 | [],σ,h,Q=>propext ok_ok
 | e::es,σ,h,Q=>(propext ok_bnd).trans (by simp only [qC Γ e,qIf,qCs Γ es,ok_ok];rfl)
theorem qL (Γ:Calls):∀ (e:L) (σ:Env) (h:Sto) (Q:List D->Sto->Prop),Ok (evL Γ e σ h) Q=wL Γ e σ h Q
 | .disp es,σ,h,Q=>(propext ok_bnd).trans (by simp only [ok_bnd,qEs Γ es,qFzs,ok_ok];rfl)
 | .comp tg it c el,σ,h,Q=>(propext ok_bnd).trans (by simp only [ok_bnd,qI Γ it,zc3,ok_ok];rfl)
 | .of e,σ,h,Q=>(propext ok_bnd).trans (by simp only [ok_bnd,qE Γ e,qRd,qOpt,ok_ok];rfl)
 | .cat a b,σ,h,Q=>(propext ok_bnd).trans (by simp only [ok_bnd,qE Γ a,qE Γ b,qRd,qOpt,ok_ok];rfl)
 | .ofR e,σ,h,Q=>by rw [propext zuR,qE Γ e];simp only [znb];rfl
theorem qI (Γ:Calls):∀ (e:I) (σ:Env) (h:Sto) (Q:Wk->Sto->Prop),Ok (evI Γ e σ h) Q=wI Γ e σ h Q
 | .seq e,σ,h,Q=>(propext ok_bnd).trans (by simp only [ok_bnd,qE Γ e,qWk,ok_ok];rfl)
 | .rng e,σ,h,Q=>by
  rw [propext zuX,qE Γ e]
  congr;funext r h1
  match r with
  | .d (.int n)=>exact propext zrA
  | .loc _ | .d .non | .d (.bl _) | .d (.str _) | .d (.tup _) | .d (.lst _)=>simp [zgu,wInt]
 | .enu e,σ,h,Q=>by rw [propext zuZ,qE Γ e];simp only [qEn];rfl
end
mutual
theorem qS (Γ:Calls):∀ (s:S) (σ:Env) (h:Sto) (Q:Fl×Env->Sto->Prop),Ok (ex Γ s σ h) Q=wS Γ s σ h Q
 | .asg tg e,σ,h,Q=>(propext ok_bnd).trans (by simp only [ok_bnd,qE Γ e,qT,ok_ok];rfl)
 | .setI o i e,σ,h,Q=>by
  rw [propext ztM,qE Γ e];simp only [qE Γ o,qE Γ i,qFz,qRd,zt7,zqz (p:=λk h5=>wPl _ λl=>wO h5[l]? λo=>wLw o λxs=>wO (ixn xs.length k) λj=>Q (.nx,σ) (h5.set l (.lst (xs.set j _))))];rfl
 | .setF o f e,σ,h,Q=>(propext ok_bnd).trans (by simp only [ok_bnd,qE Γ e,qE Γ o,zuK,ok_ok];rfl)
 | .setN c o f e,σ,h,Q=>(propext ok_bnd).trans (by simp only [ok_bnd,qE Γ e,qE Γ o,zu3,ok_ok];rfl)
 | .exp e,σ,h,Q=>(propext ok_bnd).trans (by simp only [ok_bnd,qE Γ e,ok_ok];rfl)
 | .ife c a b,σ,h,Q=>(propext ok_bnd).trans (by simp only [qC Γ c,qIf,qSs Γ a,qSs Γ b];rfl)
 | .for tg it b,σ,h,Q=>(propext ok_bnd).trans (by simp only [ok_bnd,qI Γ it,zc3,ok_ok];rfl)
 | .ret e,σ,h,Q=>(propext ok_bnd).trans (by simp only [ok_bnd,qE Γ e,ok_ok];rfl)
 | .retN,σ,h,Q=>propext ok_ok
 | .brk,σ,h,Q=>propext ok_ok
 | .cnt,σ,h,Q=>propext ok_ok
 | .whl c b,σ,h,Q=>by rw [propext zvf,zc3];rfl
 | .rai c es,σ,h,Q=>by rw [propext zve];rfl
 | .tryc f es c i d,σ,h,Q=>by
  refine (propext ok_bnd).trans ?_;rw [qEs Γ es];show _=wEs Γ es σ h λrs h1=>@Ask _ (Γ f rs h1) ⟨λ_ h2=>Q (.nx,σ) h2⟩\/Γ f rs h1=none/\@Ask _ (Γ (xof f) rs h1) ⟨λr h2=>zkB c r=true/\Q (.nx,σ.set i (some (.d d))) h2⟩
  congr;funext rs h1
  rw [<-zc3,<-zc3]
  cases e:Γ f rs h1 with
  | some p=>obtain ⟨r,h2⟩:=p;simp [ok_some',ok_none]
  | none=>
   cases e2:Γ (xof f) rs h1 with
   | none=>simp [ok_some',ok_none]
   | some p=>
    obtain ⟨r,h2⟩:=p
    cases e3:zkB c r with
    | false=>simp [ok_some',ok_none,e3]
    | true=>simp [ok_some',ok_none,e3]
 | .stuck,σ,h,Q=>by rw [propext zuN];rfl
theorem qSs (Γ:Calls):∀ (s:List S) (σ:Env) (h:Sto) (Q:Fl×Env->Sto->Prop),Ok (exs Γ s σ h) Q=wSs Γ s σ h Q
 | [],σ,h,Q=>propext ok_ok
 | s::r,σ,h,Q=>by 
  rw [propext zky,qS Γ s];simp only [qSs Γ r]
  try congr
end
theorem st {α:Type} {o:Option α} {a:α} {Q:α->Prop} (e:o=some a) (k:Q a):wO o Q:=by rw [e];exact k
theorem br {t:Bool} {A B:Prop} (a:t=true->A) (b:t=false->B):wB t A B:=by cases t;exact b rfl;exact a rfl
theorem bf {t:Bool} {A B:Prop} (e:t=false) (k:B):wB t A B:=by rw [e];exact k
theorem bt {t:Bool} {A B:Prop} (e:t=true) (k:A):wB t A B:=by rw [e];exact k
theorem gs {Γ:Calls} {s:List S} {σ:Env} {h:Sto} {Q:Fl×Env->Sto->Prop} (k:wSs Γ s σ h Q):Ok (exs Γ s σ h) Q:=(qSs Γ s σ h Q).mpr k
theorem ge {Γ:Calls} {e:E} {σ:Env} {h:Sto} {Q:R->Sto->Prop} (k:wE Γ e σ h Q):Ok (ev Γ e σ h) Q:=(qE Γ e σ h Q).mpr k
theorem gv {Γ:Calls} {e:T} {σ:Env} {h:Sto} {Q:Bool->Sto->Prop} (k:wC Γ e σ h Q):Ok (tv Γ e σ h) Q:=(qC Γ e σ h Q).mpr k
theorem gb {Γ:Calls} {tg:Tg} {x:Ite} {b:List S} {σ:Env} {h:Sto} {Q:Fl×Env->Sto->Prop} (k:wBI tg x σ h λσ' h1=>wSs Γ b σ' h1 Q):Ok (bnd (zas tg x σ) (λσ'=>exs Γ b σ') h) Q:=by
 rw [propext ok_bnd,qBI];simp only [qSs];exact k
theorem gc {Γ:Calls} {tg:Tg} {c:List T} {el:E} {x:Ite} {σ:Env} {h:Sto} {Q:Option D->Sto->Prop} (k:wBI tg x (clr tg.slots σ) h λσ' h1=>wCs Γ c σ' h1 λt h2=>wB t (wE Γ el σ' h2 λr h3=>wFz r h3 λd h4=>Q (some d) h4) (Q none h2)):Ok (zoJ Γ tg c el σ x h) Q:=by
 rw [propext zqh,qBI];simp only [qCs,qE,qFz,zl7];exact k
theorem qPl {x:R} {h:Sto} {Q:Nat->Sto->Prop}:Ok (zbn x h) Q=wPl x λl=>wO h[l]? λo=>wIn o λ_ _=>Q l h:=by
 cases x with
 | d x=>simp [zbn,wPl]
 | loc l=>rw [propext zlx,zrM];rfl
theorem go {Γ:Calls} {tg:Tg} {c:List T} {el:E} {x:Ite} {σ:Env} {h:Sto} {Q:Option Nat->Sto->Prop} (k:wBI tg x (clr tg.slots σ) h λσ' h1=>wCs Γ c σ' h1 λt h2=>wB t (wE Γ el σ' h2 λr h3=>wPl r λl=>wO h3[l]? λo=>wIn o λ_ _=>Q (some l) h3) (Q none h2)):Ok (zlz Γ tg c el σ x h) Q:=by
 rw [propext zqU,qBI];simp only [qCs,qE,qPl,zl7];exact k
theorem fd {k:Bool} {x:D} {h h1:Sto} {Q:R->Sto->Prop} (o:objs h h1=true) (q:Q (.d x) (h1.take h.length)):Ok (fin h false k (.d x) h1) Q:=zrT.mpr ⟨o,q⟩
theorem f0 {k:Bool} {x:D} {h:Sto} {Q:R->Sto->Prop} (q:Q (.d x) h):Ok (fin h false k (.d x) h) Q:=zrT.mpr ⟨zl8,by rw [List.take_length];exact q⟩
theorem fa {k:Bool} {x:D} {h t:Sto} {Q:R->Sto->Prop} (q:Q (.d x) h):Ok (fin h false k (.d x) (h++t)) Q:=zrT.mpr ⟨zds,by rw [zgS];exact q⟩
noncomputable def kF (h:Sto) (all keep:Bool) (Q:R->Sto->Prop) (p:Fl×Env) (h1:Sto):Prop:=match p.1 with
 | .ret r=>Ok (fin h all keep r h1) Q
 | .nx=>Ok (fin h all keep (.d .non) h1) Q
 | _=>False
theorem cl {P:List F} {n f:Nat} {rs:List R} {h:Sto} {Q:R->Sto->Prop} {F:IT.F} (e:P[f]?=some F) (ed:F.dfl=[]) (el:rs.length=F.np)
  (k:wSs (zaf P n) F.body (rs.map some++List.replicate (F.ns-F.np) none) h (kF h F.all F.keep Q)):Ok (zaf P (n+1) f rs h) Q:=zr1 e ed el (gs k)
theorem cd {P:List F} {n f:Nat} {rs rs':List R} {h:Sto} {Q:R->Sto->Prop} {F:IT.F} (e:P[f]?=some F) (er:zau F.np F.dfl rs=rs') (el:rs'.length=F.np)
  (k:wSs (zaf P n) F.body (rs'.map some++List.replicate (F.ns-F.np) none) h (kF h F.all F.keep Q)):Ok (zaf P (n+1) f rs h) Q:=zlj e er el (gs k)
end IT
namespace IT
section
variable {Γ:Calls} {σ:Env} {h:Sto} {Q:R->Sto->Prop}
theorem zgK {l:Option Nat} {f:Ite->Env->M (Fl×Env)} {g:Ite->Env->M R} (hg:∀ x σ h z,g x σ h=some z->f x σ h=none):∀ (xs:List Ite) (σ:Env) (h:Sto) (z:R×Sto),zc8 l f g xs σ h=some z->loop l f xs σ h=none
 | [],σ,h,z,e=>by cases e
 | x :: xs,σ,h,z,e=>by
  unfold zc8 at e;unfold loop
  cases ef:f x σ h with
  | none=>rfl
  | some p=>
   obtain ⟨⟨fl,σ1⟩,h1⟩:=p;simp only [ef] at e ⊢
   cases fl with
   | nx=>
    simp only at e ⊢
    split at e
    ·rename_i c;rw [if_pos c];exact zgK hg xs _ _ z e
    ·cases e
   | cnt=>
    simp only at e ⊢
    split at e
    ·rename_i c;rw [if_pos c];exact zgK hg xs _ _ z e
    ·cases e
   | ret _=>cases e
   | brk=>cases e
theorem zhj:∀ (ss:List S) (σ:Env) (h:Sto) (z:R×Sto),exXs Γ ss σ h=some z->exs Γ ss σ h=none
 | [],σ,h,z,e=>by cases e
 | s::r,σ,h,z,e=>by
  rw [exXs] at e;rw [exs]
  cases ef:ex Γ s σ h with
  | none=>simp only [bnd,ef]
  | some p=>
   obtain ⟨⟨fl,σ1⟩,h1⟩:=p;simp only [ef] at e;simp only [bnd,ef]
   cases fl with
   | nx=>exact zhj r _ _ z e
   | cnt=>cases e
   | ret _=>cases e
   | brk=>cases e
end
theorem zjA {P:List F} {n f:Nat} {rs:List R} {h:Sto} {z:R×Sto} (hP:P.length<=1000) (hf:f<P.length) (e:zaf P n (xof f) rs h=some z):zaf P n f rs h=none:=by
 cases n with
 | zero=>rfl
 | succ n=>
  have e0:P[f]?=some P[f]:=List.getElem?_eq_getElem hf;rw [zek hP e0] at e;rw [za3];simp only [e0]
  split
  ·rename_i c
   rw [if_pos c] at e
   cases ex:exXs (zaf P n) P[f].body ((zau P[f].np P[f].dfl rs).map some++List.replicate (P[f].ns-P[f].np) none) h with
   | none=>rw [ex] at e;cases e
   | some q=>rw [zhj _ _ _ _ ex]
  ·rfl
section
variable {Γ:Calls} {σ:Env} {h:Sto} {Q:R->Sto->Prop}
theorem x_nx {s:S} {r:List S} (k:wS Γ s σ h λp h1=>match p.1 with
  | .nx=>Ok (exXs Γ r p.2 h1) Q
  | _=>False):Ok (exXs Γ (s::r) σ h) Q:=by
 have k:=(qS Γ s σ h _).mpr k;obtain ⟨⟨fl,σ1⟩,h1,e,q⟩:=k;rw [exXs];simp only [e]
 cases fl with
 | nx=>exact q
 | cnt=>exact q.elim
 | ret _=>exact q.elim
 | brk=>exact q.elim
theorem zjX {s:S} {r:List S} (e:ex Γ s σ h=none) (k:Ok (exX Γ s σ h) Q):Ok (exXs Γ (s::r) σ h) Q:=by
 rw [exXs];simp only [e];exact k
theorem x_if {c:T} {cl:Nat} {es:List E} {b r:List S} (k:wC Γ c σ h λt h1=>t=true/\wEs Γ es σ h1 λ_ h2=>Q (.d (.int cl)) h2):Ok (exXs Γ (.ife c [.rai cl es] b::r) σ h) Q:=by
 have k:=(qC Γ c σ h _).mpr k;obtain ⟨t,h1,e,rfl,q⟩:=k;have q:=(qEs Γ es σ h1 _).mpr q;obtain ⟨rs,h2,e2,q⟩:=q;refine zjX ?_ ?_
 ·show bnd (tv Γ c σ) _ h=none
  simp only [bnd,e];rfl
 ·show Ok (bnd (tv Γ c σ) _ h) Q
  simp only [bnd,e];show Ok (exXs Γ [.rai cl es] σ h1) Q;refine zjX rfl ?_;show Ok (bnd (evs Γ es σ) _ h1) Q;simp only [bnd,e2];exact ok_some'.mpr q
theorem zvx {tg:Tg} {f:Nat} {es:List E} {r:List S} (k:wEs Γ es σ h λrs h1=>Γ f rs h1=none/\Ok (Γ (xof f) rs h1) Q):Ok (exXs Γ (.asg tg (.call f es)::r) σ h) Q:=by
 have k:=(qEs Γ es σ h _).mpr k;obtain ⟨rs,h1,e,n,q⟩:=k;refine zjX ?_ ?_
 ·show bnd (bnd (evs Γ es σ) _) _ h=none
  simp only [bnd,e,n]
 ·show Ok (bnd (evs Γ es σ) _ h) Q
  simp only [bnd,e];exact q
theorem zvq {tg:Tg} {it:I} {b r:List S} (k:wI Γ it σ h λw h1=>Ok (zc8 w.l (λx σ=>bnd (zas tg x σ) λσ'=>exs Γ b σ') (λx σ=>bnd (zas tg x σ) λσ'=>exXs Γ b σ') w.xs σ h1) Q):Ok (exXs Γ (.for tg it b::r) σ h) Q:=by
 have k:=(qI Γ it σ h _).mpr k;obtain ⟨w,h1,e,q⟩:=k;refine zjX ?_ ?_
 ·show bnd (evI Γ it σ) _ h=none
  simp only [bnd,e];obtain ⟨z,h2,e2,_⟩:=q;refine zgK (λx σ h z ez=>?_) _ _ _ _ e2;simp only [bnd] at ez ⊢
  split at ez
  ·exact zhj _ _ _ _ ez
  ·cases ez
 ·show Ok (bnd (evI Γ it σ) _ h) Q
  simp only [bnd,e];exact q
theorem zo2 {l:Option Nat} {f:Ite->Env->M (Fl×Env)} {g:Ite->Env->M R} {xs ys:List D} {y:D} (I:Nat->Env->Sto->Prop)
  (step:∀ i x σ h,xs[i]?=some x->I i σ h->Ok (f (dI x) σ h) λp h1=>p.1=.nx/\zaE l h h1=true/\I (i+1) p.2 h1)
  (fin:∀ σ h,I xs.length σ h->f (dI y) σ h=none/\Ok (g (dI y) σ h) Q):∀ {σ:Env} {h:Sto},I 0 σ h->Ok (zc8 l f g ((xs++y::ys).map dI) σ h) Q:=by
 induction xs generalizing I with
 | nil=>
  intro σ h h0;obtain ⟨e,q⟩:=fin σ h h0;show Ok (zc8 l f g (dI y::ys.map dI) σ h) Q;unfold zc8;simp only [e];exact q
 | cons x xs ih=>
  intro σ h h0;obtain ⟨⟨fl,σ1⟩,h1,e,e1,e2,q⟩:=step 0 x σ h rfl h0;have e1:fl=.nx:=e1;subst e1;show Ok (zc8 l f g (dI x::(xs++y::ys).map dI) σ h) Q;unfold zc8;simp only [e,e2,if_true];exact ih (λi=>I (i+1)) (λi x' σ h ex h0=>step (i+1) x' σ h (by simpa using ex) h0) (λσ h z=>fin σ h z) q
theorem gbX {tg:Tg} {x:Ite} {b:List S} (k:wBI tg x σ h λσ' h1=>Ok (exXs Γ b σ' h1) Q):Ok (bnd (zas tg x σ) (λσ'=>exXs Γ b σ') h) Q:=by
 rw [propext ok_bnd,qBI];exact k
theorem zqT {tg:Tg} {x:Ite} {b:List S} (k:Ok (bnd (zas tg x σ) (λσ'=>exXs Γ b σ') h) Q):bnd (zas tg x σ) (λσ'=>exs Γ b σ') h=none:=by
 obtain ⟨r,h1,e,_⟩:=k;simp only [bnd] at e ⊢
 split at e
 ·exact zhj _ _ _ _ e
 ·cases e
end
theorem clX {P:List F} {n f:Nat} {rs:List R} {h:Sto} {Q:R->Sto->Prop} {F:IT.F} (hP:P.length<=1000) (e:P[f]?=some F) (ed:F.dfl=[]) (el:rs.length=F.np)
  (k:Ok (exXs (zaf P n) F.body (rs.map some++List.replicate (F.ns-F.np) none) h) λr h1=>Ok (finX h F.all F.keep r h1) Q):Ok (zaf P (n+1) (xof f) rs h) Q:=by
 rw [zek hP e]
 have ef:zau F.np F.dfl rs=rs:=by
  rw [ed];unfold zau
  split
  ·rfl
  ·simp
 rw [ef,if_pos el];obtain ⟨r,h1,e1,q⟩:=k;simp only [e1];exact q
end IT
namespace K23
open IT
variable {Q:R->Sto->Prop}
noncomputable abbrev eV (i:Nat):E:=.var i
noncomputable abbrev eJ (i:Int):E:=.con (.int i)
noncomputable abbrev eS (x:List Nat):E:=.con (.str x)
noncomputable abbrev eX (a:Nat) (i:Int):E:=.idx (.var a) (.con (.int i))
/- right_of (0): 0 table,1 state,2 name,3 right -/
noncomputable def zga:List S:=[
 .for (.tup [(.name 2),(.name 3)]) (.seq (eX 0 0)) [.ife (.val (.cmp .eq (eV 2) (eV 1))) [.ret (eV 3)] []],
 .ret (eS [110,111,110,101])]
/- hand_row (1): 0 table,1 state,2 event -/
noncomputable def zgj:List S:=[
 .ret (.call 3 [(eV 0),(.tup [(eS [104,97,110,100]),(eV 1),(eV 2)])])]
/- house_row (2): 0 table,1 state,2 kind,3 last,4 row -/
noncomputable def zfL:List S:=[
 .asg (.name 4) (.call 3 [(eV 0),(.tup [(eS [104,111,117,115,101]),(eV 1),(eV 2),(eS [97,110,121])])]),
 .ife (.val (.cmp .isN (eV 4) (.con .non))) [.asg (.name 4) (.call 3 [(eV 0),(.tup [(eS [104,111,117,115,101]),(eV 1),(eV 2),(.ife (.val (eV 3)) (eS [108,97,115,116]) (eS [109,111,114,101]))])])] [],
 .ret (eV 4)]
/- row_for (3): 0 table,1 head,2 row -/
noncomputable def zh8:List S:=[
 .for (.name 2) (.seq (eX 0 2)) [.ife (.val (.cmp .eq (.sli (eV 2) (.con .non) (.bi .len [(eV 1)])) (eV 1))) [.ret (eV 2)] []],
 .ret (.con .non)]
/- is_wait (4): 0 row -/
noncomputable def zhk:List S:=[
 .ret (.and (.cmp .isnotN (eV 0) (.con .non)) (.cmp .eq (.idx (eV 0) (.neg (eJ 1))) (.glo (.tup [(.tup [(.str [119,97,105,116])])]))))]
/- start (5): 0 table,1 many,2 line -/
noncomputable def zlH:List S:=[
 .asg (.name 2) (.tup [(.idx (.idx (eX 0 0) (eJ 0)) (eJ 0)),(.con .non),(eJ 0),(.tup []),(.tup []),(eJ 0)]),
 .ret (.tup [(.idx (eX 0 1) (eJ 0)),(.glo (.tup [(.int 0),(.int 0)])),(.glo (.tup [(.int 0),(.int 0)])),(.bin .mul (.tup [(eV 2)]) (eV 1))])]
/- clash (6): 0 table,1 standing,2 rights,3 ?1?line -/
noncomputable def zmv:List S:=[
 .asg (.name 2) (.lst false (.comp (.name 3) (.seq (eX 1 3)) [] (.call 0 [(eV 0),(eX 3 0)]))),
 .ret (.and (.cmp .isin (eS [119,114,105,116,101]) (eV 2)) (.cmp .gt (.bin .sub (.bi .len [(eV 2)]) (.lm .count (eV 2) (eS [110,111,110,101]))) (eJ 1)))]
/- renamed (7): 0 standing,1 order,2 lines,3 ?1?hand -/
noncomputable def zhV:List S:=[
 .asg (.name 2) (eX 0 3),
 .ret (.bin .add (.sli (eV 0) (.con .non) (eJ 3)) (.tup [(.bi .tuple [(.lst false (.comp (.name 3) (.seq (eV 1)) [] (.idx (eV 2) (eV 3))))])]))]
/- has_version_of (8): 0 value,1 last -/
noncomputable def zce:List S:=[
 .ret (.cmp .eq (eX 0 0) (eX 1 0))]
/- comers (9): 0 way,1 order -/
noncomputable def zjV:List S:=[
 .ret (.ife (.val (eV 1)) (.sli (eV 0) (.con .non) (eJ 1)) (eV 0))]
/- letter_of (10): 0 kind,1 load,2 value -/
noncomputable def ze1:List S:=[
 .ret (.tup [(eV 0),(.ife (.val (.cmp .eq (eV 1) (eS [118,97,108,117,101]))) (eV 2) (.con .non))])]
/- may_be_done (11): 0 table,1 hall,2 deed -/
noncomputable def zdC:List S:=[
 .ife (.or (.val (.cmp .lt (eX 2 1) (eJ 0))) (.val (.cmp .ge (eX 2 1) (.olen (.fld (eV 1) "lines"))))) [.ret (.con (.bl false))] [],
 .ife (.val (.cmp .eq (eX 2 0) (eS [97,115,107]))) [.ret (.and (.cmp .isin (eX 2 2) (.glo (.tup [(.str [114,101,97,100]),(.str [119,114,105,116,101]),(.str [100,114,111,112])]))) (.cmp .isnotN (.call 13 [(eV 0),(eV 1),(eV 2)]) (.con .non)))] [],
 .ife (.or (.val (.cmp .lt (eX 2 2) (eJ 0))) (.val (.cmp .ge (eX 2 2) (.bi .len [(.call 12 [(eV 1),(eV 2)])])))) [.ret (.con (.bl false))] [],
 .ret (.not (.call 4 [(.call 13 [(eV 0),(eV 1),(eV 2)])]))]
/- way_of (12): 0 hall,1 deed,2 line -/
noncomputable def zjI:List S:=[
 .asg (.name 2) (.oix (.fld (eV 0) "lines") (eX 1 1)),
 .ret (.ife (.val (.cmp .eq (eX 1 0) (eS [116,97,107,101]))) (.fld (eV 2) "to") (.fld (eV 2) "back"))]
/- row_for_deed (13): 0 table,1 hall,2 deed,3 state,4 kind -/
noncomputable def zc2:List S:=[
 .asg (.name 3) (.fld (.oix (.fld (eV 1) "lines") (eX 2 1)) "state"),
 .ife (.val (.cmp .eq (eX 2 0) (eS [97,115,107]))) [.ret (.call 1 [(eV 0),(eV 3),(eX 2 2)])] [],
 .asg (.name 4) (.idx (.idx (.call 12 [(eV 1),(eV 2)]) (eX 2 2)) (eJ 0)),
 .ife (.val (.cmp .eq (eX 2 0) (eS [116,97,107,101]))) [.ret (.call 1 [(eV 0),(eV 3),(eV 4)])] [],
 .ret (.call 2 [(eV 0),(.fld (eV 1) "state"),(eV 4),(.not (.mc "Hall" "other_sharers" 52 (eV 1) [(eX 2 1)]))])]
/- do_deed (14): 0 table,1 hall,2 deed,3 row -/
noncomputable def zhD:List S:=[
 .asg (.name 3) (.call 13 [(eV 0),(eV 1),(eV 2)]),
 .ife (.val (.cmp .isN (eV 3) (.con .non))) [.setF (eV 1) "broken" (.tup [(eS [110,111,114,111,119])]),.retN] [],
 .ife (.val (.cmp .eq (eX 2 0) (eS [97,115,107]))) [.exp (.call 15 [(eV 1),(eV 2),(eV 3)])] [.ife (.val (.cmp .eq (eX 2 0) (eS [116,97,107,101]))) [.exp (.call 16 [(eV 1),(eV 2),(eV 3)])] [.exp (.call 17 [(eV 1),(eV 2),(eV 3)])]],
 .ife (.and (.val (.cmp .isN (.fld (eV 1) "broken") (.con .non))) (.val (.call 6 [(eV 0),(.mc "Hall" "as_tuple" 45 (eV 1) [])]))) [.setF (eV 1) "broken" (.tup [(eS [99,108,97,115,104])])] []]
/- do_ask (15): 0 hall,1 deed,2 row,3 line -/
noncomputable def zkb:List S:=[
 .ife (.val (.cmp .eq (eX 1 2) (eS [119,114,105,116,101]))) [.asg (.name 3) (.oix (.fld (eV 0) "lines") (eX 1 1)),.setF (eV 3) "want" (eX 1 3)] [],
 .exp (.call 20 [(eV 0),(eX 1 1),(.con .non),(eV 2)])]
/- do_take (16): 0 hall,1 deed,2 row,3 line,4 value -/
noncomputable def zhZ:List S:=[
 .asg (.name 3) (.oix (.fld (eV 0) "lines") (eX 1 1)),
 .asg (.name 4) (.idx (.idx (.fld (eV 3) "to") (eX 1 2)) (eJ 1)),
 .setF (eV 3) "to" (.call 19 [(.fld (eV 3) "to"),(eX 1 2)]),
 .exp (.call 20 [(eV 0),(eX 1 1),(eV 4),(eV 2)])]
/- do_get (17): 0 hall,1 deed,2 row -/
noncomputable def zj7:List S:=[
 .exp (.call 22 [(eV 0),(eX 1 1),(.call 18 [(eV 0),(eV 1),(eV 2)]),(eV 2)])]
/- got_value (18): 0 hall,1 deed,2 row,3 line,4 value -/
noncomputable def zfN:List S:=[
 .asg (.name 3) (.oix (.fld (eV 0) "lines") (eX 1 1)),
 .asg (.name 4) (.idx (.idx (.fld (eV 3) "back") (eX 1 2)) (eJ 1)),
 .ife (.val (.cmp .notin (.tup [(eS [115,116,97,121])]) (.idx (eV 2) (.neg (eJ 1))))) [.setF (eV 3) "back" (.call 19 [(.fld (eV 3) "back"),(eX 1 2)])] [],
 .ret (eV 4)]
/- without (19): 0 way,1 number -/
noncomputable def zhu:List S:=[
 .ret (.bin .add (.sli (eV 0) (.con .non) (eV 1)) (.sli (eV 0) (.bin .add (eV 1) (eJ 1)) (.con .non)))]
/- do_hand_row (20): 0 hall,1 hand,2 value,3 row,4 act,5 line -/
noncomputable def zdS:List S:=[
 .for (.name 4) (.seq (.idx (eV 3) (.neg (eJ 1)))) [.exp (.call 21 [(eV 0),(eV 1),(eV 2),(eV 4)]),.ife (.val (.cmp .isnotN (.fld (eV 0) "broken") (.con .non))) [.retN] []],
 .asg (.name 5) (.oix (.fld (eV 0) "lines") (eV 1)),
 .setF (eV 5) "state" (.idx (eV 3) (.neg (eJ 2)))]
/- do_hand_act (21): 0 hall,1 hand,2 value,3 act,4 line -/
noncomputable def zdQ:List S:=[
 .asg (.name 4) (.oix (.fld (eV 0) "lines") (eV 1)),
 .ife (.val (.cmp .eq (eX 3 0) (eS [107,101,101,112]))) [.setF (eV 4) "value" (eV 2)] [.ife (.val (.cmp .eq (eX 3 0) (eS [108,111,115,101]))) [.setF (eV 4) "value" (.con .non)] [.ife (.val (.cmp .eq (eX 3 0) (eS [112,117,116]))) [.exp (.mc "Hall" "write_value" 46 (eV 0) [(eV 1)])] [.ife (.val (.cmp .eq (eX 3 0) (eS [116,101,108,108]))) [.exp (.mc "Hall" "tell_value" 47 (eV 0) [(eV 1)])] [.exp (.mc "Hall" "send_to_house" 48 (eV 0) [(eV 1),(eX 3 1),(eX 3 2)])]]]]]
/- do_house_row (22): 0 hall,1 sender,2 value,3 row,4 act -/
noncomputable def zcX:List S:=[
 .for (.name 4) (.seq (.idx (eV 3) (.neg (eJ 1)))) [.exp (.call 23 [(eV 0),(eV 1),(eV 2),(eV 4)]),.ife (.val (.cmp .isnotN (.fld (eV 0) "broken") (.con .non))) [.retN] []],
 .setF (eV 0) "state" (.idx (eV 3) (.neg (eJ 2)))]
/- do_house_act (23): 0 hall,1 sender,2 value,3 act,4 line -/
noncomputable def zc4:List S:=[
 .asg (.name 4) (.oix (.fld (eV 0) "lines") (eV 1)),
 .ife (.val (.cmp .eq (eX 3 0) (eS [107,101,101,112]))) [.setF (eV 0) "store" (eV 2)] [.ife (.val (.cmp .eq (eX 3 0) (eS [111,119,110]))) [.setF (eV 4) "flags" (.bin .bor (.fld (eV 4) "flags") (.glo (.int 2)))] [.ife (.val (.cmp .eq (eX 3 0) (eS [115,104,97,114,101]))) [.setF (eV 4) "flags" (.bin .bor (.fld (eV 4) "flags") (.glo (.int 1)))] [.ife (.val (.cmp .eq (eX 3 0) (eS [102,111,114,103,101,116]))) [.setF (eV 4) "flags" (eJ 0)] [.ife (.val (.cmp .eq (eX 3 0) (eS [99,108,101,97,114]))) [.exp (.mc "Hall" "forget_all" 53 (eV 0) [])] [.ife (.val (.cmp .ne (eX 3 0) (eS [115,116,97,121]))) [.exp (.call 24 [(eV 0),(eV 1),(eV 3)])] []]]]]]]
/- send_from_house (24): 0 hall,1 sender,2 act,3 hand -/
noncomputable def zbN:List S:=[
 .for (.name 3) (.seq (.call 25 [(eV 0),(eV 1),(eX 2 0)])) [.exp (.mc "Hall" "send_to_hand" 49 (eV 0) [(eV 3),(eX 2 1),(eX 2 2)])]]
/- receivers (25): 0 hall,1 sender,2 word -/
noncomputable def zfB:List S:=[
 .ife (.val (.cmp .eq (eV 2) (eS [115,101,110,100]))) [.ret (.lst false (.disp [(eV 1)]))] [],
 .ife (.val (.cmp .eq (eV 2) (eS [111,119,110,101,114]))) [.ret (.mc "Hall" "hands_with" 51 (eV 0) [(.glo (.int 2))])] [],
 .ret (.mc "Hall" "other_sharers" 52 (eV 0) [(eV 1)])]
/- may (26): 0 table,1 standing,2 order,3 hall,4 deeds,5 hand,6 line,7 ?1?deed -/
noncomputable def ztf:List S:=[
 .asg (.name 3) (.make "Hall" 44 [(eV 1)]),
 .asg (.name 4) (.lst true (.disp [])),
 .for (.tup [(.name 5),(.name 6)]) (.enu (.fld (eV 3) "lines")) [.exp (.me .extend (eV 4) [(.call 27 [(eV 5)])]),.exp (.me .extend (eV 4) [(.call 28 [(eS [116,97,107,101]),(eV 5),(.fld (eV 6) "to"),(eV 2)])]),.exp (.me .extend (eV 4) [(.call 28 [(eS [103,101,116]),(eV 5),(.fld (eV 6) "back"),(eV 2)])])],
 .ret (.lst false (.comp (.name 7) (.seq (eV 4)) [(.val (.call 11 [(eV 0),(eV 3),(eV 7)]))] (eV 7)))]
/- asks_of (27): 0 hand -/
noncomputable def zh2:List S:=[
 .ret (.lst false (.disp [(.tup [(eS [97,115,107]),(eV 0),(eS [114,101,97,100])]),(.tup [(eS [97,115,107]),(eV 0),(eS [119,114,105,116,101]),(eJ 0)]),(.tup [(eS [97,115,107]),(eV 0),(eS [100,114,111,112])])]))]
/- letters_of (28): 0 word,1 hand,2 way,3 order,4 ?1?number -/
noncomputable def zes:List S:=[
 .ret (.lst false (.comp (.name 4) (.rng (.bi .len [(.call 9 [(eV 2),(eV 3)])])) [] (.tup [(eV 0),(eV 1),(eV 4)])))]
/- step (29): 0 table,1 standing,2 deed,3 hall -/
noncomputable def zp4:List S:=[
 .asg (.name 3) (.make "Hall" 44 [(eV 1)]),
 .ife (.not (.val (.call 11 [(eV 0),(eV 3),(eV 2)]))) [.rai 0 [(eS [116,104,105,115,32,100,101,101,100,32,109,97,121,32,110,111,116,32,98,101,32,100,111,110,101,32,104,101,114,101])]] [],
 .exp (.call 14 [(eV 0),(eV 3),(eV 2)]),
 .ife (.val (.cmp .isnotN (.fld (eV 3) "broken") (.con .non))) [.ret (.tup [(eV 1),(.con .non),(.fld (eV 3) "broken")])] [],
 .ret (.tup [(.mc "Hall" "as_tuple" 45 (eV 3) []),(.fld (eV 3) "answer"),(.con .non)])]
/- play (30): 0 table,1 many,2 deeds,3 standing,4 answers,5 deed,6 told -/
noncomputable def zp5:List S:=[
 .asg (.name 3) (.call 5 [(eV 0),(eV 1)]),
 .asg (.name 4) (.lst true (.disp [])),
 .for (.name 5) (.seq (eV 2)) [.asg (.name 6) (.call 29 [(eV 0),(eV 3),(eV 5)]),.ife (.val (.cmp .isnotN (eX 6 2) (.con .non))) [.ret (.tup [(eV 3),(eV 4),(eX 6 2)])] [],.asg (.name 3) (eX 6 0),.ife (.val (.cmp .isnotN (eX 6 1) (.con .non))) [.exp (.me .append (eV 4) [(eX 6 1)])] []],
 .ret (.tup [(eV 3),(eV 4),(.con .non)])]
/- _law_cell_at (31): 0 _law_script,1 _law_k -/
noncomputable def ze9:List S:=[
 .ife (.val (.cmp .lt (eV 1) (.bi .len [(eV 0)]))) [.ret (.idx (eV 0) (eV 1))] [],
 .ret (eJ 0)]
/- _law_digits (32): 0 _law_cell,1 _law_size,2 _law_many,3 _law_found,4 _law_mix,5 _law_rest,6 _law_k -/
noncomputable def zgm:List S:=[
 .asg (.name 3) (.lst true (.disp [])),
 .asg (.name 4) (.bin .mod (.bin .mul (.bin .add (eV 0) (eJ 1)) (eJ 48271)) (eJ 2147483647)),
 .asg (.name 5) (.bin .fdiv (eV 0) (eJ 2)),
 .for (.name 6) (.rng (eV 2)) [.asg (.name 4) (.bin .mod (.bin .mul (.bin .add (.bin .add (eV 4) (.bin .mul (eJ 7919) (eV 6))) (eJ 1)) (.bin .add (.bin .fdiv (eV 4) (eJ 1009)) (eJ 69621))) (eJ 2147483647)),.exp (.me .append (eV 3) [(.idx (.lst false (.disp [(.bin .mod (.bin .fdiv (eV 4) (eJ 7)) (eV 1)),(.bin .mod (eV 5) (eV 1))])) (.bi .int [(.and (.cmp .eq (.bin .mod (eV 0) (eJ 2)) (eJ 0)) (.cmp .gt (eV 5) (eJ 0)))]))]),.asg (.name 5) (.bin .fdiv (eV 5) (eV 1))],
 .ret (eV 3)]
/- _law_one_copy (33): 0 _law_hands,1 _law_rows -/
noncomputable def zeu:List S:=[
 .asg (.name 0) (.tup [(.tup [(eS [105,100,108,101]),(eS [110,111,110,101])]),(.tup [(eS [119,97,105,116]),(eS [110,111,110,101])]),(.tup [(eS [109,105,110,101]),(eS [119,114,105,116,101])])]),
 .asg (.name 1) (.lst true (.disp [(.tup [(eS [104,97,110,100]),(eS [105,100,108,101]),(eS [119,114,105,116,101]),(eS [119,97,105,116]),(.tup [(.tup [(eS [115,101,110,100]),(eS [103,101,116]),(eS [98,97,114,101])])])])])),
 .exp (.me .append (eV 1) [(.tup [(eS [104,97,110,100]),(eS [119,97,105,116]),(eS [103,105,118,101]),(eS [109,105,110,101]),(.tup [(.tup [(eS [107,101,101,112])]),(.tup [(eS [112,117,116])])])])]),
 .exp (.me .append (eV 1) [(.tup [(eS [104,97,110,100]),(eS [109,105,110,101]),(eS [119,114,105,116,101]),(eS [109,105,110,101]),(.tup [(.tup [(eS [112,117,116])])])])]),
 .exp (.me .append (eV 1) [(.tup [(eS [104,97,110,100]),(eS [109,105,110,101]),(eS [114,101,97,100]),(eS [109,105,110,101]),(.tup [(.tup [(eS [116,101,108,108])])])])]),
 .exp (.me .append (eV 1) [(.tup [(eS [104,97,110,100]),(eS [109,105,110,101]),(eS [99,97,108,108]),(eS [105,100,108,101]),(.tup [(.tup [(eS [115,101,110,100]),(eS [98,97,99,107]),(eS [118,97,108,117,101])]),(.tup [(eS [108,111,115,101])])])])]),
 .exp (.me .append (eV 1) [(.tup [(eS [104,111,117,115,101]),(eS [104,111,109,101]),(eS [103,101,116]),(eS [97,110,121]),(eS [111,117,116]),(.tup [(.tup [(eS [111,119,110])]),(.tup [(eS [115,101,110,100]),(eS [103,105,118,101]),(eS [118,97,108,117,101])])])])]),
 .exp (.me .append (eV 1) [(.tup [(eS [104,111,117,115,101]),(eS [111,117,116]),(eS [103,101,116]),(eS [97,110,121]),(eS [99,97,108,108,115]),(.tup [(.tup [(eS [111,119,110,101,114]),(eS [99,97,108,108]),(eS [98,97,114,101])]),(.tup [(eS [115,116,97,121])])])])]),
 .exp (.me .append (eV 1) [(.tup [(eS [104,111,117,115,101]),(eS [99,97,108,108,115]),(eS [103,101,116]),(eS [97,110,121]),(eS [99,97,108,108,115]),(.tup [(.tup [(eS [119,97,105,116])])])])]),
 .exp (.me .append (eV 1) [(.tup [(eS [104,111,117,115,101]),(eS [99,97,108,108,115]),(eS [98,97,99,107]),(eS [97,110,121]),(eS [104,111,109,101]),(.tup [(.tup [(eS [107,101,101,112])]),(.tup [(eS [99,108,101,97,114])])])])]),
 .ret (.tup [(eV 0),(.tup [(eS [104,111,109,101]),(eS [111,117,116]),(eS [99,97,108,108,115])]),(.bi .tuple [(eV 1)])])]
/- _law_readers (34): 0 _law_hands,1 _law_rows -/
noncomputable def zfW:List S:=[
 .asg (.name 0) (.tup [(.tup [(eS [105,100,108,101]),(eS [110,111,110,101])]),(.tup [(eS [97,115,107,115]),(eS [110,111,110,101])]),(.tup [(eS [104,97,115]),(eS [114,101,97,100])])]),
 .asg (.name 1) (.lst true (.disp [(.tup [(eS [104,97,110,100]),(eS [105,100,108,101]),(eS [114,101,97,100]),(eS [97,115,107,115]),(.tup [(.tup [(eS [115,101,110,100]),(eS [97,115,107]),(eS [98,97,114,101])])])])])),
 .exp (.me .append (eV 1) [(.tup [(eS [104,97,110,100]),(eS [97,115,107,115]),(eS [103,105,118,101]),(eS [104,97,115]),(.tup [(.tup [(eS [107,101,101,112])]),(.tup [(eS [116,101,108,108])])])])]),
 .exp (.me .append (eV 1) [(.tup [(eS [104,97,110,100]),(eS [104,97,115]),(eS [114,101,97,100]),(eS [104,97,115]),(.tup [(.tup [(eS [116,101,108,108])])])])]),
 .exp (.me .append (eV 1) [(.tup [(eS [104,97,110,100]),(eS [104,97,115]),(eS [100,114,111,112]),(eS [105,100,108,101]),(.tup [(.tup [(eS [108,111,115,101])])])])]),
 .exp (.me .append (eV 1) [(.tup [(eS [104,111,117,115,101]),(eS [104,111,109,101]),(eS [97,115,107]),(eS [97,110,121]),(eS [104,111,109,101]),(.tup [(.tup [(eS [115,101,110,100]),(eS [103,105,118,101]),(eS [118,97,108,117,101])])])])]),
 .ret (.tup [(eV 0),(.tup [(eS [104,111,109,101])]),(.bi .tuple [(eV 1)])])]
/- _law_bent (35): 0 _law_table_here,1 _law_cell,2 _law_ds,3 _law_rows,4 _law_at,5 _law_row -/
noncomputable def zjZ:List S:=[
 .asg (.name 2) (.call 32 [(eV 1),(eJ 64),(eJ 3)]),
 .asg (.name 3) (.lst true (.of (eX 0 2))),
 .asg (.name 4) (.bin .mod (eX 2 0) (.bi .len [(eV 3)])),
 .asg (.name 5) (.idx (eV 3) (eV 4)),
 .ife (.val (.cmp .eq (.bin .mod (eX 2 1) (eJ 3)) (eJ 0))) [.asg (.name 3) (.lst true (.cat (.sli (eV 3) (.con .non) (eV 4)) (.sli (eV 3) (.bin .add (eV 4) (eJ 1)) (.con .non))))] [.ife (.and (.val (.cmp .eq (.bin .mod (eX 2 1) (eJ 3)) (eJ 1))) (.val (.cmp .ne (.idx (eV 5) (.neg (eJ 1))) (.tup [(.tup [(eS [119,97,105,116])])])))) [.setI (eV 3) (eV 4) (.bin .add (.sli (eV 5) (.con .non) (.neg (eJ 1))) (.tup [(.sli (.idx (eV 5) (.neg (eJ 1))) (eJ 1) (.con .non))]))] [.ife (.val (.cmp .eq (eX 5 0) (eS [104,97,110,100]))) [.setI (eV 3) (eV 4) (.bin .add (.sli (eV 5) (.con .non) (eJ 3)) (.tup [(.idx (.idx (eX 0 0) (.bin .mod (eX 2 2) (.bi .len [(eX 0 0)]))) (eJ 0)),(eX 5 4)]))] []]],
 .ret (.tup [(eX 0 0),(eX 0 1),(.bi .tuple [(eV 3)])])]
/- _law_free (36): 0 _law_cell,1 _law_ds,2 _law_rights,3 _law_hands,4 _law_letters,5 _law_asks,6 _law_house,7 _law_rows,8 _law_k,9 _law_d,10 _law_event,11 _law_acts,12 _law_when,13 _law_state,14 ?1?_law_k -/
noncomputable def zjy:List S:=[
 .asg (.name 1) (.call 32 [(eV 0),(eJ 64),(eJ 30)]),
 .asg (.name 2) (.lst false (.disp [(eS [110,111,110,101]),(eS [110,111,110,101]),(eS [114,101,97,100]),(eS [119,114,105,116,101])])),
 .asg (.name 3) (.bi .tuple [(.lst false (.comp (.name 14) (.rng (eJ 3)) [] (.tup [(.idx (.lst false (.disp [(eS [97]),(eS [98]),(eS [99])])) (eV 14)),(.bin .add (.bin .mul (.idx (eV 2) (.bin .mod (.idx (eV 1) (eV 14)) (eJ 4))) (.bi .int [(.cmp .gt (eV 14) (eJ 0))])) (.bin .mul (eS [110,111,110,101]) (.bi .int [(.cmp .eq (eV 14) (eJ 0))])))])))]),
 .asg (.name 4) (.lst false (.disp [(.tup []),(.tup [(.tup [(eS [107,101,101,112])])]),(.tup [(.tup [(eS [107,101,101,112])]),(.tup [(eS [116,101,108,108])])]),(.tup [(.tup [(eS [107,101,101,112])]),(.tup [(eS [112,117,116])])]),(.tup [(.tup [(eS [112,117,116])]),(.tup [(eS [107,101,101,112])])])])),
 .asg (.name 4) (.bin .add (eV 4) (.lst false (.disp [(.tup [(.tup [(eS [107,101,101,112])]),(.tup [(eS [115,101,110,100]),(eS [110]),(eS [118,97,108,117,101])])]),(.tup [(.tup [(eS [108,111,115,101])]),(.tup [(eS [115,101,110,100]),(eS [109]),(eS [118,97,108,117,101])])])]))),
 .asg (.name 5) (.lst false (.disp [(.tup []),(.tup [(.tup [(eS [116,101,108,108])])]),(.tup [(.tup [(eS [112,117,116])])]),(.tup [(.tup [(eS [115,101,110,100]),(eS [109]),(eS [98,97,114,101])])]),(.tup [(.tup [(eS [115,101,110,100]),(eS [110]),(eS [118,97,108,117,101])]),(.tup [(eS [108,111,115,101])])])])),
 .asg (.name 5) (.bin .add (eV 5) (.lst false (.disp [(.tup [(.tup [(eS [115,101,110,100]),(eS [109]),(eS [118,97,108,117,101])])]),(.tup [(.tup [(eS [112,117,116])]),(.tup [(eS [115,101,110,100]),(eS [110]),(eS [118,97,108,117,101])])])]))),
 .asg (.name 6) (.lst true (.disp [(.tup [(.tup [(eS [107,101,101,112])])]),(.tup [(.tup [(eS [111,119,110])]),(.tup [(eS [115,101,110,100]),(eS [109]),(eS [118,97,108,117,101])])]),(.tup [(.tup [(eS [115,104,97,114,101])]),(.tup [(eS [115,101,110,100]),(eS [110]),(eS [118,97,108,117,101])])]),(.tup [(.tup [(eS [102,111,114,103,101,116])])])])),
 .asg (.name 6) (.lst true (.cat (eV 6) (.lst false (.disp [(.tup [(.tup [(eS [111,116,104,101,114,115]),(eS [110]),(eS [98,97,114,101])]),(.tup [(eS [107,101,101,112])])]),(.tup [(.tup [(eS [111,119,110,101,114]),(eS [109]),(eS [118,97,108,117,101])]),(.tup [(eS [99,108,101,97,114])])])])))),
 .exp (.me .append (eV 6) [(.tup [(.tup [(eS [115,101,110,100]),(eS [109]),(eS [98,97,114,101])])])]),
 .asg (.name 7) (.lst true (.disp [])),
 .for (.name 8) (.rng (eJ 15)) [.asg (.name 9) (.idx (eV 1) (.bin .add (eJ 3) (eV 8))),.asg (.name 10) (.idx (.lst false (.disp [(eS [114,101,97,100]),(eS [119,114,105,116,101]),(eS [100,114,111,112]),(eS [109]),(eS [110])])) (.bin .mod (eV 8) (eJ 5))),.asg (.name 11) (.idx (.idx (.lst false (.disp [(eV 5),(eV 4)])) (.bi .int [(.cmp .gt (.bin .mod (eV 8) (eJ 5)) (eJ 2))])) (.bin .mod (eV 9) (eJ 7))),.ife (.or (.val (.cmp .gt (.bin .fdiv (eV 9) (eJ 21)) (eJ 0))) (.val (.cmp .gt (.bin .mod (eV 8) (eJ 5)) (eJ 2)))) [.exp (.me .append (eV 7) [(.tup [(eS [104,97,110,100]),(.idx (.lst false (.disp [(eS [97]),(eS [98]),(eS [99])])) (.bin .fdiv (eV 8) (eJ 5))),(eV 10),(.idx (.lst false (.disp [(eS [97]),(eS [98]),(eS [99])])) (.bin .mod (.bin .fdiv (eV 9) (eJ 7)) (eJ 3))),(eV 11)])])] []],
 .for (.name 8) (.rng (eJ 8)) [.asg (.name 9) (.idx (eV 1) (.bin .add (eJ 18) (eV 8))),.asg (.name 12) (.idx (.lst false (.disp [(eS [108,97,115,116]),(eS [109,111,114,101])])) (.bin .mod (eV 8) (eJ 2))),.asg (.name 13) (.idx (.lst false (.disp [(eS [104]),(eS [107])])) (.bin .fdiv (eV 8) (eJ 4))),.exp (.me .append (eV 7) [(.tup [(eS [104,111,117,115,101]),(eV 13),(.idx (.lst false (.disp [(eS [109]),(eS [110])])) (.bin .mod (.bin .fdiv (eV 8) (eJ 2)) (eJ 2))),(eV 12),(.idx (.lst false (.disp [(eS [104]),(eS [107])])) (.bin .mod (.bin .fdiv (eV 9) (eJ 7)) (eJ 2))),(.idx (eV 6) (.bin .mod (eV 9) (eJ 7)))])])],
 .ret (.tup [(eV 3),(.tup [(eS [104]),(eS [107])]),(.bi .tuple [(eV 7)])])]
/- _law_table (37): 0 _law_cell,1 _law_table_here -/
noncomputable def zhX:List S:=[
 .ife (.val (.cmp .eq (.bin .mod (eV 0) (eJ 3)) (eJ 2))) [.ret (.call 36 [(.bin .fdiv (eV 0) (eJ 3))])] [],
 .asg (.name 1) (.idx (.lst false (.disp [(.call0 33),(.call0 34)])) (.bin .mod (eV 0) (eJ 3))),
 .ife (.val (.cmp .eq (.bin .mod (.bin .fdiv (eV 0) (eJ 3)) (eJ 2)) (eJ 0))) [.ret (eV 1)] [],
 .ret (.call 35 [(eV 1),(.bin .fdiv (eV 0) (eJ 6))])]
/- _law_run (38): 0 _law_cells,1 _law_table_here,2 _law_many,3 _law_order_here,4 _law_standing,5 _law_answers,6 _law_deeds,7 _law_cell,8 _law_some,9 _law_deed,10 _law_answer,11 _law_fault -/
noncomputable def znf:List S:=[
 .asg (.name 4) (.call 5 [(eV 1),(eV 2)]),
 .asg (.name 5) (.lst true (.disp [])),
 .asg (.name 6) (.lst true (.disp [])),
 .for (.name 7) (.seq (eV 0)) [.asg (.name 8) (.call 26 [(eV 1),(eV 4),(eV 3)]),.ife (.val (.cmp .eq (eV 8) (.lst false (.disp [])))) [.ret (.tup [(eV 6),(eV 4),(eV 5),(.con .non)])] [],.asg (.name 9) (.idx (eV 8) (.bin .mod (eV 7) (.bi .len [(eV 8)]))),.ife (.val (.cmp .eq (.bi .len [(eV 9)]) (eJ 4))) [.asg (.name 9) (.bin .add (.sli (eV 9) (.con .non) (eJ 3)) (.tup [(.bin .add (.bin .sub (.bin .mod (.bin .fdiv (eV 7) (eJ 3)) (.bin .sub (.bin .mul (eJ 2) (.bin .pow (eJ 10) (eJ 40))) (eJ 1))) (.bin .pow (eJ 10) (eJ 40))) (eJ 1))]))] [],.exp (.me .append (eV 6) [(eV 9)]),.asg (.tup [(.name 4),(.name 10),(.name 11)]) (.call 29 [(eV 1),(eV 4),(eV 9)]),.ife (.val (.cmp .isnotN (eV 11) (.con .non))) [.ret (.tup [(eV 6),(eV 4),(eV 5),(eV 11)])] [],.ife (.val (.cmp .isnotN (eV 10) (.con .non))) [.exp (.me .append (eV 5) [(eV 10)])] []],
 .ret (.tup [(eV 6),(eV 4),(eV 5),(.con .non)])]
/- _law_refused (39): 0 _law_table_here,1 _law_many,2 _law_deeds,3 _law_found -/
noncomputable def zfs:List S:=[
 .asg (.name 3) (.con (.bl false)),
 .tryc 30 [(eV 0),(eV 1),(eV 2)] 0 3 (.bl true),
 .ret (eV 3)]
/- _law_order (40): 0 _law_cell,1 _law_many,2 _law_left,3 _law_order_here -/
noncomputable def zhW:List S:=[
 .asg (.name 2) (.lst true (.ofR (eV 1))),
 .asg (.name 3) (.lst true (.disp [])),
 .whl (.val (.cmp .ne (eV 2) (.lst false (.disp [])))) [.exp (.me .append (eV 3) [(.me .popAt (eV 2) [(.bin .mod (eV 0) (.bi .len [(eV 2)]))])]),.asg (.name 0) (.bin .fdiv (eV 0) (eJ 10))],
 .ret (eV 3)]
/- law (41): 0 _law_script,1 _law_table_here,2 _law_many,3 _law_order_here,4 _law_by_turn,5 _law_deeds,6 _law_standing,7 _law_answers,8 _law_fault,9 _law_handed,10 _law_found,11 _law_due,12 _law_at,13 _law_bad,14 _law_turned,15 _law_others,16 ?1?_law_deed,17 ?2?_law_word,18 ?2?_law_hand,19 ?2?_law_number -/
noncomputable def zsi:List S:=[
 .asg (.name 1) (.call 37 [(.call 31 [(eV 0),(eJ 0)])]),
 .asg (.name 2) (.bin .add (eJ 1) (.bin .mod (.call 31 [(eV 0),(eJ 1)]) (eJ 6))),
 .asg (.name 3) (.call 40 [(.call 31 [(eV 0),(eJ 2)]),(eV 2)]),
 .asg (.name 4) (.cmp .eq (.bin .mod (.bin .fdiv (.call 31 [(eV 0),(eJ 1)]) (eJ 6)) (eJ 2)) (eJ 0)),
 .asg (.tup [(.name 5),(.name 6),(.name 7),(.name 8)]) (.call 38 [(.sli (eV 0) (eJ 3) (eJ 53)),(eV 1),(eV 2),(eV 4)]),
 .asg (.name 9) (.lst false (.of (eV 5))),
 .asg (.name 10) (.call 30 [(eV 1),(eV 2),(eV 9)]),
 .ife (.or (.val (.cmp .ne (eV 10) (.tup [(eV 6),(eV 7),(eV 8)]))) (.or (.val (.cmp .ne (eV 9) (eV 5))) (.not (.val (.isi .list (eX 10 1)))))) [.ret (.con (.bl false))] [],
 .asg (.name 11) (.tup [(eV 6),(eV 7),(eV 8)]),
 .ife (.and (.val (.cmp .isnotN (eV 8) (.con .non))) (.val (.cmp .ne (.call 30 [(eV 1),(eV 2),(.bin .add (eV 5) (.lst false (.disp [(.tup [(eS [97,115,107]),(eJ 0),(eS [100,114,111,112])])])))]) (eV 11)))) [.ret (.con (.bl false))] [],
 .asg (.name 12) (.bin .mod (.bin .fdiv (.call 31 [(eV 0),(eJ 2)]) (eJ 7)) (.bin .add (.bi .len [(eV 5)]) (eJ 1))),
 .asg (.name 13) (.idx (.lst false (.disp [(.tup [(eS [116,97,107,101]),(eJ 0),(eJ 9)]),(.tup [(eS [103,101,116]),(.bin .sub (eV 2) (eJ 1)),(.neg (eJ 1))]),(.tup [(eS [97,115,107]),(eV 2),(eS [100,114,111,112])]),(.tup [(eS [116,97,107,101]),(.neg (eJ 1)),(eJ 0)])])) (.bin .mod (.bi .len [(eV 5)]) (eJ 4))),
 .ife (.val (.cmp .ne (.call 39 [(eV 1),(eV 2),(.bin .add (.bin .add (.sli (eV 5) (.con .non) (eV 12)) (.lst false (.disp [(eV 13)]))) (.sli (eV 5) (eV 12) (.con .non)))]) (.or (.cmp .isN (eV 8) (.con .non)) (.cmp .lt (eV 12) (.bi .len [(eV 5)]))))) [.ret (.con (.bl false))] [],
 .asg (.name 14) (.lst false (.comp (.name 16) (.seq (eV 5)) [] (.bin .add (.bin .add (.sli (eV 16) (.con .non) (eJ 1)) (.tup [(.lm .index (eV 3) (eX 16 1))])) (.sli (eV 16) (eJ 2) (.con .non))))),
 .asg (.name 15) (.lst false (.comp (.tup [(.name 17),(.name 18),(.name 19)]) (.seq (eV 7)) [] (.tup [(eV 17),(.lm .index (eV 3) (eV 18)),(eV 19)]))),
 .ret (.cmp .eq (.call 30 [(eV 1),(eV 2),(eV 14)]) (.tup [(.call 7 [(eV 6),(eV 3)]),(eV 15),(eV 8)]))]
/- OpenLine.__init__ (42): 0 self,1 line -/
noncomputable def zbP:List S:=[
 .setN "OpenLine" (eV 0) "state" (eX 1 0),
 .setN "OpenLine" (eV 0) "value" (eX 1 1),
 .setN "OpenLine" (eV 0) "want" (eX 1 2),
 .setN "OpenLine" (eV 0) "to" (eX 1 3),
 .setN "OpenLine" (eV 0) "back" (eX 1 4),
 .setN "OpenLine" (eV 0) "flags" (eX 1 5)]
/- OpenLine.as_tuple (43): 0 self -/
noncomputable def za8:List S:=[
 .ret (.tup [(.fld (eV 0) "state"),(.fld (eV 0) "value"),(.fld (eV 0) "want"),(.fld (eV 0) "to"),(.fld (eV 0) "back"),(.fld (eV 0) "flags")])]
/- Hall.__init__ (44): 0 self,1 standing,2 ?1?line -/
noncomputable def zdu:List S:=[
 .setN "Hall" (eV 0) "state" (eX 1 0),
 .setN "Hall" (eV 0) "store" (eX 1 1),
 .setN "Hall" (eV 0) "last" (eX 1 2),
 .setN "Hall" (eV 0) "lines" (.lstO (.name 2) (.seq (eX 1 3)) [] (.make "OpenLine" 42 [(eV 2)])),
 .setN "Hall" (eV 0) "answer" (.con .non),
 .setN "Hall" (eV 0) "broken" (.con .non)]
/- Hall.as_tuple (45): 0 self,1 lines,2 ?1?line -/
noncomputable def zbS:List S:=[
 .asg (.name 1) (.bi .tuple [(.lst false (.comp (.name 2) (.seq (.fld (eV 0) "lines")) [] (.mc "OpenLine" "as_tuple" 43 (eV 2) [])))]),
 .ret (.tup [(.fld (eV 0) "state"),(.fld (eV 0) "store"),(.fld (eV 0) "last"),(eV 1)])]
/- Hall.write_value (46): 0 self,1 hand,2 line -/
noncomputable def zbg:List S:=[
 .asg (.name 2) (.oix (.fld (eV 0) "lines") (eV 1)),
 .setF (eV 0) "last" (.tup [(.bin .add (.idx (.fld (eV 0) "last") (eJ 0)) (eJ 1)),(.fld (eV 2) "want")]),
 .setF (eV 2) "value" (.fld (eV 0) "last"),
 .setF (eV 0) "answer" (.tup [(eS [119,114,111,116,101]),(eV 1),(.fld (eV 2) "want")])]
/- Hall.tell_value (47): 0 self,1 hand,2 line -/
noncomputable def zbB:List S:=[
 .asg (.name 2) (.oix (.fld (eV 0) "lines") (eV 1)),
 .ife (.or (.val (.cmp .isN (.fld (eV 2) "value") (.con .non))) (.not (.val (.call 8 [(.fld (eV 2) "value"),(.fld (eV 0) "last")])))) [.setF (eV 0) "broken" (.tup [(eS [111,108,100])])] [.setF (eV 0) "answer" (.tup [(eS [114,101,97,100]),(eV 1),(.idx (.fld (eV 2) "value") (eJ 1))])]]
/- Hall.send_to_house (48): 0 self,1 hand,2 kind,3 load,4 line -/
noncomputable def zaY:List S:=[
 .asg (.name 4) (.oix (.fld (eV 0) "lines") (eV 1)),
 .setF (eV 4) "back" (.mc "Hall" "posted" 50 (eV 0) [(.fld (eV 4) "back"),(.call 10 [(eV 2),(eV 3),(.fld (eV 4) "value")])])]
/- Hall.send_to_hand (49): 0 self,1 hand,2 kind,3 load,4 line -/
noncomputable def za9:List S:=[
 .asg (.name 4) (.oix (.fld (eV 0) "lines") (eV 1)),
 .setF (eV 4) "to" (.mc "Hall" "posted" 50 (eV 0) [(.fld (eV 4) "to"),(.call 10 [(eV 2),(eV 3),(.fld (eV 0) "store")])])]
/- Hall.posted (50): 0 self,1 way,2 letter -/
noncomputable def zcF:List S:=[
 .ife (.val (.cmp .ge (.bi .len [(eV 1)]) (.glo (.int 2)))) [.setF (eV 0) "broken" (.tup [(eS [102,117,108,108])]),.ret (eV 1)] [],
 .ret (.bin .add (eV 1) (.tup [(eV 2)]))]
/- Hall.hands_with (51): 0 self,1 flag,2 ?1?hand,3 ?1?line -/
noncomputable def zbw:List S:=[
 .ret (.lst false (.comp (.tup [(.name 2),(.name 3)]) (.enu (.fld (eV 0) "lines")) [(.val (.bin .band (.fld (eV 3) "flags") (eV 1)))] (eV 2)))]
/- Hall.other_sharers (52): 0 self,1 sender,2 ?1?hand -/
noncomputable def zaV:List S:=[
 .ret (.lst false (.comp (.name 2) (.seq (.mc "Hall" "hands_with" 51 (eV 0) [(.glo (.int 1))])) [(.val (.cmp .ne (eV 2) (eV 1)))] (eV 2)))]
/- Hall.forget_all (53): 0 self,1 line -/
noncomputable def zbA:List S:=[
 .for (.name 1) (.seq (.fld (eV 0) "lines")) [.setF (eV 1) "flags" (eJ 0)]]
noncomputable def P:List F:=[⟨2,4,zga,false,[],false⟩,⟨3,3,zgj,false,[],false⟩,⟨4,5,zfL,false,[],false⟩,⟨2,3,zh8,false,[],false⟩,⟨1,1,zhk,false,[],false⟩,⟨2,3,zlH,false,[],false⟩,⟨2,4,zmv,false,[],false⟩,⟨2,4,zhV,false,[],false⟩,⟨2,2,zce,false,[],false⟩,⟨2,2,zjV,false,[],false⟩,⟨3,3,ze1,false,[],false⟩,⟨3,3,zdC,false,[],false⟩,⟨2,3,zjI,false,[],false⟩,⟨3,5,zc2,false,[],false⟩,⟨3,4,zhD,false,[],true⟩,⟨3,4,zkb,false,[],true⟩,⟨3,5,zhZ,false,[],true⟩,⟨3,3,zj7,false,[],true⟩,⟨3,5,zfN,false,[],true⟩,⟨2,2,zhu,false,[],false⟩,⟨4,6,zdS,false,[],true⟩,⟨4,5,zdQ,false,[],true⟩,⟨4,5,zcX,false,[],true⟩,⟨4,5,zc4,false,[],true⟩,⟨3,4,zbN,false,[],true⟩,⟨3,3,zfB,false,[],false⟩,⟨3,8,ztf,false,[(.bl true)],false⟩,⟨1,1,zh2,false,[],false⟩,⟨4,5,zes,false,[],false⟩,⟨3,4,zp4,false,[],false⟩,⟨3,7,zp5,false,[],false⟩,⟨2,2,ze9,false,[],false⟩,⟨3,7,zgm,false,[],false⟩,⟨0,2,zeu,false,[],false⟩,⟨0,2,zfW,false,[],false⟩,⟨2,6,zjZ,false,[],false⟩,⟨1,15,zjy,false,[],false⟩,⟨1,2,zhX,false,[],false⟩,⟨4,12,znf,false,[],false⟩,⟨3,4,zfs,false,[],false⟩,⟨2,4,zhW,false,[],false⟩,⟨1,20,zsi,false,[],false⟩,⟨2,2,zbP,false,[],true⟩,⟨1,1,za8,false,[],false⟩,⟨2,3,zdu,false,[],true⟩,⟨1,3,zbS,false,[],false⟩,⟨2,3,zbg,false,[],true⟩,⟨2,3,zbB,false,[],true⟩,⟨4,5,zaY,false,[],true⟩,⟨4,5,za9,false,[],true⟩,⟨3,3,zcF,false,[],true⟩,⟨2,4,zbw,false,[],false⟩,⟨2,3,zaV,false,[],false⟩,⟨1,2,zbA,false,[],true⟩]
variable {Q:R->Sto->Prop}
noncomputable abbrev Tx:=List Nat
noncomputable abbrev Val:=Option (Int×Int)
noncomputable def prD (p:Int×Int):D:=.tup [.int p.1,.int p.2]
noncomputable def valD:Val->D
 | none=>.non
 | some p=>prD p
noncomputable abbrev Lt:=Tx×Val
noncomputable def letD (p:Lt):D:=.tup [.str p.1,valD p.2]
noncomputable def wayD (w:List Lt):D:=.tup (w.map letD)
structure Ln where
 st:Tx
 v:Val
 want:Int
 to:List Lt
 back:List Lt
 fl:Nat
noncomputable def lnD (l:Ln):D:=.tup [.str l.st,valD l.v,.int l.want,wayD l.to,wayD l.back,.int l.fl]
structure Hl where
 s:Tx
 sr:Val
 la:Int×Int
 ls:List Ln
 ans:D
 brk:D
noncomputable def opnF (l:Ln):List (PySem.Str×R):=[("state",.d (.str l.st)),("value",.d (valD l.v)),("want",.d (.int l.want)),("to",.d (wayD l.to)),("back",.d (wayD l.back)),("flags",.d (.int l.fl))]
noncomputable def halF (X:Hl) (q:Nat):List (PySem.Str×R):=[("state",.d (.str X.s)),("store",.d (valD X.sr)),("last",.d (prD X.la)),("lines",.loc q),("answer",.d X.ans),("broken",.d X.brk)]
theorem i4:idxD (.tup [x,y,z,w,u,v]) (.int 4)=some u:=zcE (by decide) rfl
theorem i5:idxD (.tup [x,y,z,w,u,v]) (.int 5)=some v:=zcE (by decide) rfl
theorem znr (n:Nat) (k:Q (.d .non) (h++[.ins "OpenLine" (opnF l)])):Ok (zaf P (n+1) 42 [.loc h.length,.d (lnD l)] (h++[.ins "OpenLine" []])) Q:=by
 refine cl rfl rfl rfl ?_;refine st zad ⟨rfl,(by decide:0<900),?_⟩;rw [zai];refine st zad ⟨rfl,(by decide:1<900),?_⟩;rw [zai];refine st zad ⟨rfl,(by decide:2<900),?_⟩;rw [zai];refine st zad ⟨rfl,(by decide:3<900),?_⟩;rw [zai];refine st zad ⟨rfl,(by decide:4<900),?_⟩;rw [zai];refine st zad ⟨rfl,(by decide:5<900),?_⟩;rw [zai];exact zah.mpr k
noncomputable def zcl (p:Nat) (n:Nat):List Nat:=(List.range n).map (p+·)
noncomputable abbrev lnO (l:Ln):Ob:=.ins "OpenLine" (opnF l)
noncomputable def halS (p:Nat) (X:Hl):Sto:=.ins "Hall" (halF X (p+1+X.ls.length))::(X.ls.map lnO++[.ols (zcl (p+1) X.ls.length)])
noncomputable def stdD (s:Tx) (a:Val) (b:Int×Int) (ls:List Ln):D:=.tup [.str s,valD a,prD b,.tup (ls.map lnD)]
theorem zfH (n:Nat) (k:Q (.d .non) (h++halS h.length ⟨s,a,b,ls,.non,.non⟩)):Ok (zaf P (n+2) 44 [.loc h.length,.d (stdD s a b ls)] (h++[.ins "Hall" []])) Q:=by
 refine cl rfl rfl rfl ?_;refine st zad ⟨rfl,(by decide:0<900),?_⟩;rw [zai];refine st zad ⟨rfl,(by decide:1<900),?_⟩;rw [zai];refine st zad ⟨rfl,(by decide:2<900),?_⟩;rw [zai];refine ask ?_;rw [List.map_map];refine zfm (g:=dI∘lnD) (λi ys h'=>i<=ls.length/\ys=zcl (h.length+1) i/\h'=h++.ins "Hall" [("state",.d (.str s)),("store",.d (valD a)),("last",.d (prD b))]::((ls.take i).map lnO)) ?_ ?_ ⟨by omega,rfl,rfl⟩
 ·rintro i l ys h' hl ⟨hi,rfl,rfl⟩
  have hi2:i<ls.length:=(List.getElem?_eq_some_iff.mp hl).1
  have e1:h++.ins "Hall" [("state",.d (.str s)),("store",.d (valD a)),("last",.d (prD b))]::((ls.take (i+1)).map lnO)=(h++.ins "Hall" [("state",.d (.str s)),("store",.d (valD a)),("last",.d (prD b))]::((ls.take i).map lnO))++[.ins "OpenLine" (opnF l)]:=by
   rw [List.take_add_one,hl];simp
  have e2:(h++.ins "Hall" [("state",.d (.str s)),("store",.d (valD a)),("last",.d (prD b))]::((ls.take i).map lnO)).length=h.length+1+i:=by
   simp;omega
  rw [e1];generalize (h++.ins "Hall" [("state",.d (.str s)),("store",.d (valD a)),("last",.d (prD b))]::((ls.take i).map lnO))=h1 at e2 ⊢;refine go ?_;refine ask (znr n ⟨rfl,?_⟩);refine st zad ?_;refine ⟨rfl,by omega,?_,rfl⟩;rw [e2];unfold zcl;rw [List.range_succ,List.map_append];rfl
 ·rintro ys h' ⟨hi,rfl,rfl⟩
  rw [List.take_length];ac_rfl;simp only [List.append_assoc,List.cons_append,List.length_append,List.length_cons,List.length_map];refine st zad ⟨rfl,(by decide:3<900),?_⟩;rw [zai];refine st zad ⟨rfl,(by decide:4<900),?_⟩;rw [zai];refine st zad ⟨rfl,(by decide:5<900),?_⟩;rw [zai];refine zah.mpr ?_
  have e:halS h.length ⟨s,a,b,ls,.non,.non⟩=.ins "Hall" (halF ⟨s,a,b,ls,.non,.non⟩ (h.length+(ls.length+1)))::(ls.map lnO++[.ols (zcl (h.length+1) ls.length)]):=by
   unfold halS;rw [show h.length+1+ls.length=h.length+(ls.length+1) by omega]
  rw [e] at k;exact k
structure zcf (h:Sto) (p:Nat) (X:Hl) (q:Nat):Prop where
 hall:h[p]?=some (.ins "Hall" (halF X q))
 ols:h[q]?=some (.ols (zcl (p+1) X.ls.length))
 ln:∀ i l,X.ls[i]?=some l->h[p+1+i]?=some (.ins "OpenLine" (opnF l))
theorem zcz {p n:Nat} {i:Int} (h0:0<=i) (h1:i<n):at' (zcl p n) i=some (p+i.toNat):=by
 unfold at' ixn zcl;simp only [List.length_map,List.length_range,if_pos h0,if_pos h1];rw [List.getElem?_map,List.getElem?_range (by omega)];rfl
theorem zeh:(zcl p n).length=n:=by simp [zcl]
theorem zj8:zcf (h++halS h.length X++t) h.length X (h.length+1+X.ls.length):=by
 unfold halS;refine ⟨?_,?_,λi l e=>?_⟩
 ·rw [List.append_assoc,List.getElem?_append_right (Nat.le_refl _),Nat.sub_self]
  rfl
 ·rw [List.append_assoc,List.getElem?_append_right (by omega),show h.length+1+X.ls.length-h.length=X.ls.length+1 by omega]
  simp
 ·have hi:i<X.ls.length:=(List.getElem?_eq_some_iff.mp e).1
  rw [List.append_assoc,List.getElem?_append_right (by omega),show h.length+1+i-h.length=i+1 by omega];simp only [List.cons_append,List.getElem?_cons_succ,List.append_assoc];rw [List.getElem?_append_left (by simpa using hi),List.getElem?_map,e];rfl
theorem zaa:zcf (h++halS h.length X) h.length X (h.length+1+X.ls.length):=by
 have:=zj8 (h:=h) (X:=X) (t:=[])
 rwa [List.append_nil] at this
theorem zbT (hk:k<X.ls.length):(h++halS h.length X).set (h.length+1+k) (.ins "OpenLine" (opnF l))=h++halS h.length { X with ls:=X.ls.set k l }:=by
 unfold halS;rw [List.set_append_right _ _ (by omega),show h.length+1+k-h.length=k+1 by omega,List.set_cons_succ,List.set_append_left _ _ (by simpa using hk),<-List.map_set];simp only [List.length_set];rfl
theorem zc5 {Y:Hl} (e:Y.ls.length=X.ls.length) (e2:Y.ls=X.ls):(h++halS h.length X).set h.length (.ins "Hall" (halF Y (h.length+1+X.ls.length)))=h++halS h.length Y:=by
 unfold halS;rw [zai,e2]
noncomputable abbrev kask:Tx:=[97,115,107]
noncomputable abbrev ziM:Tx:=[116,97,107,101]
noncomputable abbrev kget:Tx:=[103,101,116]
noncomputable abbrev zb4:Tx:=[104,97,110,100]
noncomputable abbrev zbW:Tx:=[104,111,117,115,101]
noncomputable abbrev kany:Tx:=[97,110,121]
noncomputable abbrev ztZ:Tx:=[108,97,115,116]
noncomputable abbrev zsQ:Tx:=[109,111,114,101]
noncomputable abbrev zdi:Tx:=[114,101,97,100]
noncomputable abbrev zaC:Tx:=[119,114,105,116,101]
noncomputable abbrev zeP:Tx:=[100,114,111,112]
noncomputable abbrev ziO:Tx:=[119,97,105,116]
noncomputable abbrev zcr:Tx:=[110,111,110,101]
noncomputable abbrev zs7:Tx:=[107,101,101,112]
noncomputable abbrev zvm:Tx:=[108,111,115,101]
noncomputable abbrev kput:Tx:=[112,117,116]
noncomputable abbrev zvC:Tx:=[116,101,108,108]
noncomputable abbrev zrp:Tx:=[115,101,110,100]
noncomputable abbrev kown:Tx:=[111,119,110]
noncomputable abbrev zsF:Tx:=[115,104,97,114,101]
noncomputable abbrev zrU:Tx:=[102,111,114,103,101,116]
noncomputable abbrev zsS:Tx:=[99,108,101,97,114]
noncomputable abbrev zmm:Tx:=[115,116,97,121]
noncomputable abbrev zpW:Tx:=[111,119,110,101,114]
noncomputable abbrev zm9:Tx:=[111,116,104,101,114,115]
noncomputable abbrev zbG:Tx:=[118,97,108,117,101]
noncomputable abbrev zkL:Tx:=[98,97,114,101]
noncomputable abbrev zsK:Tx:=[119,114,111,116,101]
noncomputable abbrev kold:Tx:=[111,108,100]
noncomputable abbrev zoQ:Tx:=[102,117,108,108]
noncomputable abbrev zma:Tx:=[110,111,114,111,119]
noncomputable abbrev znG:Tx:=[99,108,97,115,104]
inductive HA where
 | keep | lose | put | tell
 | send (m l:Tx)
inductive OA where
 | keep | own | share | forget | clear | stay
 | send (w:Nat) (m l:Tx)
noncomputable def zo4 (w:Nat):Tx:=if w=0 then zrp else if w=1 then zpW else zm9
noncomputable def haD:HA->D
 | .keep=>.tup [.str zs7]
 | .lose=>.tup [.str zvm]
 | .put=>.tup [.str kput]
 | .tell=>.tup [.str zvC]
 | .send m l=>.tup [.str zrp,.str m,.str l]
noncomputable def oaD:OA->D
 | .keep=>.tup [.str zs7]
 | .own=>.tup [.str kown]
 | .share=>.tup [.str zsF]
 | .forget=>.tup [.str zrU]
 | .clear=>.tup [.str zsS]
 | .stay=>.tup [.str zmm]
 | .send w m l=>.tup [.str (zo4 w),.str m,.str l]
inductive Acts where
 | hand (as:List HA)
 | house (as:List OA)
 | wait
noncomputable def zbK:Acts->D
 | .hand as=>.tup (as.map haD)
 | .house as=>.tup (as.map oaD)
 | .wait=>.tup [.tup [.str ziO]]
structure Row where
 k:Tx
 m:List Tx
 nx:Tx
 acts:Acts
noncomputable def rowD (r:Row):D:=.tup (.str r.k::(r.m.map D.str++[.str r.nx,zbK r.acts]))
structure Row.Ok (r:Row):Prop where
 m:2<=r.m.length
 hand:r.k=zb4->∃ as,r.acts=.hand as
 house:r.k=zbW->r.acts=.wait\/∃ as,r.acts=.house as
structure Tab where
 hands:List (Tx×Tx)
 h0:Tx
 hs:List D
 rows:List Row
noncomputable def hnD (p:Tx×Tx):D:=.tup [.str p.1,.str p.2]
noncomputable def tabD (T:Tab):D:=.tup [.tup (T.hands.map hnD),.tup (.str T.h0::T.hs),.tup (T.rows.map rowD)]
structure Tab.Ok (T:Tab):Prop where
 rows:∀ r∈T.rows,r.Ok
 few:T.rows.length<=100
 hands:T.hands≠[]
noncomputable def optR:Option Row->D
 | some d=>rowD d
 | none=>.non
noncomputable def zge (hd:List D):D->Bool
 | .tup r=>D.eqbs (r.take hd.length) hd
 | _=>false
noncomputable def zcY (rows:List Row) (hd:List D):Option Row:=rows.find? λr=>zge hd (rowD r)
theorem zdm (n:Nat) {T:Tab} (hdep:(D.tup hd).dep<=60) (kq:Q (.d (optR (zcY T.rows hd))) h):Ok (zaf P (n+1) 3 [.d (tabD T),.d (.tup hd)] h) Q:=by
 refine cl rfl rfl rfl ?_;refine ask ?_;show Ok (loop _ _ ((T.rows.map rowD).map dI) _ _) _;refine zgA (xs:=T.rows.map rowD) (λi σ h'=>h'=h/\zcY T.rows hd=zcY (T.rows.drop i) hd/\∃ v,σ=[some (.d (tabD T)),some (.d (.tup hd)),v]) ?_ ?_ ⟨rfl,rfl,none,rfl⟩
 ·rintro i r σ h' hr ⟨rfl,hf,v,rfl⟩
  rw [List.getElem?_map,Option.map_eq_some_iff] at hr;obtain ⟨r,hr,rfl⟩:=hr;have hi:=(List.getElem?_eq_some_iff.mp hr).1
  have hd1:T.rows.drop i=r::T.rows.drop (i+1):=by
   rw [List.drop_eq_getElem_cons hi,(List.getElem?_eq_some_iff.mp hr).2]
  rw [hd1] at hf;refine gb ?_;ac_rfl;rw [cutN];refine st (zgJ (zif hdep)) ?_;refine br (λc=>?_) (λc=>?_)
  ·ac_rfl
   rw [hf] at kq;unfold zcY at kq
   rw [List.find?_cons_of_pos (by unfold zge;exact c)] at kq
   exact f0 kq
  ·ac_rfl
   rw [hf];unfold zcY
   rw [List.find?_cons_of_neg (p:=λr=>zge hd (rowD r)) (a:=r) (show ¬ zge hd (rowD r)=true by intro z;cases c.symm.trans z)]
   exact ⟨rfl,rfl,rfl,_,rfl⟩
 ·rintro σ h' ⟨rfl,hf,v,rfl⟩
  ac_rfl;rw [List.length_map,List.drop_eq_nil_of_le (Nat.le_refl _)] at hf;rw [hf] at kq;exact f0 kq
theorem dep3:(D.tup [.str a,.str b,.str c]).dep<=60:=by simp [D.dep,D.deps]
theorem dep4:(D.tup [.str a,.str b,.str c,.str d]).dep<=60:=by simp [D.dep,D.deps]
noncomputable def ze5 (T:Tab) (s e:Tx):Option Row:=zcY T.rows [.str zb4,.str s,.str e]
theorem zet (n:Nat) {T:Tab} (kq:Q (.d (optR (ze5 T s e))) h):Ok (zaf P (n+2) 1 [.d (tabD T),.d (.str s),.d (.str e)] h) Q:=by
 refine cl rfl rfl rfl ?_;exact ask (zdm n dep3 (f0 kq))
noncomputable def zey (T:Tab) (s m:Tx) (last:Bool):Option Row:=(zcY T.rows [.str zbW,.str s,.str m,.str kany]).or (zcY T.rows [.str zbW,.str s,.str m,.str (if last then ztZ else zsQ)])
theorem zgM (n:Nat) {T:Tab} (kq:Q (.d (optR (zey T s m last))) h):Ok (zaf P (n+2) 2 [.d (tabD T),.d (.str s),.d (.str m),.d (.bl last)] h) Q:=by
 refine cl rfl rfl rfl ?_;unfold zey at kq;refine ask (zdm n dep4 ?_);ac_rfl
 cases e:zcY T.rows [.str zbW,.str s,.str m,.str kany] with
 | some r=>
  rw [e] at kq;exact f0 kq
 | none=>
  rw [e] at kq
  refine br (λc=>?_) (λc=>?_)<;>subst c<;>ac_rfl<;>exact ask (zdm n dep4 (f0 kq))
variable {Q:R->Sto->Prop}
noncomputable def zrw (w:Tx) (l:Ln):List Lt:=if w=ziM then l.to else l.back
theorem zeG (n:Nat) {h:Sto} {k:Nat} {d:List D} {w:Tx} {l:Ln} (H:zcf h p X q) (el:X.ls[k]?=some l) (kq:Q (.d (wayD (zrw w l))) h):Ok (zaf P (n+1) 12 [.loc p,.d (.tup (.str w::.int k::d))] h) Q:=by
 refine cl rfl rfl rfl ?_;have hk:k<X.ls.length:=(List.getElem?_eq_some_iff.mp el).1;have e4:=H.ln k l el;refine st H.hall ?_;refine st zjO ?_;refine st H.ols ?_;refine st (zcz (by omega) (by omega)) ?_;refine st zfj ?_;refine br (λc=>?_) (λc=>?_)
 ·have c':w=ziM:=eq_of_beq c
  refine st e4 ?_;refine f0 ?_;unfold zrw at kq
  rwa [if_pos c'] at kq
 ·have c':¬ w=ziM:=ne_of_beq_false c
  refine st e4 ?_;refine f0 ?_;unfold zrw at kq
  rwa [if_neg c'] at kq
noncomputable def hasF (f:Nat) (l:Ln):Bool:=((l.fl &&& f:Nat):Int) != 0
noncomputable def zoR (f:Nat) (ls:List Ln):List (Int×Ln):=(nums 0 ls).filter λp=>hasF f p.2
theorem zlB {ls:List Ln}:zat 0 ((zcl p ls.length).map λl=>Ite.r (.loc l))=some ((nums 0 ls).map λx=>Ite.en x.1 (.loc (p+x.1.toNat))):=by
 have gen:∀ (ls:List Ln) (i:Nat),zat (i:Int) (((List.range' i ls.length).map (p+·)).map λl=>Ite.r (.loc l))=some ((nums (i:Int) ls).map λx=>Ite.en x.1 (.loc (p+x.1.toNat))):=by
  intro ls
  induction ls with
  | nil=>intro i;rfl
  | cons l ls ih=>
   intro i
   have:=ih (i+1)
   push_cast at this
   simp only [List.length_cons,List.range'_succ,List.map_cons,zat,this,nums,Int.toNat_natCast]
 unfold zcl;rw [List.range_eq_range'];exact gen ls 0
theorem zb7 {ls:List α} {x:Int×α} (h:x∈nums 0 ls):0<=x.1/\x.1<ls.length/\ls[x.1.toNat]?=some x.2:=by
 obtain ⟨j,hj,e⟩:=List.getElem_of_mem h;obtain ⟨h1,h2⟩:=ziw ls 0 j x (by rw [List.getElem?_eq_getElem hj,e]);have h3:=(List.getElem?_eq_some_iff.mp h2).1;rw [show x.1.toNat=j by omega];exact ⟨by omega,by omega,h2⟩
theorem zfl {α β:Type} {p:α->Bool} {g:α->β}:∀ xs:List α,xs.filterMap (λx=>if p x then some (g x) else none)=(xs.filter p).map g
 | []=>rfl
 | x::xs=>by
  rw [List.filterMap_cons,List.filter_cons,zfl xs]
  cases p x<;>rfl
noncomputable def hwD (f:Nat) (ls:List Ln):List D:=(zoR f ls).map λp=>D.int p.1
theorem zcW (n:Nat) {f:Nat} (H:zcf h p X q) (kq:Q (.d (.lst (hwD f X.ls))) h):Ok (zaf P (n+1) 51 [.loc p,.d (.int f)] h) Q:=by
 refine cl rfl rfl rfl ?_;refine st H.hall ?_;refine st H.ols ?_;refine st zlB ?_;refine ask (zcd (g:=λx=>if hasF f x.2 then some (.int x.1) else none) (λx hx=>?_) (zdx H.ols H.ols) ?_)
 ·obtain ⟨h1,h2,h3⟩:=zb7 hx
  have e4:=H.ln _ _ h3;refine gc ?_;refine st e4 ?_;ac_rfl;refine br (λc=>?_) (λc=>?_)
  ·ac_rfl
   exact ⟨(if_pos (show hasF f x.2=true from c)).symm,rfl⟩
  ·ac_rfl
   exact ⟨(if_neg (show ¬ hasF f x.2=true by intro z;cases c.symm.trans z)).symm,rfl⟩
 ·rw [zfl]
  exact f0 kq
noncomputable def oth (k:Nat) (ls:List Ln):List (Int×Ln):=(zoR 1 ls).filter λp=>p.1 != (k:Int)
theorem zeR (n:Nat) {k:Nat} (H:zcf h p X q) (kq:Q (.d (.lst ((oth k X.ls).map λp=>D.int p.1))) h):Ok (zaf P (n+2) 52 [.loc p,.d (.int k)] h) Q:=by
 refine cl rfl rfl rfl ?_;refine st H.hall ⟨rfl,rfl,?_⟩;refine ask (zcW n (f:=1) H ?_);refine ask ?_;show Ok (zbd none _ ((hwD 1 X.ls).map dI) _) _;unfold hwD;rw [List.map_map];refine zcd (d:=dI∘λp:Int×Ln=>D.int p.1) (g:=λx:Int×Ln=>if x.1 != (k:Int) then some (.int x.1) else none) (λx hx=>?_) zbl ?_
 ·refine gc ?_
  refine br (λc=>?_) (λc=>?_)
  ·ac_rfl
   exact ⟨(if_pos c).symm,rfl⟩
  ·ac_rfl
   exact ⟨(if_neg (show ¬ (x.1 != (k:Int))=true by intro z;cases c.symm.trans z)).symm,rfl⟩
 ·rw [zfl]
  exact f0 kq
theorem zlY (n:Nat) {p k:Nat} {T:Tab} {t:List D} {ev:Tx} {Q:R->Sto->Prop} (H:zcf h p X q) (el:X.ls[k]?=some l) (kq:Q (.d (optR (ze5 T l.st ev))) h) :
  Ok (zaf P (n+3) 13 [.d (tabD T),.loc p,.d (.tup (.str kask::.int k::.str ev::t))] h) Q:=by
 refine cl rfl rfl rfl ?_;have hk:k<X.ls.length:=(List.getElem?_eq_some_iff.mp el).1;have e4:=H.ln k l el;refine st H.hall ?_;refine st zjO ?_;refine st H.ols ?_;refine st (zcz (by omega) (by omega)) ?_;refine st e4 ?_;refine st zfj ?_;refine st zp6 ?_;exact ask (zet (n) (f0 kq))
theorem zgL {w:List Lt} {j:Nat} (ej:w[j]?=some lt):idxD (wayD w) (.int j)=some (letD lt):=zcE (by omega) (by rw [Int.toNat_natCast,List.getElem?_map,ej];rfl)
theorem zjK (n:Nat) {p k j:Nat} {T:Tab} {Q:R->Sto->Prop} (H:zcf h p X q) (el:X.ls[k]?=some l) (ej:l.to[j]?=some lt) (kq:Q (.d (optR (ze5 T l.st lt.1))) h) :
  Ok (zaf P (n+3) 13 [.d (tabD T),.loc p,.d (.tup [.str ziM,.int k,.int j])] h) Q:=by
 refine cl rfl rfl rfl ?_;have hk:k<X.ls.length:=(List.getElem?_eq_some_iff.mp el).1;have e4:=H.ln k l el;refine st H.hall ?_;refine st H.ols ?_;refine st (zcz (by omega) (by omega)) ?_;refine st e4 ?_;refine ask (zeG (n+1) H el ?_);refine st (zgL ej) ?_;exact ask (zet n (f0 kq))
theorem zmA (n:Nat) {p k j:Nat} {T:Tab} {Q:R->Sto->Prop} (H:zcf h p X q) (el:X.ls[k]?=some l) (ej:l.back[j]?=some lt) (kq:Q (.d (optR (zey T X.s lt.1 (oth k X.ls).isEmpty))) h) :
  Ok (zaf P (n+3) 13 [.d (tabD T),.loc p,.d (.tup [.str kget,.int k,.int j])] h) Q:=by
 refine cl rfl rfl rfl ?_;have hk:k<X.ls.length:=(List.getElem?_eq_some_iff.mp el).1;have e4:=H.ln k l el;refine st H.hall ?_;refine st H.ols ?_;refine st (zcz (by omega) (by omega)) ?_;refine st e4 ?_;refine ask (zeG (n+1) H el ?_);refine st (zgL ej) ?_;refine st H.hall ?_;refine st H.hall ⟨rfl,rfl,?_⟩;refine ask (zeR n H ?_)
 have e:(!(!((oth k X.ls).map λp=>D.int p.1).isEmpty))=(oth k X.ls).isEmpty:=by
  cases oth k X.ls<;>rfl
 ac_rfl;rw [e];exact ask (zgM n (f0 kq))
theorem zpk (o:Option Row):zap (optR o)=o.isNone:=by cases o<;>rfl
noncomputable def zgh:Acts->Bool
 | .wait=>true
 | _=>false
noncomputable def goes:Option Row->Bool
 | none=>true
 | some r=>!zgh r.acts
theorem zhM (a:Acts):(zbK a).eqb (.tup [.tup [.str ziO]])=zgh a:=by
 cases a with
 | wait=>rfl
 | hand as=>
  cases as with
  | nil=>rfl
  | cons a r=>cases a<;>rfl
 | house as=>
  cases as with
  | nil=>rfl
  | cons a r=>
   cases a with
   | send w m l=>
    unfold zbK;simp only [List.map_cons,oaD,zo4,zgh];show (D.eqb (.tup [.str _,.str m,.str l]) (.tup [.str ziO])&&_)=false
    have:D.eqb (.tup [.str (if w=0 then zrp else if w=1 then zpW else zm9),.str m,.str l]) (.tup [.str ziO])=false:=by
     show ((_==_)&&false)=false;exact Bool.and_false _
    rw [this];rfl
   | _=>rfl
theorem zd6 (r:Row):idxD (rowD r) (.int (-1))=some (zbK r.acts):=by
 unfold rowD;rw [show (D.str r.k::(r.m.map D.str++[.str r.nx,zbK r.acts]))=(D.str r.k::(r.m.map D.str++[.str r.nx]))++[zbK r.acts] by simp];simp only [idxD,zrj]
theorem zpV (r:Row):idxD (rowD r) (.int (-2))=some (.str r.nx):=by
 unfold rowD;simp only [idxD,at',ixn,List.length_cons,List.length_append,List.length_map,List.length_nil];rw [if_neg (by decide),if_pos (by omega)]
 have e:((-2:Int)+((r.m.length+(0+1+1)+1:Nat):Int)).toNat=r.m.length+1:=by omega
 show (D.str r.k::(r.m.map D.str++[.str r.nx,zbK r.acts]))[((-2:Int)+((r.m.length+(0+1+1)+1:Nat):Int)).toNat]?=_;rw [e,List.getElem?_cons_succ,List.getElem?_append_right (by simp)];simp
theorem zfv (n:Nat) {o:Option Row} (kq:Q (.d (.bl (!goes o))) h):Ok (zaf P (n+1) 4 [.d (optR o)] h) Q:=by
 refine cl rfl rfl rfl ?_;ac_rfl
 cases o with
 | none=>
  exact f0 kq
 | some r=>
  refine st (zd6 r) ?_;refine st (zgJ (zif (show (D.tup [.tup [.str [119,97,105,116]]]).dep<=60 by simp [D.dep,D.deps]))) ?_;rw [zhM];refine f0 ?_;simp only [goes,Bool.not_not] at kq;exact kq
inductive Deed where
 | ask (k:Int) (ev:Tx) (x:Option Int)
 | take (k j:Int)
 | get (k j:Int)
noncomputable def Deed.k:Deed->Int
 | .ask k _ _=>k
 | .take k _=>k
 | .get k _=>k
noncomputable def zal:Deed->D
 | .ask k ev none=>.tup [.str kask,.int k,.str ev]
 | .ask k ev (some x)=>.tup [.str kask,.int k,.str ev,.int x]
 | .take k j=>.tup [.str ziM,.int k,.int j]
 | .get k j=>.tup [.str kget,.int k,.int j]
noncomputable def zmN (ev:Tx):Bool:=ev==zdi||(ev==zaC||ev==zeP)
noncomputable def zfx (T:Tab) (X:Hl) (l:Ln):Deed->Option Row
 | .ask _ ev _=>ze5 T l.st ev
 | .take _ j=>match l.to[j.toNat]? with
  | some lt=>ze5 T l.st lt.1
  | none=>none
 | .get k j=>match l.back[j.toNat]? with
  | some lt=>zey T X.s lt.1 (oth k.toNat X.ls).isEmpty
  | none=>none
noncomputable def mayL (T:Tab) (X:Hl) (l:Ln):Deed->Bool
 | .ask k ev x=>zmN ev&&(ze5 T l.st ev).isSome
 | .take k j=>decide (0<=j)&&decide (j<l.to.length)&&goes (zfx T X l (.take k j))
 | .get k j=>decide (0<=j)&&decide (j<l.back.length)&&goes (zfx T X l (.get k j))
noncomputable def mayB (T:Tab) (X:Hl) (d:Deed):Bool:=if 0<=d.k then (match X.ls[d.k.toNat]? with
 | some l=>mayL T X l d
 | none=>false) else false
theorem zlk (d:Deed):∃ w t,zal d=.tup (.str w::.int d.k::t):=by
 cases d with
 | ask k ev x=>cases x<;>exact ⟨_,_,rfl⟩
 | take k j=>exact ⟨_,_,rfl⟩
 | get k j=>exact ⟨_,_,rfl⟩
theorem zd4 {a b:Bool} (c:a=true↔b=true):a=b:=by cases a<;>cases b<;>simp_all
theorem zgH (n:Nat) {p:Nat} {T:Tab} {d:Deed} (H:zcf h p X q) (kq:Q (.d (.bl (mayB T X d))) h) :
  Ok (zaf P (n+4) 11 [.d (tabD T),.loc p,.d (zal d)] h) Q:=by
 refine cl rfl rfl rfl ?_;obtain ⟨w,t,ed⟩:=zlk d;rw [ed];refine st zjO ?_;refine br (λc=>?_) (λc0=>?_)
 ·have c:=of_decide_eq_true c
  unfold mayB at kq;rw [if_neg (by omega)] at kq;exact f0 kq
 have c0:=of_decide_eq_false c0;refine st zjO ?_;refine st H.hall ?_;refine st H.ols ?_;refine br (λc=>?_) (λc1=>?_)
 ·have c:((zcl (p+1) X.ls.length).length:Int)<=d.k:=of_decide_eq_true c
  rw [zeh] at c;unfold mayB at kq;rw [if_pos (by omega),List.getElem?_eq_none (by omega)] at kq;exact f0 kq
 have c1:¬ ((zcl (p+1) X.ls.length).length:Int)<=d.k:=of_decide_eq_false c1;rw [zeh] at c1;obtain ⟨k,ek⟩:∃ k:Nat,d.k=k:=⟨d.k.toNat,by omega⟩
 have hk:k<X.ls.length:=by omega
 have el:X.ls[k]?=some X.ls[k]:=List.getElem?_eq_getElem hk;generalize X.ls[k]=l at el
 have em:mayB T X d=mayL T X l d:=by
  unfold mayB;rw [if_pos (by omega),ek,Int.toNat_natCast,el]
 rw [em] at kq;rw [<-ed]
 cases d with
 | ask k' ev x=>
  obtain rfl:k'=k:=ek
  have ed:∃ t,zal (.ask k ev x)=.tup (.str kask::.int k::.str ev::t):=by cases x<;>exact ⟨_,rfl⟩
  obtain ⟨t,ed⟩:=ed;rw [ed];refine st zfj ?_;refine st zp6 ?_
  have e5:([D.str [114,101,97,100],D.str [119,114,105,116,101],D.str [100,114,111,112]].any λy=>y.eqb (.str ev))=zmN ev:=by
   refine zd4 ?_;simp only [List.any_cons,List.any_nil,Bool.or_false,Bool.or_eq_true,zmN,D.eqb,beq_iff_eq]
   constructor<;>(rintro (h | h | h)<;>simp [h])
  refine br (λc=>?_) (λc=>?_)
  ·have c:=e5.symm.trans c
   refine ask (zlY n H el ?_);refine f0 ?_
   rw [zpk,show (!(ze5 T l.st ev).isNone)=(ze5 T l.st ev).isSome by cases ze5 T l.st ev<;>rfl]
   simp only [mayL] at kq;rw [c,Bool.true_and] at kq;exact kq
  ·have c:=e5.symm.trans c
   refine f0 ?_;simp only [mayL] at kq;rw [c,Bool.false_and] at kq;exact kq
 | take k' j=>
  obtain rfl:k'=k:=ek;refine br (λc=>?_) (λc2=>?_)
  ·have c:=of_decide_eq_true c
   refine f0 ?_;simp only [mayL] at kq;rw [decide_eq_false (by omega),Bool.false_and,Bool.false_and] at kq;exact kq
  have c2:=of_decide_eq_false c2;refine ask (zeG (n+2) H el ?_);ac_rfl;rw [List.length_map];refine br (λc=>?_) (λc3=>?_)
  ·have c:=of_decide_eq_true c
   have c:(l.to.length:Int)<=j:=c;refine f0 ?_;simp only [mayL] at kq;rw [decide_eq_false (by omega:¬ j<(l.to.length:Int)),Bool.and_false,Bool.false_and] at kq;exact kq
  have c3:¬ (l.to.length:Int)<=j:=of_decide_eq_false c3;obtain ⟨j,rfl⟩:∃ i:Nat,j=i:=⟨j.toNat,by omega⟩;have ej:l.to[j]?=some l.to[j]:=List.getElem?_eq_getElem (by omega);refine ask (zjK n H el ej ?_);refine ask (zfv (n+2) ?_);refine f0 ?_;rw [Bool.not_not];simp only [mayL,zfx] at kq;rw [decide_eq_true (by omega:(0:Int)<=j),decide_eq_true (by omega:(j:Int)<(l.to.length:Int)),Bool.true_and,Bool.true_and,Int.toNat_natCast,ej] at kq;exact kq
 | get k' j=>
  obtain rfl:k'=k:=ek;refine br (λc=>?_) (λc2=>?_)
  ·have c:=of_decide_eq_true c
   refine f0 ?_;simp only [mayL] at kq;rw [decide_eq_false (by omega),Bool.false_and,Bool.false_and] at kq;exact kq
  have c2:=of_decide_eq_false c2;refine ask (zeG (n+2) H el ?_);ac_rfl;rw [List.length_map];refine br (λc=>?_) (λc3=>?_)
  ·have c:=of_decide_eq_true c
   have c:(l.back.length:Int)<=j:=c;refine f0 ?_;simp only [mayL] at kq;rw [decide_eq_false (by omega:¬ j<(l.back.length:Int)),Bool.and_false,Bool.false_and] at kq;exact kq
  have c3:¬ (l.back.length:Int)<=j:=of_decide_eq_false c3;obtain ⟨j,rfl⟩:∃ i:Nat,j=i:=⟨j.toNat,by omega⟩;have ej:l.back[j]?=some l.back[j]:=List.getElem?_eq_getElem (by omega);refine ask (zmA n H el ej ?_);refine ask (zfv (n+2) ?_);refine f0 ?_;rw [Bool.not_not];simp only [mayL,zfx] at kq;rw [decide_eq_true (by omega:(0:Int)<=j),decide_eq_true (by omega:(j:Int)<(l.back.length:Int)),Bool.true_and,Bool.true_and,Int.toNat_natCast,ej] at kq;exact kq
variable {Q:R->Sto->Prop}
noncomputable def bad (w:Tx):D:=.tup [.str w]
noncomputable def load (ld:Tx) (v:Val):Val:=if ld=zbG then v else none
noncomputable def post (w:List Lt) (x:Lt):List Lt:=if 2<=w.length then w else w++[x]
noncomputable def pbrk (w:List Lt) (b:D):D:=if 2<=w.length then bad zoQ else b
theorem zfw (n:Nat) (kq:Q (.d (letD (m,load ld v))) h):Ok (zaf P (n+1) 10 [.d (.str m),.d (.str ld),.d (valD v)] h) Q:=by
 refine cl rfl rfl rfl ?_;refine br (λc=>?_) (λc=>?_)
 ·have c':ld=zbG:=eq_of_beq c
  unfold load at kq;rw [if_pos c'] at kq;exact f0 kq
 ·have c':¬ ld=zbG:=ne_of_beq_false c
  unfold load at kq;rw [if_neg c'] at kq;exact f0 kq
theorem zjn (n:Nat) {a b:Int×Int} (k:Q (.d (.bl (a.1==b.1))) h):Ok (zaf P (n+1) 8 [.d (prD a),.d (prD b)] h) Q:=by
 refine cl rfl rfl rfl ?_;exact f0 k
theorem zvG {w:List Lt} (hw:w.length<2) (x:Lt):fit ((w.map letD).length+[letD x].length)=true:=decide_eq_true (by unfold big;simp;omega)
theorem zff (n:Nat) {X:Hl} {w:List Lt} {x:Lt} (kq:Q (.d (wayD (post w x))) (h++halS h.length { X with brk:=pbrk w X.brk })):Ok (zaf P (n+1) 50 [.loc h.length,.d (wayD w),.d (letD x)] (h++halS h.length X)) Q:=by
 refine cl rfl rfl rfl ?_;ac_rfl;refine br (λc=>?_) (λc=>?_)
 ·have c':(2:Int)<=((w.map letD).length:Int):=of_decide_eq_true c
  have c':2<=w.length:=by simpa using (by exact_mod_cast c':2<=(w.map letD).length)
  refine st zaa.hall ⟨rfl,(by decide:6<900),?_⟩;unfold post pbrk at kq;rw [if_pos c',if_pos c'] at kq;refine zah.mpr ?_;have e:=zc5 (h:=h) (X:=X) (Y:={ X with brk:=bad zoQ }) rfl rfl;rw [<-e] at kq;exact kq
 ·have c':¬ (2:Int)<=((w.map letD).length:Int):=of_decide_eq_false c
  have c':¬ 2<=w.length:=by
   intro z;apply c';simp;omega
  have e:bop .add (wayD w) (.tup [letD x])=some (wayD (w++[x])):=by
   show (if fit ((w.map letD).length+[letD x].length) then some (D.tup (w.map letD++[letD x])) else none)=_;rw [if_pos (zvG (by omega) x)];unfold wayD;rw [List.map_append];rfl
  refine st e ?_;unfold post pbrk at kq;rw [if_neg c',if_neg c'] at kq;exact zah.mpr kq
noncomputable def znC (X:Hl) (k:Nat) (l:Ln) (m ld:Tx):Hl:={ X with ls:=X.ls.set k { l with back:=post l.back (m,load ld l.v) },brk:=pbrk l.back X.brk }
noncomputable def zkq (X:Hl) (k:Nat) (l:Ln) (x:Lt):Hl:={ X with ls:=X.ls.set k { l with to:=post l.to x },brk:=pbrk l.to X.brk }
theorem zcT {X:Hl} {p k:Nat} (hk:k<X.ls.length):at' (zcl (p+1) X.ls.length) (k:Int)=some (p+1+k):=by
 rw [zcz (by omega) (by omega),Int.toNat_natCast]
theorem zkv (n:Nat) {X:Hl} {k:Nat} {l:Ln} {m ld:Tx} (el:X.ls[k]?=some l) (kq:Q (.d .non) (h++halS h.length (znC X k l m ld))):Ok (zaf P (n+2) 48 [.loc h.length,.d (.int k),.d (.str m),.d (.str ld)] (h++halS h.length X)) Q:=by
 have hk:k<X.ls.length:=(List.getElem?_eq_some_iff.mp el).1;refine cl rfl rfl rfl ?_;refine st zaa.hall ?_;refine st zaa.ols ?_;refine st (zcT hk) ?_;refine st zaa.hall ⟨rfl,rfl,?_⟩;refine st (zaa.ln k l el) ?_;refine st (zaa.ln k l el) ?_;refine ask (zfw n ?_);refine ask (zff n ?_);ac_rfl;refine st ((zaa (h:=h) (X:={ X with brk:=pbrk l.back X.brk })).ln k l el) ⟨rfl,(by decide:6<900),?_⟩;refine zah.mpr ?_;have e:=zbT (h:=h) (X:={ X with brk:=pbrk l.back X.brk }) (l:={ l with back:=post l.back (m,load ld l.v) }) hk;rw [show h++halS h.length (znC X k l m ld)=_ from e.symm] at kq;exact kq
theorem zkN (n:Nat) {X:Hl} {k:Nat} {l:Ln} {m ld:Tx} (el:X.ls[k]?=some l) (kq:Q (.d .non) (h++halS h.length (zkq X k l (m,load ld X.sr)))):Ok (zaf P (n+2) 49 [.loc h.length,.d (.int k),.d (.str m),.d (.str ld)] (h++halS h.length X)) Q:=by
 have hk:k<X.ls.length:=(List.getElem?_eq_some_iff.mp el).1;refine cl rfl rfl rfl ?_;refine st zaa.hall ?_;refine st zaa.ols ?_;refine st (zcT hk) ?_;refine st zaa.hall ⟨rfl,rfl,?_⟩;refine st (zaa.ln k l el) ?_;refine st zaa.hall ?_;refine ask (zfw n ?_);refine ask (zff n ?_);ac_rfl;refine st ((zaa (h:=h) (X:={ X with brk:=pbrk l.to X.brk })).ln k l el) ⟨rfl,(by decide:6<900),?_⟩;refine zah.mpr ?_;have e:=zbT (h:=h) (X:={ X with brk:=pbrk l.to X.brk }) (l:={ l with to:=post l.to (m,load ld X.sr) }) hk;rw [show h++halS h.length (zkq X k l (m,load ld X.sr))=_ from e.symm] at kq;exact kq
noncomputable def putV (X:Hl) (k:Nat) (l:Ln):Hl:={ X with la:=(X.la.1+1,l.want),ls:=X.ls.set k { l with v:=some (X.la.1+1,l.want) },ans:=.tup [.str zsK,.int k,.int l.want] }
theorem zkW (n:Nat) {X:Hl} {k:Nat} {l:Ln} (el:X.ls[k]?=some l) (kq:Q (.d .non) (h++halS h.length (putV X k l))):Ok (zaf P (n+1) 46 [.loc h.length,.d (.int k)] (h++halS h.length X)) Q:=by
 have hk:k<X.ls.length:=(List.getElem?_eq_some_iff.mp el).1;refine cl rfl rfl rfl ?_;refine st zaa.hall ?_;refine st zaa.ols ?_;refine st (zcT hk) ?_;refine st zaa.hall ?_;refine st (zaa.ln k l el) ?_;refine st zaa.hall ⟨rfl,(by decide:6<900),?_⟩;have e1:=zc5 (h:=h) (X:=X) (Y:={ X with la:=(X.la.1+1,l.want) }) rfl rfl;rw [show putF ("last":PySem.Str) (R.d (.tup [.int (X.la.1+1),.int l.want])) (halF X (h.length+1+X.ls.length))=halF { X with la:=(X.la.1+1,l.want) } (h.length+1+X.ls.length) from rfl,e1];refine st zaa.hall ?_;ac_rfl;refine st ((zaa (h:=h) (X:={ X with la:=(X.la.1+1,l.want) })).ln k l el) ⟨rfl,(by decide:6<900),?_⟩;have e2:=zbT (h:=h) (X:={ X with la:=(X.la.1+1,l.want) }) (l:={ l with v:=some (X.la.1+1,l.want) }) hk;rw [show putF ("value":PySem.Str) (R.d (prD (X.la.1+1,l.want))) (opnF l)=opnF { l with v:=some (X.la.1+1,l.want) } from rfl,e2]
 have el2:({ X with la:=(X.la.1+1,l.want),ls:=X.ls.set k { l with v:=some (X.la.1+1,l.want) } }:Hl).ls[k]?=some { l with v:=some (X.la.1+1,l.want) }:=by
  show (X.ls.set k _)[k]?=_;rw [List.getElem?_set_self hk]
 refine st (zaa.ln k _ el2) ?_;refine st zaa.hall ⟨rfl,(by decide:6<900),?_⟩;have e3:=zc5 (h:=h) (X:={ X with la:=(X.la.1+1,l.want),ls:=X.ls.set k { l with v:=some (X.la.1+1,l.want) } }) (Y:=putV X k l) rfl rfl;refine zah.mpr ?_;rw [<-e3] at kq;exact kq
noncomputable def zeq (X:Hl) (k:Nat) (l:Ln):Hl:=match l.v with
 | none=>{ X with brk:=bad kold }
 | some p=>if p.1=X.la.1 then { X with ans:=.tup [.str zdi,.int k,.int p.2] } else { X with brk:=bad kold }
theorem zmX (n:Nat) {X:Hl} {k:Nat} {l:Ln} (el:X.ls[k]?=some l) (kq:Q (.d .non) (h++halS h.length (zeq X k l))):Ok (zaf P (n+2) 47 [.loc h.length,.d (.int k)] (h++halS h.length X)) Q:=by
 have hk:k<X.ls.length:=(List.getElem?_eq_some_iff.mp el).1;refine cl rfl rfl rfl ?_;refine st zaa.hall ?_;refine st zaa.ols ?_;refine st (zcT hk) ?_;refine st (zaa.ln k l el) ?_;have eb:=zc5 (h:=h) (X:=X) (Y:={ X with brk:=bad kold }) rfl rfl;obtain ⟨l1,v,l2,l3,l4,l5⟩:=l
 cases v with
 | none=>
  refine st zaa.hall ⟨rfl,(by decide:6<900),?_⟩;refine zah.mpr ?_;have kq:Q (.d .non) (h++halS h.length { X with brk:=bad kold }):=kq;rw [<-eb] at kq;exact kq
 | some p=>
  refine st (zaa.ln k _ el) ?_;refine st zaa.hall ?_;refine ask (zjn n ?_);refine br (λc=>?_) (λc=>?_)
  ·have c:(!(p.1==X.la.1))=true:=c
   have c':¬ p.1=X.la.1:=by simpa using c
   simp only [zeq,if_neg c'] at kq;refine st zaa.hall ⟨rfl,(by decide:6<900),?_⟩;refine zah.mpr ?_;rw [<-eb] at kq;exact kq
  ·have c:(!(p.1==X.la.1))=false:=c
   have c':p.1=X.la.1:=by simpa using c
   simp only [zeq,if_pos c'] at kq;refine st (zaa.ln k _ el) ?_;refine st zaa.hall ⟨rfl,(by decide:6<900),?_⟩;refine zah.mpr ?_;have ea:=zc5 (h:=h) (X:=X) (Y:={ X with ans:=.tup [.str zdi,.int k,.int p.2] }) rfl rfl;rw [<-ea] at kq;exact kq
noncomputable def doHA (X:Hl) (k:Nat) (l:Ln) (v:Val):HA->Hl
 | .keep=>{ X with ls:=X.ls.set k { l with v:=v } }
 | .lose=>{ X with ls:=X.ls.set k { l with v:=none } }
 | .put=>putV X k l
 | .tell=>zeq X k l
 | .send m ld=>znC X k l m ld
theorem znv (n:Nat) {X:Hl} {k:Nat} {l:Ln} {v:Val} {a:HA} (el:X.ls[k]?=some l) (kq:Q (.d .non) (h++halS h.length (doHA X k l v a))):Ok (zaf P (n+3) 21 [.loc h.length,.d (.int k),.d (valD v),.d (haD a)] (h++halS h.length X)) Q:=by
 have hk:k<X.ls.length:=(List.getElem?_eq_some_iff.mp el).1;refine cl rfl rfl rfl ?_;refine st zaa.hall ?_;refine st zaa.ols ?_;refine st (zcT hk) ?_
 cases a with
 | keep=>
  refine st (zaa.ln k l el) ⟨rfl,(by decide:6<900),?_⟩;refine zah.mpr ?_;rw [show h++halS h.length (doHA X k l v .keep)=_ from (zbT hk).symm] at kq;exact kq
 | lose=>
  refine st (zaa.ln k l el) ⟨rfl,(by decide:6<900),?_⟩;refine zah.mpr ?_;rw [show h++halS h.length (doHA X k l v .lose)=_ from (zbT hk).symm] at kq;exact kq
 | put=>
  refine st zaa.hall ⟨rfl,rfl,?_⟩;exact ask (zkW (n+1) el (zah.mpr kq))
 | tell=>
  refine st zaa.hall ⟨rfl,rfl,?_⟩;exact ask (zmX n el (zah.mpr kq))
 | send m ld=>
  refine st zaa.hall ⟨rfl,rfl,?_⟩;exact ask (zkv n el (zah.mpr kq))
theorem zeI {a:HA}:(doHA X k l v a).ls.length=X.ls.length:=by
 cases a with
 | tell=>
  show (zeq X k l).ls.length=_;unfold zeq
  split
  ·rfl
  ·split<;>rfl
 | _=>simp [doHA,putV,znC]
noncomputable def zb5 (k:Nat) (v:Val):List HA->Hl->Hl
 | [],X=>X
 | a::as,X=>match X.ls[k]? with
  | some l=>if zap (doHA X k l v a).brk then zb5 k v as (doHA X k l v a) else doHA X k l v a
  | none=>X
noncomputable def toSt (X:Hl) (k:Nat) (nx:Tx):Hl:=if zap X.brk then (match X.ls[k]? with
 | some l=>{ X with ls:=X.ls.set k { l with st:=nx } }
 | none=>X) else X
theorem zfz (n:Nat) {X:Hl} {k:Nat} {v:Val} {r:Row} {as:List HA} (hk:k<X.ls.length) (hb:zap X.brk=true) (er:r.acts=.hand as) (kq:Q (.d .non) (h++halS h.length (toSt (zb5 k v as X) k r.nx))):Ok (zaf P (n+4) 20 [.loc h.length,.d (.int k),.d (valD v),.d (rowD r)] (h++halS h.length X)) Q:=by
 refine cl rfl rfl rfl ?_;refine st (zd6 r) ?_;rw [er];refine ask ?_;show Ok (loop _ _ ((as.map haD).map dI) _ _) _;refine zgA (xs:=as.map haD) (λi σ h'=>∃ Y,h'=h++halS h.length Y/\zap Y.brk=true/\k<Y.ls.length/\zb5 k v as X=zb5 k v (as.drop i) Y/\∃ w,σ=[some (.loc h.length),some (.d (.int k)),some (.d (valD v)),some (.d (rowD r)),w,none]) ?_ ?_ ⟨X,rfl,hb,hk,rfl,none,rfl⟩
 ·rintro i a σ h' ha ⟨Y,rfl,hY,hkY,e,w,rfl⟩
  rw [List.getElem?_map,Option.map_eq_some_iff] at ha;obtain ⟨a,ha,rfl⟩:=ha;have hi:=(List.getElem?_eq_some_iff.mp ha).1
  have hd1:as.drop i=a::as.drop (i+1):=by
   rw [List.drop_eq_getElem_cons hi,(List.getElem?_eq_some_iff.mp ha).2]
  have el:Y.ls[k]?=some Y.ls[k]:=List.getElem?_eq_getElem hkY;generalize Y.ls[k]=l at el;rw [hd1] at e;simp only [zb5,el] at e;refine gb ?_;refine ask (znv n el ?_);refine st zaa.hall ?_;ac_rfl;refine br (λc=>?_) (λc=>?_)
  ·have c:(!zap (doHA Y k l v a).brk)=true:=c
   have c':¬ zap (doHA Y k l v a).brk=true:=by intro z;rw [z] at c;cases c
   rw [if_neg c'] at e;refine zah.mpr ?_;rw [e] at kq;unfold toSt at kq;rw [if_neg c'] at kq;exact kq
  ·have c:(!zap (doHA Y k l v a).brk)=false:=c
   have c':zap (doHA Y k l v a).brk=true:=by simpa using c
   rw [if_pos c'] at e
   exact ⟨rfl,_,rfl,c',by rw [zeI];exact hkY,e,_,rfl⟩
 ·rintro σ h' ⟨Y,rfl,hY,hkY,e,w,rfl⟩
  rw [List.length_map,List.drop_eq_nil_of_le (Nat.le_refl _)] at e;simp only [zb5] at e;rw [e] at kq;have el:Y.ls[k]?=some Y.ls[k]:=List.getElem?_eq_getElem hkY;generalize Y.ls[k]=l at el;unfold toSt at kq;rw [if_pos hY] at kq;simp only [el] at kq;refine st zaa.hall ?_;refine st zaa.ols ?_;refine st (zcT hkY) ?_;refine st (zpV r) ?_;ac_rfl;refine st (zaa.ln k l el) ⟨rfl,(by decide:6<900),?_⟩;refine zah.mpr ?_;rw [<-zbT hkY] at kq;exact kq
variable {Q:R->Sto->Prop}
noncomputable def recv (X:Hl) (k:Nat) (w:Nat):List Nat:=if w=0 then [k] else if w=1 then (zoR 2 X.ls).map (·.1.toNat) else (oth k X.ls).map (·.1.toNat)
theorem zns {ls:List Ln} {xs:List (Int×Ln)} (h:∀ x∈xs,x∈nums 0 ls):(xs.map (·.1.toNat)).map (λi:Nat=>D.int (i:Int))=xs.map λp=>D.int p.1:=by
 rw [List.map_map];refine List.map_congr_left λx hx=>?_
 have:=(zb7 (h x hx)).1
 show D.int ((x.1.toNat:Nat):Int)=D.int x.1;rw [Int.toNat_of_nonneg this]
theorem zfh {f:Nat} {ls:List Ln}:∀ x∈zoR f ls,x∈nums 0 ls:=λx hx=>(List.mem_filter.mp hx).1
theorem zlQ {ls:List Ln}:∀ x∈oth k ls,x∈nums 0 ls:=λx hx=>zfh x (List.mem_filter.mp hx).1
theorem zjd {w:Nat} (hk:k<X.ls.length):∀ i∈recv X k w,i<X.ls.length:=by
 intro i hi;unfold recv at hi
 split at hi
 ·simp at hi;omega
 ·split at hi
  ·obtain ⟨x,hx,rfl⟩:=List.mem_map.mp hi
   have:=zb7 (zfh x hx)
   omega
  ·obtain ⟨x,hx,rfl⟩:=List.mem_map.mp hi
   have:=zb7 (zlQ x hx)
   omega
theorem zlV (n:Nat) {X:Hl} {k w:Nat} (H:zcf h p X q) (kq:Q (.d (.lst ((recv X k w).map λi:Nat=>D.int (i:Int)))) h):Ok (zaf P (n+3) 25 [.loc p,.d (.int k),.d (.str (zo4 w))] h) Q:=by
 refine cl rfl rfl rfl ?_
 match w with
 | 0=>
  ac_rfl;exact f0 kq
 | 1=>
  ac_rfl;refine st H.hall ⟨rfl,rfl,?_⟩;refine ask (zcW (n+1) (f:=2) H ?_);unfold recv at kq;rw [if_neg (by decide),if_pos rfl,zns zfh] at kq;exact f0 kq
 | w+2=>
  ac_rfl;refine st H.hall ⟨rfl,rfl,?_⟩;refine ask (zeR n H ?_);unfold recv at kq;rw [if_neg (by omega),if_neg (by omega),zns zlQ] at kq;exact f0 kq
noncomputable def zav (x:Lt) (X:Hl) (i:Nat):Hl:=match X.ls[i]? with
 | some l=>zkq X i l x
 | none=>X
theorem zcL (x:Lt) (X:Hl) (i:Nat):(zav x X i).ls.length=X.ls.length:=by
 unfold zav zkq
 split
 ·simp
 ·rfl
noncomputable def zk7 (X:Hl) (k w:Nat) (m ld:Tx):Hl:=(recv X k w).foldl (zav (m,load ld X.sr)) X
theorem zdy (x:Lt):∀ (is:List Nat) (X:Hl),(is.foldl (zav x) X).ls.length=X.ls.length
 | [],X=>rfl
 | i::is,X=>by rw [List.foldl_cons,zdy x is,zcL]
theorem zeg (n:Nat) {X:Hl} {k w:Nat} {m ld:Tx} (hk:k<X.ls.length) (kq:Q (.d .non) (h++halS h.length (zk7 X k w m ld))):Ok (zaf P (n+4) 24 [.loc h.length,.d (.int k),.d (oaD (.send w m ld))] (h++halS h.length X)) Q:=by
 refine cl rfl rfl rfl ?_;refine ask (zlV n zaa ?_);refine ask ?_;show Ok (loop none _ (((recv X k w).map λi:Nat=>D.int (i:Int)).map dI) _ _) _;have hl:=zjd (w:=w) hk;unfold zk7 at kq;generalize recv X k w=is at hl kq ⊢;refine zgA (xs:=is.map λi:Nat=>D.int (i:Int)) (λi σ h'=>∃ Y,h'=h++halS h.length Y/\Y.sr=X.sr/\Y.ls.length=X.ls.length/\is.foldl (zav (m,load ld X.sr)) X=(is.drop i).foldl (zav (m,load ld X.sr)) Y/\∃ v,σ=[some (.loc h.length),some (.d (.int k)),some (.d (oaD (.send w m ld))),v]) ?_ ?_ ⟨X,rfl,rfl,rfl,rfl,none,rfl⟩
 ·rintro i a σ h' ha ⟨Y,rfl,hY,hkY,e,v,rfl⟩
  rw [List.getElem?_map,Option.map_eq_some_iff] at ha;obtain ⟨a,ha,rfl⟩:=ha;have hi:=(List.getElem?_eq_some_iff.mp ha).1
  have hd1:is.drop i=a::is.drop (i+1):=by
   rw [List.drop_eq_getElem_cons hi,(List.getElem?_eq_some_iff.mp ha).2]
  have hlt:=hl a (List.mem_of_getElem? ha);have el:Y.ls[a]?=some Y.ls[a]:=List.getElem?_eq_getElem (by omega);generalize Y.ls[a]=l at el;rw [hd1,List.foldl_cons] at e
  have es:zav (m,load ld X.sr) Y a=zkq Y a l (m,load ld Y.sr):=by
   unfold zav;rw [el,hY]
  refine gb ?_;refine st zaa.hall ⟨rfl,rfl,?_⟩;refine ask (zkN (n+1) (m:=m) (ld:=ld) el ?_);refine ⟨rfl,_,rfl,?_,?_,?_,_,rfl⟩
  ·exact hY
  ·rw [<-es,zcL];exact hkY
  ·rw [<-es];exact e
 ·rintro σ h' ⟨Y,rfl,hY,hkY,e,v,rfl⟩
  rw [List.length_map,List.drop_eq_nil_of_le (Nat.le_refl _)] at e;rw [e] at kq;exact zah.mpr kq
noncomputable def noF (l:Ln):Ln:={ l with fl:=0 }
noncomputable def forget (X:Hl):Hl:={ X with ls:=X.ls.map noF }
theorem zjp (n:Nat) {X:Hl} (kq:Q (.d .non) (h++halS h.length (forget X))):Ok (zaf P (n+1) 53 [.loc h.length] (h++halS h.length X)) Q:=by
 refine cl rfl rfl rfl ?_;refine st zaa.hall ?_;refine st zaa.ols ?_;refine ask ?_;refine zbj (g:=λl=>Ite.r (.loc l)) (xs:=zcl (h.length+1) X.ls.length) (λi σ h'=>∃ Y,h'=h++halS h.length { X with ls:=Y }/\Y=(X.ls.take i).map noF++X.ls.drop i/\∃ v,σ=[some (.loc h.length),v]) ?_ ?_ ⟨X.ls,rfl,rfl,none,rfl⟩
 ·rintro i a σ h' ha ⟨Y,rfl,eY,v,rfl⟩
  have hi:=(List.getElem?_eq_some_iff.mp ha).1;rw [zeh] at hi
  have ea:a=h.length+1+i:=by
   unfold zcl at ha;rw [List.getElem?_map,List.getElem?_range hi] at ha;cases ha;rfl
  subst ea
  have hlY:Y.length=X.ls.length:=by rw [eY];simp;omega
  have eX:X.ls[i]?=some X.ls[i]:=List.getElem?_eq_getElem hi;generalize X.ls[i]=l at eX
  have hm:((X.ls.take i).map noF).length=i:=by simp;omega
  have hd1:X.ls.drop i=l::X.ls.drop (i+1):=by
   rw [List.drop_eq_getElem_cons hi,(List.getElem?_eq_some_iff.mp eX).2]
  have el:Y[i]?=some l:=by
   rw [eY,List.getElem?_append_right (by omega),hm,Nat.sub_self,hd1];rfl
  refine gb ?_;refine st ((zaa (h:=h) (X:={ X with ls:=Y })).ln i l el) ⟨rfl,(by decide:6<900),?_⟩
  have e2:=zbT (h:=h) (X:={ X with ls:=Y }) (l:=noF l) (k:=i) (by show i<Y.length;omega)
  rw [show putF ("flags":PySem.Str) (R.d (.int 0)) (opnF l)=opnF (noF l) from rfl,e2];refine ⟨?_,Y.set i (noF l),rfl,?_,_,rfl⟩
  ·have h1:=(zaa (h:=h) (X:={ X with ls:=Y })).ols
   have h2:=(zaa (h:=h) (X:={ X with ls:=Y.set i (noF l) })).ols;simp only [List.length_set,hlY] at h1 h2;exact zdx h1 h2
  ·rw [eY,List.set_append_right _ _ (by omega),hm,Nat.sub_self,hd1,List.take_add_one,eX]
   simp
 ·rintro σ h' ⟨Y,rfl,eY,v,rfl⟩
  rw [zeh,List.take_length,List.drop_length,List.append_nil] at eY;subst eY;exact zah.mpr kq
noncomputable def doOA (X:Hl) (k:Nat) (l:Ln) (v:Val):OA->Hl
 | .keep=>{ X with sr:=v }
 | .own=>{ X with ls:=X.ls.set k { l with fl:=l.fl ||| 2 } }
 | .share=>{ X with ls:=X.ls.set k { l with fl:=l.fl ||| 1 } }
 | .forget=>{ X with ls:=X.ls.set k { l with fl:=0 } }
 | .clear=>forget X
 | .stay=>X
 | .send w m ld=>zk7 X k w m ld
theorem zeK {a:OA}:(doOA X k l v a).ls.length=X.ls.length:=by
 cases a with
 | send w m ld=>exact zdy _ _ _
 | _=>simp [doOA,forget]
theorem zm0 (n:Nat) {X:Hl} {k:Nat} {l:Ln} {v:Val} {a:OA} (el:X.ls[k]?=some l) (kq:Q (.d .non) (h++halS h.length (doOA X k l v a))):Ok (zaf P (n+5) 23 [.loc h.length,.d (.int k),.d (valD v),.d (oaD a)] (h++halS h.length X)) Q:=by
 have hk:k<X.ls.length:=(List.getElem?_eq_some_iff.mp el).1;refine cl rfl rfl rfl ?_;refine st zaa.hall ?_;refine st zaa.ols ?_;refine st (zcT hk) ?_
 cases a with
 | keep=>
  refine st zaa.hall ⟨rfl,(by decide:6<900),?_⟩;refine zah.mpr ?_;rw [show h++halS h.length (doOA X k l v .keep)=_ from (zc5 (X:=X) (Y:={ X with sr:=v }) rfl rfl).symm] at kq;exact kq
 | own=>
  refine st (zaa.ln k l el) ?_;ac_rfl;refine st (zaa.ln k l el) ⟨rfl,(by decide:6<900),?_⟩;refine zah.mpr ?_;rw [show h++halS h.length (doOA X k l v .own)=_ from (zbT hk).symm] at kq;exact kq
 | share=>
  refine st (zaa.ln k l el) ?_;ac_rfl;refine st (zaa.ln k l el) ⟨rfl,(by decide:6<900),?_⟩;refine zah.mpr ?_;rw [show h++halS h.length (doOA X k l v .share)=_ from (zbT hk).symm] at kq;exact kq
 | forget=>
  refine st (zaa.ln k l el) ⟨rfl,(by decide:6<900),?_⟩;refine zah.mpr ?_;rw [show h++halS h.length (doOA X k l v .forget)=_ from (zbT hk).symm] at kq;exact kq
 | clear=>
  refine st zaa.hall ⟨rfl,rfl,?_⟩;exact ask (zjp (n+3) (zah.mpr kq))
 | stay=>exact zah.mpr kq
 | send w m ld=>
  match w with
  | 0=>exact ask (zeg n hk (zah.mpr kq))
  | 1=>exact ask (zeg n hk (zah.mpr kq))
  | w+2=>exact ask (zeg n hk (zah.mpr kq))
noncomputable def zco (k:Nat) (v:Val):List OA->Hl->Hl
 | [],X=>X
 | a::as,X=>match X.ls[k]? with
  | some l=>if zap (doOA X k l v a).brk then zco k v as (doOA X k l v a) else doOA X k l v a
  | none=>X
noncomputable def toHs (X:Hl) (nx:Tx):Hl:=if zap X.brk then { X with s:=nx } else X
theorem zlL (n:Nat) {X:Hl} {k:Nat} {v:Val} {r:Row} {as:List OA} (hk:k<X.ls.length) (hb:zap X.brk=true) (er:r.acts=.house as) (kq:Q (.d .non) (h++halS h.length (toHs (zco k v as X) r.nx))):Ok (zaf P (n+6) 22 [.loc h.length,.d (.int k),.d (valD v),.d (rowD r)] (h++halS h.length X)) Q:=by
 refine cl rfl rfl rfl ?_;refine st (zd6 r) ?_;rw [er];refine ask ?_;show Ok (loop _ _ ((as.map oaD).map dI) _ _) _;refine zgA (xs:=as.map oaD) (λi σ h'=>∃ Y,h'=h++halS h.length Y/\zap Y.brk=true/\k<Y.ls.length/\zco k v as X=zco k v (as.drop i) Y/\∃ w,σ=[some (.loc h.length),some (.d (.int k)),some (.d (valD v)),some (.d (rowD r)),w]) ?_ ?_ ⟨X,rfl,hb,hk,rfl,none,rfl⟩
 ·rintro i a σ h' ha ⟨Y,rfl,hY,hkY,e,w,rfl⟩
  rw [List.getElem?_map,Option.map_eq_some_iff] at ha;obtain ⟨a,ha,rfl⟩:=ha;have hi:=(List.getElem?_eq_some_iff.mp ha).1
  have hd1:as.drop i=a::as.drop (i+1):=by
   rw [List.drop_eq_getElem_cons hi,(List.getElem?_eq_some_iff.mp ha).2]
  have el:Y.ls[k]?=some Y.ls[k]:=List.getElem?_eq_getElem hkY;generalize Y.ls[k]=l at el;rw [hd1] at e;simp only [zco,el] at e;refine gb ?_;refine ask (zm0 n el ?_);refine st zaa.hall ?_;ac_rfl;refine br (λc=>?_) (λc=>?_)
  ·have c:(!zap (doOA Y k l v a).brk)=true:=c
   have c':¬ zap (doOA Y k l v a).brk=true:=by intro z;rw [z] at c;cases c
   rw [if_neg c'] at e;refine zah.mpr ?_;rw [e] at kq;unfold toHs at kq;rw [if_neg c'] at kq;exact kq
  ·have c:(!zap (doOA Y k l v a).brk)=false:=c
   have c':zap (doOA Y k l v a).brk=true:=by simpa using c
   rw [if_pos c'] at e
   exact ⟨rfl,_,rfl,c',by rw [zeK];exact hkY,e,_,rfl⟩
 ·rintro σ h' ⟨Y,rfl,hY,hkY,e,w,rfl⟩
  rw [List.length_map,List.drop_eq_nil_of_le (Nat.le_refl _)] at e;simp only [zco] at e;rw [e] at kq;unfold toHs at kq;rw [if_pos hY] at kq;refine st (zpV r) ?_;ac_rfl;refine st zaa.hall ⟨rfl,(by decide:6<900),?_⟩;refine zah.mpr ?_;rw [show h++halS h.length { Y with s:=r.nx }=_ from (zc5 (X:=Y) (Y:={ Y with s:=r.nx }) rfl rfl).symm] at kq;exact kq
variable {Q:R->Sto->Prop}
theorem zeM {α:Type} {xs:List α} {n:Nat}:cut xs (some (n:Int)) none=xs.drop n:=by
 unfold cut sIx;simp only [if_neg (show ¬ (n:Int)<0 by omega),Int.toNat_natCast]
 rcases Nat.le_total n xs.length with k | k
 ·rw [Nat.min_eq_left k,List.take_of_length_le (by simp)]
 ·rw [Nat.min_eq_right k,List.drop_of_length_le (Nat.le_refl _),List.drop_of_length_le k]
  simp
noncomputable def wout (w:List Lt) (j:Nat):List Lt:=w.take j++w.drop (j+1)
theorem zex (n:Nat) {w:List Lt} {j:Nat} (hw:w.length<=100) (kq:Q (.d (wayD (wout w j))) h):Ok (zaf P (n+1) 19 [.d (wayD w),.d (.int j)] h) Q:=by
 refine cl rfl rfl rfl ?_
 have e3:bop .add (.tup (cut (w.map letD) none (some (j:Int)))) (.tup (cut (w.map letD) (some ((j:Int)+1)) none))=some (wayD (wout w j)):=by
  rw [cutN,show ((j:Int)+1)=((j+1:Nat):Int) by simp,zeM,<-List.map_take,<-List.map_drop]
  have hf:fit (((w.take j).map letD).length+((w.drop (j+1)).map letD).length)=true:=decide_eq_true (by unfold big;simp;omega)
  show (if fit (((w.take j).map letD).length+((w.drop (j+1)).map letD).length) then some (D.tup ((w.take j).map letD++(w.drop (j+1)).map letD)) else none)=_;rw [if_pos hf,<-List.map_append];rfl
 refine st e3 ?_;exact f0 kq
structure HlOk (X:Hl):Prop where
 ways:∀ l∈X.ls,l.to.length<=2/\l.back.length<=2
 few:X.ls.length<=10
noncomputable def zle (X:Hl) (k:Nat) (l:Ln) (ev:Tx) (x:Option Int) (as:List HA) (nx:Tx):Hl:=
 toSt (zb5 k none as (match x with
  | some n=>{ X with ls:=X.ls.set k { l with want:=n } }
  | none=>X)) k nx
theorem zpD (n:Nat) {X:Hl} {k:Nat} {l:Ln} {ev:Tx} {x:Option Int} {r:Row} {as:List HA} (el:X.ls[k]?=some l) (hb:zap X.brk=true) (hx:ev=zaC↔x.isSome=true) (er:r.acts=.hand as) (kq:Q (.d .non) (h++halS h.length (zle X k l ev x as r.nx))) :
  Ok (zaf P (n+5) 15 [.loc h.length,.d (zal (.ask k ev x)),.d (rowD r)] (h++halS h.length X)) Q:=by
 have hk:k<X.ls.length:=(List.getElem?_eq_some_iff.mp el).1;refine cl rfl rfl rfl ?_
 cases x with
 | none=>
  have hne:¬ ev=zaC:=λc=>by simpa using hx.mp c
  ac_rfl;refine bf (show (ev==zaC)=false by simpa using hne) ?_;exact ask (zfz n (v:=none) hk hb er (zah.mpr kq))
 | some x=>
  have he:ev=zaC:=hx.mpr rfl;subst he;ac_rfl;refine st zaa.hall ?_;refine st zaa.ols ?_;refine st (zcT hk) ?_;refine st (zaa.ln k l el) ⟨rfl,(by decide:6<900),?_⟩;rw [show putF ("want":PySem.Str) (R.d (.int x)) (opnF l)=opnF { l with want:=x } from rfl,zbT hk];exact ask (zfz n (v:=none) (X:={ X with ls:=X.ls.set k { l with want:=x } }) (by simpa using hk) hb er (zah.mpr kq))
noncomputable def zf7 (X:Hl) (k:Nat) (l:Ln) (j:Nat) (v:Val) (as:List HA) (nx:Tx):Hl:=
 toSt (zb5 k v as { X with ls:=X.ls.set k { l with to:=wout l.to j } }) k nx
theorem zno (n:Nat) {X:Hl} {k j:Nat} {l:Ln} {lt:Lt} {r:Row} {as:List HA} (el:X.ls[k]?=some l) (ej:l.to[j]?=some lt) (hw:l.to.length<=2) (hb:zap X.brk=true) (er:r.acts=.hand as) (kq:Q (.d .non) (h++halS h.length (zf7 X k l j lt.2 as r.nx))) :
  Ok (zaf P (n+5) 16 [.loc h.length,.d (zal (.take k j)),.d (rowD r)] (h++halS h.length X)) Q:=by
 have hk:k<X.ls.length:=(List.getElem?_eq_some_iff.mp el).1;refine cl rfl rfl rfl ?_;refine st zaa.hall ?_;refine st zaa.ols ?_;refine st (zcT hk) ?_;refine st (zaa.ln k l el) ?_;refine st (zgL ej) ?_;refine st (zaa.ln k l el) ?_;refine ask (zex (n+3) (by omega) ?_);ac_rfl;refine st (zaa.ln k l el) ⟨rfl,(by decide:6<900),?_⟩;rw [show putF ("to":PySem.Str) (R.d (wayD (wout l.to j))) (opnF l)=opnF { l with to:=wout l.to j } from rfl,zbT hk];exact ask (zfz n (v:=lt.2) (X:={ X with ls:=X.ls.set k { l with to:=wout l.to j } }) (by simpa using hk) hb er (zah.mpr kq))
noncomputable def zia (as:List OA):Bool:=as.any λa=>match a with
 | .stay=>true
 | _=>false
noncomputable def gotX (X:Hl) (k:Nat) (l:Ln) (j:Nat) (as:List OA):Hl:=if zia as then X else { X with ls:=X.ls.set k { l with back:=wout l.back j } }
theorem zot (as:List OA):((as.map oaD).any λy=>y.eqb (.tup [.str zmm]))=zia as:=by
 unfold zia;rw [List.any_map]
 congr 1
 funext a
 cases a with
 | send w m l=>
  show (D.eqb (.tup [.str (zo4 w),.str m,.str l]) (.tup [.str zmm]))=false;show ((_==_)&&false)=false;exact Bool.and_false _
 | _=>rfl
theorem zn8 (n:Nat) {X:Hl} {k j:Nat} {l:Ln} {lt:Lt} {r:Row} {as:List OA} (el:X.ls[k]?=some l) (ej:l.back[j]?=some lt) (hw:l.back.length<=2) (er:r.acts=.house as) (kq:Q (.d (valD lt.2)) (h++halS h.length (gotX X k l j as))) :
  Ok (zaf P (n+2) 18 [.loc h.length,.d (zal (.get k j)),.d (rowD r)] (h++halS h.length X)) Q:=by
 have hk:k<X.ls.length:=(List.getElem?_eq_some_iff.mp el).1;refine cl rfl rfl rfl ?_;refine st zaa.hall ?_;refine st zaa.ols ?_;refine st (zcT hk) ?_;refine st (zaa.ln k l el) ?_;refine st (zgL ej) ?_;refine st (zd6 r) ?_;rw [er];ac_rfl;unfold gotX at kq;have es:=zot as;refine br (λc=>?_) (λc=>?_)
 ·have c:(!(as.map oaD).any λy=>y.eqb (.tup [.str zmm]))=true:=c
  rw [es] at c
  have c':¬ zia as=true:=by intro z;rw [z] at c;cases c
  rw [if_neg c'] at kq;refine st (zaa.ln k l el) ?_;refine ask (zex n (by omega) ?_);ac_rfl;refine st (zaa.ln k l el) ⟨rfl,(by decide:6<900),?_⟩;refine zah.mpr ?_;rw [show h++halS h.length { X with ls:=X.ls.set k { l with back:=wout l.back j } }=_ from (zbT hk).symm] at kq;exact kq
 ·have c:(!(as.map oaD).any λy=>y.eqb (.tup [.str zmm]))=false:=c
  rw [es] at c
  have c':zia as=true:=by simpa using c
  rw [if_pos c'] at kq;exact zah.mpr kq
noncomputable def zla (X:Hl) (k:Nat) (l:Ln) (j:Nat) (v:Val) (as:List OA) (nx:Tx):Hl:=toHs (zco k v as (gotX X k l j as)) nx
theorem zlC {X:Hl}:(gotX X k l j as).ls.length=X.ls.length:=by
 unfold gotX
 split
 ·rfl
 ·simp
theorem zmb {X:Hl}:(gotX X k l j as).brk=X.brk:=by
 unfold gotX
 split<;>rfl
theorem zpt (n:Nat) {X:Hl} {k j:Nat} {l:Ln} {lt:Lt} {r:Row} {as:List OA} (el:X.ls[k]?=some l) (ej:l.back[j]?=some lt) (hw:l.back.length<=2) (hb:zap X.brk=true) (er:r.acts=.house as) (kq:Q (.d .non) (h++halS h.length (zla X k l j lt.2 as r.nx))) :
  Ok (zaf P (n+7) 17 [.loc h.length,.d (zal (.get k j)),.d (rowD r)] (h++halS h.length X)) Q:=by
 have hk:k<X.ls.length:=(List.getElem?_eq_some_iff.mp el).1;refine cl rfl rfl rfl ?_;refine ask (zn8 (n+4) el ej hw er ?_)
 exact ask (zlL n (v:=lt.2) (by rw [zlC];exact hk) (by rw [zmb];exact hb) er (zah.mpr kq))
noncomputable def rgt (zs:List (Tx×Tx)) (s:Tx):Tx:=match zs.find? (λp=>p.1==s) with
 | some p=>p.2
 | none=>zcr
theorem zkT (n:Nat) {T:Tab} (k:Q (.d (.str (rgt T.hands s))) h):Ok (zaf P (n+1) 0 [.d (tabD T),.d (.str s)] h) Q:=by
 refine cl rfl rfl rfl ?_;ac_rfl;rw [List.map_map];refine ask (zbj (g:=dI∘hnD) (xs:=T.hands) (λi σ h'=>h'=h/\rgt T.hands s=rgt (T.hands.drop i) s/\∃ v2 v3,σ=[some (R.d (tabD T)),some (R.d (.str s)),v2,v3]) ?_ ?_ ⟨rfl,rfl,none,none,rfl⟩)
 ·rintro i p σ h' hx ⟨rfl,hf,v2,v3,rfl⟩
  have hi:=(List.getElem?_eq_some_iff.mp hx).1
  have hd1:T.hands.drop i=p::T.hands.drop (i+1):=by
   rw [List.drop_eq_getElem_cons hi,(List.getElem?_eq_some_iff.mp hx).2]
  rw [hd1] at hf;refine gb ?_;refine br (λc=>?_) (λc=>?_)
  ·have c:(p.1==s)=true:=c
   have e:rgt T.hands s=p.2:=by rw [hf];unfold rgt;rw [List.find?_cons_of_pos (by exact c)]
   rw [e] at k;exact f0 k
  ·have c:(p.1==s)=false:=c
   have e:rgt T.hands s=rgt (T.hands.drop (i+1)) s:=by rw [hf];unfold rgt;rw [List.find?_cons_of_neg (by rw [c];simp)]
   exact ⟨rfl,rfl,e,_,_,rfl⟩
 ·rintro σ h' ⟨rfl,hf,v2,v3,rfl⟩
  rw [List.drop_eq_nil_of_le (Nat.le_refl _)] at hf;rw [hf] at k;exact f0 k
noncomputable def clB (T:Tab) (ls:List Ln):Bool:=(ls.any λl=>rgt T.hands l.st==zaC)&&decide (1<(ls.length:Int)-(ls.countP λl=>rgt T.hands l.st==zcr:Nat))
theorem ziF {α β:Type} {g:α->β}:∀ xs:List α,xs.filterMap (λx=>some (g x))=xs.map g
 | []=>rfl
 | x::xs=>by rw [List.filterMap_cons,ziF xs];rfl
theorem zdt {α:Type} {l:Option Nat} {dD:α->D} {g:α->D} {xs:List α} {Q:List D->Sto->Prop} (e:∀ x∈xs,Ok (f (dI (dD x)) h) λo h1=>o=some (g x)/\h1=h) (s:zaE l h h=true) (q:Q (xs.map g) h):Ok (zbd l f ((xs.map dD).map dI) h) Q:=by
 rw [List.map_map];refine zcd (d:=dI∘dD) (g:=λx=>some (g x)) e s ?_;rw [ziF];exact q
theorem zkC (n:Nat) {T:Tab} {ls:List Ln} (k:Q (.d (.bl (clB T ls))) h):Ok (zaf P (n+2) 6 [.d (tabD T),.d (stdD s v u ls)] h) Q:=by
 refine cl rfl rfl rfl ?_;refine ask (zdt (dD:=lnD) (g:=λl=>D.str (rgt T.hands l.st)) (λl hl=>?_) zbl ?_)
 ·refine gc ?_
  refine ask (zkT n ?_);exact ⟨rfl,rfl⟩
 ·have e1:((ls.map λl=>D.str (rgt T.hands l.st)).any λy=>y.eqb (.str zaC))=ls.any λl=>rgt T.hands l.st==zaC:=by rw [List.any_map];rfl
  have e2:((ls.map λl=>D.str (rgt T.hands l.st)).countP λy=>y.eqb (.str zcr))=ls.countP λl=>rgt T.hands l.st==zcr:=by rw [List.countP_map];rfl
  refine br (λc=>?_) (λc=>?_)
  ·have c:=e1.symm.trans c
   ac_rfl;rw [e2,List.length_map];refine f0 ?_;unfold clB at k;rw [c,Bool.true_and] at k;exact k
  ·have c:=e1.symm.trans c
   refine f0 ?_;unfold clB at k;rw [c,Bool.false_and] at k;exact k
noncomputable def stdH (X:Hl):D:=stdD X.s X.sr X.la X.ls
theorem zkz (n:Nat) {l:Ln} {p:Nat} (e:h[p]?=some (.ins "OpenLine" (opnF l))) (kq:Q (.d (lnD l)) h):Ok (zaf P (n+1) 43 [.loc p] h) Q:=by
 refine cl rfl rfl rfl ?_;refine st e ?_;refine st e ?_;refine st e ?_;refine st e ?_;refine st e ?_;refine st e ?_;exact f0 kq
theorem zgi (n:Nat) {X:Hl} (H:zcf h p X q) (kq:Q (.d (stdH X)) h):Ok (zaf P (n+2) 45 [.loc p] h) Q:=by
 refine cl rfl rfl rfl ?_;refine st H.hall ?_;refine st H.ols ?_;refine ask ?_;refine zfm (g:=λl=>Ite.r (.loc l)) (xs:=zcl (p+1) X.ls.length) (λi ys h'=>h'=h/\ys=(X.ls.take i).map lnD) ?_ ?_ ⟨rfl,rfl⟩
 ·rintro i a ys h' ha ⟨rfl,rfl⟩
  have hi:=(List.getElem?_eq_some_iff.mp ha).1;rw [zeh] at hi
  have ea:a=p+1+i:=by
   unfold zcl at ha;rw [List.getElem?_map,List.getElem?_range hi] at ha;cases ha;rfl
  subst ea;have eX:X.ls[i]?=some X.ls[i]:=List.getElem?_eq_getElem hi;generalize X.ls[i]=l at eX;refine gc ?_;refine st (H.ln i l eX) ⟨rfl,rfl,?_⟩;refine ask (zkz n (H.ln i l eX) ?_);refine ⟨zdx H.ols H.ols,rfl,?_⟩;rw [List.take_add_one,eX];simp
 ·rintro ys h' ⟨rfl,rfl⟩
  rw [zeh,List.take_length];refine st H.hall ?_;refine st H.hall ?_;refine st H.hall ?_;exact f0 kq
variable {Q:R->Sto->Prop}
theorem zo8 {r:Row} {x:Tx} {t:List D} (e:zge (.str x::t) (rowD r)=true):r.k=x:=by
 have e:(D.eqb (.str r.k) (.str x)&&_)=true:=e;rw [Bool.and_eq_true] at e;exact eq_of_beq (show (r.k==x)=true from e.1)
theorem zj1 {T:Tab} {x:Tx} {t:List D} (e:zcY T.rows (.str x::t)=some r):r.k=x:=zo8 (List.find?_some (p:=λr=>zge (.str x::t) (rowD r)) e)
theorem hand_row {T:Tab} {s w:Tx} (O:T.Ok) (e:ze5 T s w=some r):∃ as,r.acts=.hand as:=
 (O.rows r (List.mem_of_find?_eq_some e)).hand (zj1 e)
theorem house_row {T:Tab} {s m:Tx} {last:Bool} (O:T.Ok) (e:zey T s m last=some r) (g:goes (some r)=true):∃ as,r.acts=.house as:=by
 have hr:r.acts=.wait\/∃ as,r.acts=.house as:=by
  unfold zey at e
  rcases Option.or_eq_some_iff.mp e with e | ⟨_,e⟩<;>exact (O.rows r (List.mem_of_find?_eq_some e)).house (zj1 e)
 rcases hr with h | h
 ·have g:(!zgh r.acts)=true:=g
  rw [h] at g;cases g
 ·exact h
noncomputable def zbD (X:Hl) (l:Ln) (r:Row):Deed->Hl
 | .ask k ev x=>match r.acts with
  | .hand as=>zle X k.toNat l ev x as r.nx
  | _=>X
 | .take k j=>match r.acts with
  | .hand as=>zf7 X k.toNat l j.toNat (match l.to[j.toNat]? with | some lt=>lt.2 | none=>none) as r.nx
  | _=>X
 | .get k j=>match r.acts with
  | .house as=>zla X k.toNat l j.toNat (match l.back[j.toNat]? with | some lt=>lt.2 | none=>none) as r.nx
  | _=>X
noncomputable def zbM (T:Tab) (Y:Hl):Hl:=if zap Y.brk&&clB T Y.ls then { Y with brk:=bad znG } else Y
noncomputable def zbv (T:Tab) (X:Hl) (d:Deed):Hl:=match X.ls[d.k.toNat]? with
 | none=>X
 | some l=>match zfx T X l d with
  | none=>{ X with brk:=bad zma }
  | some r=>zbM T (zbD X l r d)
noncomputable def Deed.Ok:Deed->Prop
 | .ask _ ev x=>ev=zaC↔x.isSome=true
 | _=>True
theorem zfa {T:Tab} {X Y:Hl} {n:Nat} {d:D} {r:D} (kq:Q (.d .non) (h++halS h.length (zbM T Y))) :
  wSs (zaf P (n+3)) [.ife (.and (.val (.cmp .isN (.fld (.var 1) "broken") (.con .non))) (.val (.call 6 [(.var 0),(.mc "Hall" "as_tuple" 45 (.var 1) [])]))) [.setF (.var 1) "broken" (.tup [(.con (.str [99,108,97,115,104]))])] []]
   [some (.d (tabD T)),some (.loc h.length),some (.d d),some (.d r)] (h++halS h.length Y) (kF (h++halS h.length X) true false Q):=by
 refine st zaa.hall ?_;ac_rfl;unfold zbM at kq;refine br (λc=>?_) (λc=>?_)
 ·have c:zap Y.brk=true:=c
  rw [c,Bool.true_and] at kq;refine st zaa.hall ⟨rfl,rfl,?_⟩;refine ask (zgi (n+1) zaa ?_);refine ask (zkC (n+1) ?_);refine br (λc2=>?_) (λc2=>?_)
  ·rw [if_pos c2] at kq
   refine st zaa.hall ⟨rfl,(by decide:6<900),?_⟩;refine zah.mpr ?_;rw [show h++halS h.length { Y with brk:=bad znG }=_ from (zc5 (X:=Y) (Y:={ Y with brk:=bad znG }) rfl rfl).symm] at kq;exact kq
  ·rw [if_neg (by rw [c2];decide)] at kq
   exact zah.mpr kq
 ·have c:zap Y.brk=false:=c
  rw [c,Bool.false_and,if_neg (by decide)] at kq;exact zah.mpr kq
theorem zlv (n:Nat) {T:Tab} {X:Hl} {d:Deed} (O:T.Ok) (hX:HlOk X) (hb:zap X.brk=true) (hd:d.Ok) (hm:mayB T X d=true) (kq:Q (.d .non) (h++halS h.length (zbv T X d))) :
  Ok (zaf P (n+8) 14 [.d (tabD T),.loc h.length,.d (zal d)] (h++halS h.length X)) Q:=by
 unfold mayB at hm
 split at hm
 case isFalse=>cases hm
 rename_i hk0
 split at hm
 case h_2=>cases hm
 rename_i l el;have hw:=hX.ways l (List.mem_of_getElem? el);have hk:d.k.toNat<X.ls.length:=(List.getElem?_eq_some_iff.mp el).1;obtain ⟨k,ek⟩:∃ k:Nat,d.k=k:=⟨d.k.toNat,by omega⟩;unfold zbv at kq;rw [el] at kq;simp only at kq;refine cl rfl rfl rfl ?_
 cases d with
 | ask k' ev x=>
  obtain rfl:k'=k:=ek;rw [show (Deed.ask (k:Int) ev x).k.toNat=k from rfl] at el;simp only [mayL,Bool.and_eq_true] at hm;simp only [zfx] at kq;obtain ⟨r,er⟩:=Option.isSome_iff_exists.mp hm.2;rw [er] at kq;obtain ⟨as,ea⟩:=hand_row O er;simp only [zbD,ea,Int.toNat_natCast] at kq
  have ed:∃ t,zal (.ask k ev x)=.tup (.str kask::.int k::.str ev::t):=by cases x<;>exact ⟨_,rfl⟩
  have hd:ev=zaC↔x.isSome=true:=hd;obtain ⟨t,ed⟩:=ed;rw [ed];refine ask (zlY (n+4) zaa el ?_);rw [er];refine st zfj ?_;rw [<-ed];refine ask (zpD (n+2) el hb hd ea ?_);exact zfa (n:=n+4) kq
 | take k' j=>
  obtain rfl:k'=k:=ek;rw [show (Deed.take (k:Int) j).k.toNat=k from rfl] at el;simp only [mayL,Bool.and_eq_true,decide_eq_true_eq] at hm;obtain ⟨j,rfl⟩:∃ i:Nat,j=i:=⟨j.toNat,by omega⟩;have ej:l.to[j]?=some l.to[j]:=List.getElem?_eq_getElem (by omega);generalize l.to[j]=lt at ej;simp only [zfx,Int.toNat_natCast,ej] at kq hm;refine ask (zjK (n+4) zaa el ej ?_)
  cases er:ze5 T l.st lt.1 with
  | none=>
   rw [er] at kq;refine st zaa.hall ⟨rfl,(by decide:6<900),?_⟩;refine zah.mpr ?_;have e:=zc5 (h:=h) (X:=X) (Y:={ X with brk:=bad zma }) rfl rfl;simp only at kq;rw [<-e] at kq;exact kq
  | some r=>
   rw [er] at kq;obtain ⟨as,ea⟩:=hand_row O er;simp only [zbD,ea,Int.toNat_natCast,ej] at kq;refine ask (zno (n+2) el ej hw.1 hb ea ?_);exact zfa (n:=n+4) kq
 | get k' j=>
  obtain rfl:k'=k:=ek;rw [show (Deed.get (k:Int) j).k.toNat=k from rfl] at el;simp only [mayL,Bool.and_eq_true,decide_eq_true_eq] at hm;obtain ⟨j,rfl⟩:∃ i:Nat,j=i:=⟨j.toNat,by omega⟩;have ej:l.back[j]?=some l.back[j]:=List.getElem?_eq_getElem (by omega);generalize l.back[j]=lt at ej;simp only [zfx,Int.toNat_natCast,ej] at kq hm;refine ask (zmA (n+4) zaa el ej ?_)
  cases er:zey T X.s lt.1 (oth k X.ls).isEmpty with
  | none=>
   rw [er] at kq;refine st zaa.hall ⟨rfl,(by decide:6<900),?_⟩;refine zah.mpr ?_;have e:=zc5 (h:=h) (X:=X) (Y:={ X with brk:=bad zma }) rfl rfl;simp only at kq;rw [<-e] at kq;exact kq
  | some r=>
   rw [er] at kq hm;obtain ⟨as,ea⟩:=house_row O er hm.2;simp only [zbD,ea,Int.toNat_natCast,ej] at kq;refine ask (zpt n el ej hw.2 hb ea ?_);exact zfa (n:=n+4) kq
structure Sd where
 s:Tx
 sr:Val
 la:Int×Int
 ls:List Ln
noncomputable def sdD (S:Sd):D:=stdD S.s S.sr S.la S.ls
noncomputable def hlOf (S:Sd):Hl:=⟨S.s,S.sr,S.la,S.ls,.non,.non⟩
noncomputable def sdOf (X:Hl):Sd:=⟨X.s,X.sr,X.la,X.ls⟩
noncomputable def may1 (T:Tab) (S:Sd) (d:Deed):Bool:=mayB T (hlOf S) d
noncomputable def zaw (T:Tab) (S:Sd) (d:Deed):Hl:=zbv T (hlOf S) d
noncomputable def znA (T:Tab) (S:Sd) (d:Deed):D:=if zap (zaw T S d).brk then .tup [sdD (sdOf (zaw T S d)),(zaw T S d).ans,.non] else .tup [sdD S,.non,(zaw T S d).brk]
theorem zfG (n:Nat) {T:Tab} {S:Sd} {d:Deed} (O:T.Ok) (hS:HlOk (hlOf S)) (hd:d.Ok) (hm:may1 T S d=true) (kq:Q (.d (znA T S d)) h) :
  Ok (zaf P (n+9) 29 [.d (tabD T),.d (sdD S),.d (zal d)] h) Q:=by
 refine cl rfl rfl rfl ?_;refine ask (zfH (n+6) ⟨rfl,?_⟩);refine ask (zgH (n+4) (X:=hlOf S) zaa ?_);have hm:mayB T (hlOf S) d=true:=hm;rw [hm];refine ask (zlv n O hS rfl hd hm ?_);refine st zaa.hall ?_;ac_rfl;unfold znA zaw at kq;refine br (λc=>?_) (λc=>?_)
 ·have c:(!zap (zbv T (hlOf S) d).brk)=true:=c
  rw [if_neg (by intro z;rw [z] at c;cases c)] at kq
  refine st zaa.hall ?_;exact fa kq
 ·have c:(!zap (zbv T (hlOf S) d).brk)=false:=c
  rw [if_pos (by simpa using c)] at kq;refine st zaa.hall ⟨rfl,rfl,?_⟩;refine ask (zgi (n+6) zaa ?_);refine st zaa.hall ?_;exact fa kq
theorem zoK:P.length<=1000:=by decide
theorem zte (n:Nat) {T:Tab} {S:Sd} {d:Deed} (hm:may1 T S d=false) (kq:Q (.d (.int 0)) h) :
  Ok (zaf P (n+9) (xof 29) [.d (tabD T),.d (sdD S),.d (zal d)] h) Q:=by
 refine clX zoK rfl rfl rfl ?_;refine x_nx ?_;refine ask (zfH (n+6) ⟨rfl,?_⟩);refine x_if ?_;refine ask (zgH (n+4) (X:=hlOf S) zaa ?_);have hm:mayB T (hlOf S) d=false:=hm;rw [hm];refine ⟨rfl,?_⟩;exact fa kq
variable {Q:R->Sto->Prop}
theorem zb3 (m:Nat):za6 0 m=(List.range m).map λi:Nat=>D.int (i:Int):=by
 have gen:∀ m (a:Nat),za6 (a:Int) m=(List.range' a m).map λi:Nat=>D.int (i:Int):=by
  intro m
  induction m with
  | zero=>intro a;rfl
  | succ m ih=>
   intro a
   have:=ih (a+1)
   push_cast at this
   rw [za6,this,List.range'_succ];rfl
 rw [List.range_eq_range'];exact gen m 0
theorem zmD (n:Nat) {k:Int} (kq:Q (.d (.lst [zal (.ask k zdi none),zal (.ask k zaC (some 0)),zal (.ask k zeP none)])) h):Ok (zaf P (n+1) 27 [.d (.int k)] h) Q:=by
 refine cl rfl rfl rfl ?_;exact f0 kq
noncomputable def tk (o:Bool) (w:List Lt):List Lt:=if o then w.take 1 else w
theorem zmo (o:Bool) (w:List Lt):(tk o w).length<=w.length:=by
 unfold tk
 split
 ·rw [List.length_take];omega
 ·omega
theorem ziX (n:Nat) {o:Bool} {l:List Lt} (kq:Q (.d (wayD (tk o l))) h):Ok (zaf P (n+1) 9 [.d (wayD l),.d (.bl o)] h) Q:=by
 refine cl rfl rfl rfl ?_
 cases o with
 | true=>
  refine f0 ?_;show Q (.d (.tup (cut (l.map letD) none (some ((1:Nat):Int))))) h;rw [cutN,<-List.map_take];exact kq
 | false=>exact f0 kq
theorem zev (n:Nat) {h:Sto} {w:Tx} {k:Int} {o:Bool} {l:List Lt} (hs:l.length<=2) (kq:Q (.d (.lst ((List.range (tk o l).length).map λj:Nat=>D.tup [.str w,.int k,.int j]))) h):Ok (zaf P (n+2) 28 [.d (.str w),.d (.int k),.d (wayD l),.d (.bl o)] h) Q:=by
 refine cl rfl rfl rfl ?_;refine ask (ziX n ?_);ac_rfl;have hl:=zmo o l;rw [List.length_map];refine ⟨⟨by omega,by omega⟩,?_⟩;rw [Int.toNat_natCast,zb3];refine ask (zdt (dD:=λj:Nat=>D.int (j:Int)) (g:=λj:Nat=>D.tup [.str w,.int k,.int j]) (λj hj=>?_) zbl (f0 kq));refine gc ?_;exact ⟨rfl,rfl⟩
inductive Dr:D->Prop
 | mk (d:Deed) (o:d.Ok):Dr (zal d)
theorem fit7 (hi:i<=10) (h1:a<=7*i+5) (h2:b<=3):fit (a+b)=true:=decide_eq_true (by unfold big;omega)
theorem znP (n:Nat) {T:Tab} {S:Sd} {o:Bool} {h:Sto} (hS:HlOk (hlOf S)) (kq:∀ ds:List D,(∀ x∈ds,∃ d:Deed,x=zal d/\d.Ok/\may1 T S d=true)->Q (.d (.lst ds)) h) :
    Ok (zaf P (n+5) 26 [.d (tabD T),.d (sdD S),.d (.bl o)] h) Q:=by
  refine cd rfl rfl rfl ?_;refine ask (zfH (n+2) ⟨rfl,?_⟩);have HB:∀ t,zcf (h++halS h.length (hlOf S)++t) h.length (hlOf S) (h.length+1+S.ls.length):=λt=>zj8
  have hlen:h.length<=(h++halS h.length (hlOf S)).length:=by simp
  have hsub:∀ Q':Sto->Prop,True:=λ_=>trivial;obtain ⟨B,hB⟩:∃ B,B=h++halS h.length (hlOf S):=⟨_,rfl⟩
  have hBf:∀ t (x:D),Q (.d x) h->Ok (fin h false false (.d x) (B++t)) Q:=λt x q=>by
    rw [hB,List.append_assoc];exact fa q
  show wSs _ _ _ (h++halS h.length (hlOf S)) _;rw [<-hB] at HB hlen ⊢;refine st (HB [.lst []]).hall ?_;refine st (HB [.lst []]).ols ?_;refine st zlB ?_;refine ask ?_;refine zbj (λi σ h'=>i<=S.ls.length/\∃ ds,h'=B++[.lst ds]/\ds.length<=7*i/\(∀ x∈ds,Dr x)/\∃ v5 v6,σ=[some (R.d (tabD T)),some (R.d (sdD S)),some (R.d (D.bl o)),some (R.loc h.length),some (R.loc B.length),v5,v6,none]) ?_ ?_ ⟨by omega,[],rfl,by simp,by simp,none,none,rfl⟩
  · rintro i z σ h' hz ⟨hi,ds,rfl,hl,hd,v5,v6,rfl⟩
    obtain ⟨z1,z2⟩:=ziw S.ls 0 i z hz;have hi2:i<S.ls.length:=(List.getElem?_eq_some_iff.mp z2).1;have hm:=hS.ways _ (List.mem_of_getElem? z2);have hfew:S.ls.length<=10:=hS.few
    have ez:z.1.toNat=i:=by omega
    have hl':∀ t,(B++[Ob.lst t])[h.length+1+z.1.toNat]?=some (.ins "OpenLine" (opnF z.2)):=λt=>by rw [ez];exact (HB _).ln i z.2 z2
    have t1:=zmo o z.2.to;have t2:=zmo o z.2.back;refine gb ?_;refine st zad ?_;refine ask (zmD (n+3) ?_);refine st zad ⟨fit7 (i:=i) (by omega) (by omega) (by simp),?_⟩;rw [zai];refine st zad ?_;refine st (hl' _) ?_;refine ask (zev (n+2) hm.1 ?_)
    refine st zad ⟨fit7 (i:=i) (by omega) (by simp;omega) (by simp;omega),?_⟩
    rw [zai];refine st zad ?_;refine st (hl' _) ?_;refine ask (zev (n+2) hm.2 ?_)
    refine st zad ⟨fit7 (i:=i) (by omega) (by simp;omega) (by simp;omega),?_⟩
    rw [zai];refine ⟨zdx (HB _).ols (HB _).ols,by omega,_,rfl,?_,?_,_,_,rfl⟩
    · simp
      omega
    · intro x hx
      simp only [List.mem_append,List.mem_map,List.mem_cons,List.not_mem_nil,or_false] at hx
      rcases hx with ((hx | (rfl | rfl | rfl)) | ⟨j,_,rfl⟩) | ⟨j,_,rfl⟩
      · exact hd x hx
      · exact .mk (.ask z.1 zdi none) (by show zdi=zaC↔_;decide)
      · exact .mk (.ask z.1 zaC (some 0)) (by show zaC=zaC↔_;simp)
      · exact .mk (.ask z.1 zeP none) (by show zeP=zaC↔_;decide)
      · exact .mk (.take z.1 j) trivial
      · exact .mk (.get z.1 j) trivial
  · rintro σ h' ⟨hi,ds,rfl,hl,hd,v5,v6,rfl⟩
    refine st zad ?_;refine ask ?_;refine zjY (xs:=ds) (λi ys h'=>h'=B++[.lst ds]/\∀ x∈ys,∃ d:Deed,x=zal d/\d.Ok/\may1 T S d=true) ?_ ?_ ⟨rfl,by simp⟩
    · rintro i x ys h' hx ⟨rfl,hy⟩
      cases hd x (List.mem_of_getElem? hx) with
      | mk d ok=>
      refine gc ?_;refine ask (zgH n (HB _) ?_);refine br (λc=>?_) (λc=>?_)
      · ac_rfl
        refine ⟨zf8 zad,rfl,λy hy'=>?_⟩
        rcases List.mem_append.mp hy' with z | z
        · exact hy y z
        · rw [List.mem_singleton.mp z]
          exact ⟨d,rfl,ok,c⟩
      · ac_rfl
        exact ⟨zf8 zad,rfl,hy⟩
    · rintro ys h' ⟨rfl,hy⟩
      exact hBf _ _ (kq ys hy)
variable {Q:R->Sto->Prop}
noncomputable def LnOk (l:Ln):Prop:=l.to.length<=2/\l.back.length<=2
noncomputable def LsOk (ls:List Ln):Prop:=∀ l∈ls,LnOk l
theorem LsOk.set {ls:List Ln} (h:LsOk ls) (hl:LnOk l):LsOk (ls.set k l):=λx hx=>by
 rcases List.mem_or_eq_of_mem_set hx with z | rfl
 ·exact h x z
 ·exact hl
theorem zj6 (h:w.length<=2):(post w x).length<=2:=by
 unfold post
 split
 ·exact h
 ·simp;omega
theorem ztc {a:HA} (h:LsOk X.ls) (el:X.ls[k]?=some l):LsOk (doHA X k l v a).ls:=by
 have hl:=h l (List.mem_of_getElem? el)
 cases a with
 | keep=>exact h.set hl
 | lose=>exact h.set hl
 | put=>exact h.set hl
 | tell=>
  show LsOk (zeq X k l).ls;unfold zeq
  split
  ·exact h
  ·split<;>exact h
 | send m ld=>exact h.set ⟨hl.1,zj6 hl.2⟩
theorem zj5:∀ {as:List HA} {X:Hl},LsOk X.ls->LsOk (zb5 k v as X).ls
 | [],X,h=>h
 | a::as,X,h=>by
  unfold zb5
  split
  ·rename_i l el
   split
   ·exact zj5 (ztc h el)
   ·exact ztc h el
  ·exact h
theorem zd3:∀ {as:List HA} {X:Hl},(zb5 k v as X).ls.length=X.ls.length
 | [],X=>rfl
 | a::as,X=>by
  unfold zb5
  split
  ·rename_i l el
   split
   ·rw [zd3,zeI]
   ·rw [zeI]
  ·rfl
theorem zi1 (h:LsOk X.ls):LsOk (toSt X k nx).ls:=by
 unfold toSt
 split
 ·split
  ·rename_i l el
   exact h.set (h l (List.mem_of_getElem? el))
  ·exact h
 ·exact h
theorem zjE:(toSt X k nx).ls.length=X.ls.length:=by
 unfold toSt
 split
 ·split
  ·simp
  ·rfl
 ·rfl
theorem znj (h:LsOk X.ls):LsOk (zav x X i).ls:=by
 unfold zav
 split
 ·rename_i l el
  have hl:=h l (List.mem_of_getElem? el);exact h.set ⟨zj6 hl.1,hl.2⟩
 ·exact h
theorem zjx:∀ (is:List Nat) (X:Hl),LsOk X.ls->LsOk (is.foldl (zav x) X).ls
 | [],X,h=>h
 | i::is,X,h=>zjx is _ (znj h)
theorem zsP {a:OA} (h:LsOk X.ls) (el:X.ls[k]?=some l):LsOk (doOA X k l v a).ls:=by
 have hl:=h l (List.mem_of_getElem? el)
 cases a with
 | keep=>exact h
 | own=>exact h.set hl
 | share=>exact h.set hl
 | forget=>exact h.set hl
 | clear=>
  intro x hx;obtain ⟨y,hy,rfl⟩:=List.mem_map.mp hx;exact h y hy
 | stay=>exact h
 | send w m ld=>exact zjx _ _ h
theorem zp1:∀ {as:List OA} {X:Hl},LsOk X.ls->LsOk (zco k v as X).ls
 | [],X,h=>h
 | a::as,X,h=>by
  unfold zco
  split
  ·rename_i l el
   split
   ·exact zp1 (zsP h el)
   ·exact zsP h el
  ·exact h
theorem zna:∀ {as:List OA} {X:Hl},(zco k v as X).ls.length=X.ls.length
 | [],X=>rfl
 | a::as,X=>by
  unfold zco
  split
  ·rename_i l el
   split
   ·rw [zna,zeK]
   ·rw [zeK]
  ·rfl
theorem zqE:(toHs X nx).ls=X.ls:=by
 unfold toHs
 split<;>rfl
theorem zjr {w:List Lt} {j:Nat}:(wout w j).length<=w.length:=by
 unfold wout;simp;omega
theorem zp0 {X:Hl} {l:Ln} {r:Row} {d:Deed} (h:LsOk X.ls) (el:X.ls[d.k.toNat]?=some l):LsOk (zbD X l r d).ls/\(zbD X l r d).ls.length=X.ls.length:=by
 have hl:=h l (List.mem_of_getElem? el)
 cases d with
 | ask k e x=>
  unfold zbD;simp only
  split
  ·unfold zle
   rw [zjE,zd3]
   cases x with
   | none=>exact ⟨zi1 (zj5 h),rfl⟩
   | some n=>exact ⟨zi1 (zj5 (X:={ X with ls:=X.ls.set k.toNat { l with want:=n } }) (h.set hl)),by simp⟩
  ·exact ⟨h,rfl⟩
 | take k j=>
  unfold zbD;simp only
  split
  ·unfold zf7
   rw [zjE,zd3];exact ⟨zi1 (zj5 (X:={ X with ls:=X.ls.set k.toNat { l with to:=wout l.to j.toNat } }) (h.set ⟨Nat.le_trans zjr hl.1,hl.2⟩)),by simp⟩
  ·exact ⟨h,rfl⟩
 | get k j=>
  unfold zbD;simp only
  split
  ·unfold zla
   rw [zqE,zna,zlC];refine ⟨zp1 ?_,rfl⟩;unfold gotX
   split
   ·exact h
   ·exact h.set ⟨hl.1,Nat.le_trans zjr hl.2⟩
  ·exact ⟨h,rfl⟩
theorem zlb {T:Tab} {Y:Hl}:(zbM T Y).ls=Y.ls:=by
 unfold zbM
 split<;>rfl
theorem zmh {T:Tab} {X:Hl} {d:Deed} (h:LsOk X.ls):LsOk (zbv T X d).ls/\(zbv T X d).ls.length=X.ls.length:=by
 unfold zbv
 split
 ·exact ⟨h,rfl⟩
 ·rename_i l el
  split
  ·exact ⟨h,rfl⟩
  ·rw [zlb]
   exact zp0 h el
structure SdOk (S:Sd):Prop where
 ls:LsOk S.ls
 few:S.ls.length<=10
theorem SdOk.hl {S:Sd} (h:SdOk S):HlOk (hlOf S):=⟨h.ls,h.few⟩
theorem zct {T:Tab} {S:Sd} {d:Deed} (h:SdOk S):SdOk (sdOf (zaw T S d)):=by
 have:=zmh (T:=T) (X:=hlOf S) (d:=d) h.ls
 exact ⟨this.1,by have e:=this.2;show (zaw T S d).ls.length<=10;unfold zaw;rw [e];exact h.few⟩
theorem zeN {T:Tab} {S:Sd} {d:Deed} (h:SdOk S):(sdOf (zaw T S d)).ls.length=S.ls.length:=(zmh (T:=T) (X:=hlOf S) (d:=d) h.ls).2
noncomputable def addA (as:List D) (a:D):List D:=if zap a then as else as++[a]
noncomputable def zbo (T:Tab):List Deed->Sd->List D->Sd×List D×D
 | [],S,as=>(S,as,.non)
 | d::ds,S,as=>if zap (zaw T S d).brk then zbo T ds (sdOf (zaw T S d)) (addA as (zaw T S d).ans) else (S,as,(zaw T S d).brk)
noncomputable def Runs (T:Tab):List Deed->Sd->Prop
 | [],_=>True
 | d::ds,S=>d.Ok/\may1 T S d=true/\(zap (zaw T S d).brk=true->Runs T ds (sdOf (zaw T S d)))
noncomputable def resD (p:Sd×List D×D):D:=.tup [sdD p.1,.lst p.2.1,p.2.2]
noncomputable def ln0 (s:Tx):Ln:=⟨s,none,0,[],[],0⟩
noncomputable def st0 (T:Tab):Tx:=match T.hands with
 | p::_=>p.1
 | []=>[]
noncomputable def zaq (T:Tab) (m:Nat):Sd:=⟨T.h0,some (0,0),(0,0),List.replicate m (ln0 (st0 T))⟩
theorem zcK {T:Tab} (hm:m<=10):SdOk (zaq T m):=⟨λl hl=>by
 have:l=ln0 (st0 T):=(List.mem_replicate.mp hl).2
 rw [this]
 exact ⟨Nat.zero_le _,Nat.zero_le _⟩,by show (List.replicate m _).length<=10;simpa using hm⟩
theorem rep1 {α:Type} (x:α):∀ m:Nat,(List.replicate m [x]).flatten=List.replicate m x
 | 0=>rfl
 | m+1=>by rw [List.replicate_succ,List.flatten_cons,rep1 x m];rfl
theorem zed (n:Nat) {T:Tab} {m:Nat} (O:T.Ok) (hm:m<=10) (kq:Q (.d (sdD (zaq T m))) h):Ok (zaf P (n+1) 5 [.d (tabD T),.d (.int m)] h) Q:=by
 refine cl rfl rfl rfl ?_;obtain ⟨hands,h0,hs,rows⟩:=T;have hh:=O.hands
 cases hands with
 | nil=>exact absurd rfl hh
 | cons p hands=>
  have e:∀ x:D,bop .mul (.tup [x]) (.int (m:Int))=some (.tup (List.replicate m x)):=λx=>by
   show (if [x].isEmpty||decide ((m:Int)<0)||decide ((2:Int) ^ 24<(m:Int))||!fit ([x].length*((m:Int)).toNat) then none else some (D.tup (List.replicate ((m:Int)).toNat [x]).flatten))=_;rw [if_neg,Int.toNat_natCast,rep1];have h1:decide ((m:Int)<0)=false:=decide_eq_false (by omega);have h2:decide ((2:Int) ^ 24<(m:Int))=false:=decide_eq_false (by omega)
   have h3:fit ([x].length*((m:Int)).toNat)=true:=decide_eq_true (by unfold big;simp;omega)
   rw [h1,h2,h3];simp
  refine st zfj ?_;ac_rfl;refine st zfj ?_;refine st (e _) ?_;refine f0 ?_
  have e2:(zaq ⟨p::hands,h0,hs,rows⟩ m).ls.map lnD=List.replicate m (lnD (ln0 p.1)):=by
   show (List.replicate m (ln0 p.1)).map lnD=_;rw [List.map_replicate]
  unfold sdD stdD at kq;rw [e2] at kq;exact kq
theorem zdM (n:Nat) {T:Tab} {m:Nat} {ds:List Deed} {h:Sto} (O:T.Ok) (hm:m<=10) (hl:ds.length<=1000) (hr:Runs T ds (zaq T m)) (kq:Q (.d (resD (zbo T ds (zaq T m) []))) h) :
  Ok (zaf P (n+10) 30 [.d (tabD T),.d (.int m),.d (.lst (ds.map zal))] h) Q:=by
 refine cl rfl rfl rfl ?_;refine ask (zed (n+8) O hm ?_);ac_rfl;refine ask ?_;rw [List.map_map];refine zbj (g:=dI∘zal) (xs:=ds) (λi σ h'=>i<=ds.length/\∃ S as,h'=h++[.lst as]/\SdOk S/\as.length<=i/\Runs T (ds.drop i) S/\zbo T ds (zaq T m) []=zbo T (ds.drop i) S as/\∃ v5 v6,σ=[some (.d (tabD T)),some (.d (.int m)),some (.d (.lst (ds.map zal))),some (.d (sdD S)),some (.loc h.length),v5,v6]) ?_ ?_ ⟨by omega,zaq T m,[],rfl,zcK hm,by simp,hr,rfl,none,none,rfl⟩
 ·rintro i d σ h' hd ⟨hi,S,as,rfl,hS,ha,hR,e,v5,v6,rfl⟩
  have hi2:=(List.getElem?_eq_some_iff.mp hd).1
  have hd1:ds.drop i=d::ds.drop (i+1):=by
   rw [List.drop_eq_getElem_cons hi2,(List.getElem?_eq_some_iff.mp hd).2]
  rw [hd1] at hR e;obtain ⟨r1,r2,r3⟩:=hR;rw [zbo] at e;refine gb ?_;refine ask (zfG n O hS.hl r1 r2 ?_);unfold znA
  cases c:zap (zaw T S d).brk with
  | false=>
   rw [if_neg (by decide)];rw [c,if_neg (by decide)] at e;ac_rfl
   refine bt (show (!zap (zaw T S d).brk)=true by rw [c];rfl) ?_
   refine st zad ?_;ac_rfl;rw [zai];rw [e] at kq;exact fa kq
  | true=>
   rw [if_pos rfl];rw [c,if_pos rfl] at e;ac_rfl;refine br (λc2=>?_) (λc2=>?_)
   ·have c2:(!zap (zaw T S d).ans)=true:=c2
    refine st zad ?_
    refine st zad ⟨by unfold big;omega,?_⟩
    rw [zai];refine ⟨rfl,by omega,_,_,rfl,zct hS,?_,r3 c,?_,_,_,rfl⟩
    ·simp;omega
    ·rw [e,addA,if_neg (by intro z;rw [z] at c2;cases c2)]
   ·have c2:(!zap (zaw T S d).ans)=false:=c2
    refine ⟨rfl,by omega,_,_,rfl,zct hS,by omega,r3 c,?_,_,_,rfl⟩;rw [e,addA,if_pos (by simpa using c2)]
 ·rintro σ h' ⟨hi,S,as,rfl,hS,ha,hR,e,v5,v6,rfl⟩
  rw [List.drop_eq_nil_of_le (Nat.le_refl _)] at e;rw [e,zbo] at kq;refine st zad ?_;ac_rfl;rw [zai];exact fa kq
noncomputable def zdg (T:Tab):List Deed->Sd->Prop
 | [],_=>True
 | d::ds,S=>d.Ok/\may1 T S d=true/\zap (zaw T S d).brk=true/\zdg T ds (sdOf (zaw T S d))
noncomputable def zax (T:Tab):List Deed->Sd->Sd
 | [],S=>S
 | d::ds,S=>zax T ds (sdOf (zaw T S d))
theorem zsj (n:Nat) {T:Tab} {m:Nat} {ds es:List Deed} {b:Deed} {h:Sto} {Q:R->Sto->Prop} (O:T.Ok) (hm:m<=10) (hl:ds.length<=1000) (hr:zdg T ds (zaq T m)) (hb:may1 T (zax T ds (zaq T m)) b=false) (kq:Q (.d (.int 0)) h) :
  Ok (zaf P (n+10) (xof 30) [.d (tabD T),.d (.int m),.d (.lst ((ds++b::es).map zal))] h) Q:=by
 refine clX zoK rfl rfl rfl ?_;refine x_nx ?_;refine ask (zed (n+8) O hm ?_);refine x_nx ?_;refine zvq ?_;ac_rfl;rw [show (ds++b::es).map zal=ds.map zal++zal b::es.map zal by rw [List.map_append,List.map_cons]];refine zo2 (xs:=ds.map zal) (λi σ h'=>i<=ds.length/\∃ S as,h'=h++[.lst as]/\SdOk S/\as.length<=i/\zdg T (ds.drop i) S/\zax T ds (zaq T m)=zax T (ds.drop i) S/\∃ v5 v6,σ=[some (.d (tabD T)),some (.d (.int m)),some (.d (.lst (ds.map zal++zal b::es.map zal))),some (.d (sdD S)),some (.loc h.length),v5,v6]) ?_ ?_ ⟨by omega,zaq T m,[],rfl,zcK hm,by simp,hr,rfl,none,none,rfl⟩
 ·rintro i d σ h' hd ⟨hi,S,as,rfl,hS,ha,hR,e,v5,v6,rfl⟩
  rw [List.getElem?_map,Option.map_eq_some_iff] at hd;obtain ⟨d,hd,rfl⟩:=hd;have hi2:=(List.getElem?_eq_some_iff.mp hd).1
  have hd1:ds.drop i=d::ds.drop (i+1):=by
   rw [List.drop_eq_getElem_cons hi2,(List.getElem?_eq_some_iff.mp hd).2]
  rw [hd1] at hR e;obtain ⟨r1,r2,c,r3⟩:=hR;rw [zax] at e;refine gb ?_;refine ask (zfG n O hS.hl r1 r2 ?_);unfold znA;rw [c,if_pos rfl];ac_rfl;refine br (λc2=>?_) (λc2=>?_)
  ·refine st zad ?_
   refine st zad ⟨by unfold big;omega,?_⟩
   rw [zai]
   refine ⟨rfl,rfl,by omega,_,_,rfl,zct hS,by simp;omega,r3,e,_,_,rfl⟩
  ·exact ⟨rfl,rfl,by omega,_,_,rfl,zct hS,by omega,r3,e,_,_,rfl⟩
 ·rintro σ h' ⟨hi,S,as,rfl,hS,ha,hR,e,v5,v6,rfl⟩
  rw [List.length_map,List.drop_eq_nil_of_le (Nat.le_refl _)] at e;rw [e,zax] at hb;have hx:=zte n (h:=h++[.lst as]) (Q:=λr h'=>r=.d (.int 0)/\h'=h++[.lst as]) hb ⟨rfl,rfl⟩;obtain ⟨r,h1,ex,rfl,rfl⟩:=hx;have en:=zjA zoK (by decide) ex;refine (λk=>⟨zqT k,k⟩) ?_;refine gbX ?_;ac_rfl;refine zvx ?_;exact ⟨en,⟨_,_,ex,fa kq⟩⟩
variable {Q:R->Sto->Prop}
noncomputable def answ (T:Tab):List Deed->Sd->List D->List D
 | [],_,as=>as
 | d::ds,S,as=>answ T ds (sdOf (zaw T S d)) (addA as (zaw T S d).ans)
theorem zhR {T:Tab}:∀ {ds:List Deed} {S:Sd} {d:Deed},zdg T ds S->d.Ok->may1 T (zax T ds S) d=true->zap (zaw T (zax T ds S) d).brk=true->zdg T (ds++[d]) S
 | [],S,d,_,h1,h2,h3=>⟨h1,h2,h3,trivial⟩
 | e::ds,S,d,⟨c1,c2,c3,c4⟩,h1,h2,h3=>⟨c1,c2,c3,zhR c4 h1 h2 h3⟩
theorem zel {T:Tab}:∀ {ds:List Deed} {S:Sd} {d:Deed},zax T (ds++[d]) S=sdOf (zaw T (zax T ds S) d)
 | [],S,d=>rfl
 | e::ds,S,d=>zel (ds:=ds)
theorem zgQ {T:Tab}:∀ {ds:List Deed} {S:Sd} {d:Deed} {as:List D},answ T (ds++[d]) S as=addA (answ T ds S as) (zaw T (zax T ds S) d).ans
 | [],S,d,as=>rfl
 | e::ds,S,d,as=>zgQ (ds:=ds)
theorem zcM {T:Tab}:∀ {ds es:List Deed} {S:Sd} {as:List D},zdg T ds S->zbo T (ds++es) S as=zbo T es (zax T ds S) (answ T ds S as)
 | [],es,S,as,_=>rfl
 | d::ds,es,S,as,⟨_,_,c,c4⟩=>by
  rw [List.cons_append,zbo,c,if_pos rfl];exact zcM c4
theorem zcJ {T:Tab}:∀ {ds es:List Deed} {S:Sd},zdg T ds S->Runs T es (zax T ds S)->Runs T (ds++es) S
 | [],es,S,_,h=>h
 | d::ds,es,S,⟨c1,c2,c3,c4⟩,h=>⟨c1,c2,λ_=>zcJ c4 h⟩
theorem zeo {T:Tab}:∀ {ds:List Deed} {S:Sd} (n:Nat),zdg T ds S->zdg T (ds.take n) S
 | _,S,0,_=>trivial
 | [],S,n+1,_=>trivial
 | d::ds,S,n+1,⟨c1,c2,c3,c4⟩=>⟨c1,c2,c3,zeo n c4⟩
theorem zbQ {T:Tab}:∀ {ds:List Deed} {S:Sd},SdOk S->SdOk (zax T ds S)/\(zax T ds S).ls.length=S.ls.length
 | [],S,h=>⟨h,rfl⟩
 | d::ds,S,h=>by
  have:=zbQ (T:=T) (ds:=ds) (zct (T:=T) (d:=d) h)
  exact ⟨this.1,this.2.trans (zeN h)⟩
inductive Out (T:Tab) (S0:Sd):List Deed->Sd->List D->D->Prop
 | clean (ds:List Deed):zdg T ds S0->Out T S0 ds (zax T ds S0) (answ T ds S0 []) .non
 | broke (pre:List Deed) (d:Deed):zdg T pre S0->d.Ok->may1 T (zax T pre S0) d=true->zap (zaw T (zax T pre S0) d).brk=false->Out T S0 (pre++[d]) (zax T pre S0) (answ T pre S0 []) (zaw T (zax T pre S0) d).brk
theorem Out.runs {T:Tab} {S0 S:Sd} {ds:List Deed} {as:List D} {b:D} (h:Out T S0 ds S as b):Runs T ds S0:=by
 cases h with
 | clean _ c=>have:=zcJ (es:=[]) c trivial;rwa [List.append_nil] at this
 | broke pre d c h1 h2 h3=>exact zcJ c ⟨h1,h2,λz=>by rw [h3] at z;cases z⟩
theorem Out.play {T:Tab} {S0 S:Sd} {ds:List Deed} {as:List D} {b:D} (h:Out T S0 ds S as b):zbo T ds S0 []=(S,as,b):=by
 cases h with
 | clean _ c=>have:=zcM (es:=[]) (as:=[]) c;rw [List.append_nil] at this;rw [this];rfl
 | broke pre d c h1 h2 h3=>
  rw [zcM c,zbo,h3];rfl
theorem Out.more {T:Tab} {S0 S:Sd} {ds:List Deed} {as:List D} {b:D} (h:Out T S0 ds S as b) (hb:zap b=false) (es:List Deed):Runs T (ds++es) S0/\zbo T (ds++es) S0 []=(S,as,b):=by
 cases h with
 | clean _ c=>cases hb
 | broke pre d c h1 h2 h3=>
  rw [List.append_assoc]
  refine ⟨zcJ c ⟨h1,h2,λz=>by rw [h3] at z;cases z⟩,?_⟩
  rw [zcM c];show zbo T (d::es) _ _=_;rw [zbo,h3];rfl
theorem Out.ahead {T:Tab} {S0 S:Sd} {ds:List Deed} {as:List D} {b:D} (h:Out T S0 ds S as b) (n:Nat) (hn:zap b=true\/n<ds.length):zdg T (ds.take n) S0:=by
 cases h with
 | clean _ c=>exact zeo n c
 | broke pre d c h1 h2 h3=>
  rcases hn with z | z
  ·rw [h3] at z;cases z
  ·rw [List.take_append_of_le_length (by simp at z;omega)]
   exact zeo n c
theorem zrr {ds:List D} {c:Int} (h:ds≠[]):∃ d,idxD (.lst ds) (.int (c % (ds.length:Int)))=some d/\d∈ds:=by
 have hl:0<ds.length:=List.length_pos_iff.mpr h;have h1:0<=c % (ds.length:Int):=Int.emod_nonneg _ (by omega);have h2:c % (ds.length:Int)<ds.length:=Int.emod_lt_of_pos _ (by omega)
 have h3:(c % (ds.length:Int)).toNat<ds.length:=by omega
 refine ⟨ds[(c % (ds.length:Int)).toNat],?_,List.getElem_mem _⟩;show at' ds _=_;unfold at' ixn;simp only [if_pos h1,if_pos h2];exact List.getElem?_eq_getElem h3
theorem zrK {ds:List D}:(D.lst ds).eqb (.lst [])=ds.isEmpty:=by cases ds<;>rfl
theorem zqn {c:Int} {ds:List D} (h:ds≠[]):bop .mod (.int c) (.int (ds.length:Int))=some (.int (c % (ds.length:Int))):=by
 have hl:0<ds.length:=List.length_pos_iff.mpr h;show (if decide ((0:Int)<(ds.length:Int)) then some (D.int (c % (ds.length:Int))) else none)=_;rw [if_pos (decide_eq_true (by omega))]
theorem jn {α:Type} {P G:α->Prop} {C:Prop} (a:(∀ d,P d->G d)->C) (b:∀ d,P d->G d):C:=a b
theorem zvy (d:Deed):(∃ k e y,d=.ask k e (some y))\/biD .len [zal d]=some (.int 3):=by
 cases d with
 | ask k e y=>
  cases y with
  | none=>exact .inr rfl
  | some y=>exact .inl ⟨k,e,y,rfl⟩
 | _=>exact .inr rfl
theorem zoN (n:Nat) {T:Tab} {cs:List Int} {m:Nat} {o:Bool} {h:Sto} (O:T.Ok) (hm:m<=10) (hc:cs.length<=100)
  (kq:∀ ds S as b,ds.length<=cs.length->Out T (zaq T m) ds S as b->Q (.d (.tup [.lst (ds.map zal),sdD S,.lst as,b])) h) :
  Ok (zaf P (n+10) 38 [.d (.lst (cs.map D.int)),.d (tabD T),.d (.int m),.d (.bl o)] h) Q:=by
 refine cl rfl rfl rfl ?_;refine ask (zed (n+8) O hm ?_);ac_rfl;refine ask ?_;rw [List.map_map];have hS0:=zcK (T:=T) hm
 refine zbj (g:=dI∘D.int) (xs:=cs) (λi σ h'=>i<=cs.length/\∃ ds as,h'=h++[.lst as,.lst (ds.map zal)]/\ds.length=i/\as.length<=i/\as=answ T ds (zaq T m) []/\zdg T ds (zaq T m)/\∃ v7 v8 v9 v10 v11,σ=[some (.d (.lst (cs.map D.int))),some (.d (tabD T)),some (.d (.int m)),some (.d (.bl o)),some (.d (sdD (zax T ds (zaq T m)))),some (.loc h.length),some (.loc (h.length+1)),v7,v8,v9,v10,v11]) ?_ ?_ ⟨by omega,[],[],by simp,rfl,by simp,rfl,trivial,none,none,none,none,none,by simp;rfl⟩
 ·rintro i c σ h' hd ⟨hi,ds,as,rfl,hl,ha,ea,hC,v7,v8,v9,v10,v11,rfl⟩
  have hi2:=(List.getElem?_eq_some_iff.mp hd).1;have hB:=zbQ (T:=T) (ds:=ds) hS0;refine gb ?_;refine ask (znP (n+4) hB.1.hl λxs hxs=>?_);refine st (zgJ (zif (show (D.lst []).dep<=60 by simp [D.dep,D.deps]))) ?_;rw [zrK];refine br (λc1=>?_) (λc1=>?_)
  ·refine st zcb ?_
   ac_rfl;rw [zdY];refine st zad ?_;ac_rfl;rw [zai];refine fa ?_
   have:=kq ds _ _ _ (by omega) (.clean ds hC)
   rw [<-ea] at this;exact this
  have hne:xs≠[]:=by intro z;rw [z] at c1;cases c1
  refine st (zqn hne) ?_;apply jn (P:=λd:Deed=>d.Ok/\may1 T (zax T ds (zaq T m)) d=true)
  ·intro key
   obtain ⟨x,ex,hx⟩:=zrr (c:=c) hne;refine st ex ?_;obtain ⟨d,rfl,hd1,hd2⟩:=hxs x hx
   rcases zvy d with ⟨k,e,y,rfl⟩ | e3
   rotate_left
   ·refine st e3 ?_
    ac_rfl;exact key d ⟨hd1,hd2⟩
   ·ac_rfl
    exact key (Deed.ask k e (some (c / 3 % (2*10 ^ 40-1)-10 ^ 40+1))) ⟨hd1,hd2⟩
  ·rintro d ⟨hd1,hd2⟩
   refine st zcb ?_
   refine st zcb ⟨by simp [big];omega,?_⟩
   rw [zdY];refine ask (zfG n (d:=d) O hB.1.hl hd1 hd2 ?_);unfold znA
   cases cb:zap (zaw T (zax T ds (zaq T m)) d).brk with
   | false=>
    rw [if_neg (by decide)];ac_rfl
    refine bt (show (!zap (zaw T (zax T ds (zaq T m)) d).brk)=true by rw [cb];rfl) ?_
    refine st zcb ?_;ac_rfl;rw [zdY];refine st zad ?_;ac_rfl;rw [zai];refine fa ?_
    have:=kq (ds++[d]) _ _ _ (by simp;omega) (.broke ds d hC hd1 hd2 cb)
    rw [<-ea,List.map_append] at this;exact this
   | true=>
    rw [if_pos rfl];ac_rfl;have hcl:=zhR hC hd1 hd2 cb;refine br (λc2=>?_) (λc2=>?_)
    ·refine st zad ?_
     refine st zad ⟨by simp [big];omega,?_⟩
     rw [zai];have c2:(!zap (zaw T (zax T ds (zaq T m)) d).ans)=true:=c2
     refine ⟨rfl,by omega,ds++[d],as++[(zaw T (zax T ds (zaq T m)) d).ans],by rw [List.map_append];rfl,by simp;omega,by simp;omega,?_,hcl,_,_,_,_,_,by rw [zel];rfl⟩
     rw [zgQ,<-ea,addA,if_neg (by intro z;rw [z] at c2;cases c2)]
    ·have c2:(!zap (zaw T (zax T ds (zaq T m)) d).ans)=false:=c2
     refine ⟨rfl,by omega,ds++[d],as,by rw [List.map_append];rfl,by simp;omega,by omega,?_,hcl,_,_,_,_,_,by rw [zel];rfl⟩
     rw [zgQ,<-ea,addA,if_pos (by simpa using c2)]
 ·rintro σ h' ⟨hi,ds,as,rfl,hl,ha,ea,hC,v7,v8,v9,v10,v11,rfl⟩
  refine st zcb ?_;ac_rfl;rw [zdY];refine st zad ?_;ac_rfl;rw [zai];refine fa ?_
  have:=kq ds _ _ _ (by omega) (.clean ds hC)
  rw [<-ea] at this;exact this
variable {Q:R->Sto->Prop}
theorem ztz {xs:List D} {i:Int} (h0:0<=i) (h1:i<xs.length):∃ x,xs[i.toNat]?=some x/\idxD (.lst xs) (.int i)=some x:=by
 have h2:i.toNat<xs.length:=by omega
 refine ⟨xs[i.toNat],List.getElem?_eq_getElem h2,?_⟩;show at' xs i=_;unfold at' ixn;simp only [if_pos h0,if_pos h1];exact List.getElem?_eq_getElem h2
theorem zca {α:Type} {f:α->D} {xs:List α} {i:Int} (h0:0<=i) (h1:i<xs.length):∃ a,a∈xs/\idxD (.lst (xs.map f)) (.int i)=some (f a):=by
 obtain ⟨x,e1,e2⟩:=ztz (xs:=xs.map f) h0 (by simpa using h1);rw [List.getElem?_map,Option.map_eq_some_iff] at e1;obtain ⟨a,ea,rfl⟩:=e1;exact ⟨a,List.mem_of_getElem? ea,e2⟩
theorem zcw (n:Nat) {cs:List Int} {k:Nat} (kq:∀ v,Q (.d (.int v)) h):Ok (zaf P (n+1) 31 [.d (.lst (cs.map D.int)),.d (.int k)] h) Q:=by
 refine cl rfl rfl rfl ?_;ac_rfl;rw [List.length_map];refine br (λc=>?_) (λc=>?_)
 ·have c:(k:Int)<(cs.length:Int):=of_decide_eq_true c
  obtain ⟨a,_,e⟩:=zca (f:=D.int) (xs:=cs) (i:=k) (by omega) c;refine st e ?_;exact f0 (kq a)
 ·exact f0 (kq 0)
theorem zty {a b:Int} (h1:-(2 ^ 64)<b) (h2:b<2 ^ 64):bop .mul (.int a) (.int b)=some (.int (a*b)):=by
 show (if ziA a||ziA b then _ else _)=_;rw [if_pos];rw [Bool.or_eq_true]
 right
 unfold ziA;rw [decide_eq_true h1,decide_eq_true h2];rfl
theorem ztr {a b:Int} {t:Bool}:idxD (.lst [.int a,.int b]) (.int (if t then 1 else 0))=some (.int (if t then b else a)):=by cases t<;>rfl
noncomputable def Dig (z:Int) (ds:List Int):Prop:=∀ d∈ds,0<=d/\d<z
theorem zfn (n:Nat) {c:Int} {m:Nat} {h:Sto} (hm:m<=100) (kq:∀ ds:List Int,ds.length=m->Dig 64 ds->Q (.d (.lst (ds.map D.int))) h):Ok (zaf P (n+1) 32 [.d (.int c),.d (.int 64),.d (.int m)] h) Q:=by
 refine cl rfl rfl rfl ?_;refine st (zty (by decide) (by decide)) ?_;ac_rfl;refine ⟨⟨by omega,by omega⟩,?_⟩;rw [Int.toNat_natCast,zb3,List.map_map];refine ask ?_;refine zbj (g:=dI∘λi:Nat=>D.int (i:Int)) (xs:=List.range m) (λi σ h'=>i<=m/\∃ ds mx rs,h'=h++[.lst (ds.map D.int)]/\ds.length=i/\Dig 64 ds/\0<=mx/\mx<2147483647/\∃ v,σ=[some (.d (.int c)),some (.d (.int 64)),some (.d (.int m)),some (.loc h.length),some (.d (.int mx)),some (.d (.int rs)),v]) ?_ ?_ ⟨by omega,[],_,_,rfl,rfl,by simp [Dig],Int.emod_nonneg _ (by decide),Int.emod_lt_of_pos _ (by decide),none,rfl⟩
 ·rintro i k σ h' hk ⟨hi,ds,mx,rs,rfl,hl,hd,m0,m1,v,rfl⟩
  have hi2:=(List.getElem?_eq_some_iff.mp hk).1
  have hi2:i<m:=by simpa using hi2
  obtain rfl:k=i:=by rw [List.getElem?_range hi2] at hk;cases hk;rfl
  have hq:0<=mx / 1009/\mx / 1009<=2147483647:=⟨Int.ediv_nonneg m0 (by decide),by omega⟩;refine gb ?_;ac_rfl;refine st (zty (by omega) (by omega)) ?_;ac_rfl;refine st zad ?_;have hx:∀ y:Int,0<=y % 64/\y % 64<64:=λy=>⟨Int.emod_nonneg _ (by decide),Int.emod_lt_of_pos _ (by decide)⟩
  have hD:∀ x:Int,0<=x/\x<64->Dig 64 (ds++[x]):=λx hx d hd'=>by
   rcases List.mem_append.mp hd' with z | z
   ·exact hd d z
   ·rw [List.mem_singleton.mp z];exact hx
  ac_rfl;refine br (λc1=>?_) (λc1=>?_)
  ·refine st ztr ?_
   refine st zad ⟨by simp [big];omega,?_⟩
   rw [zai]
   refine ⟨rfl,by omega,ds++[_],_,_,by rw [List.map_append];rfl,by simp;omega,hD _ ?_,Int.emod_nonneg _ (by decide),Int.emod_lt_of_pos _ (by decide),_,rfl⟩
   split
   ·exact hx _
   ·exact hx _
  ·refine st zad ⟨by simp [big];omega,?_⟩
   rw [zai]
   refine ⟨rfl,by omega,ds++[_],_,_,by rw [List.map_append];rfl,by simp;omega,hD _ (hx _),Int.emod_nonneg _ (by decide),Int.emod_lt_of_pos _ (by decide),_,rfl⟩
 ·rintro σ h' ⟨hi,ds,mx,rs,rfl,hl,hd,m0,m1,v,rfl⟩
  rw [List.length_range] at hl;exact zqG (kq ds hl hd)
variable {Q:R->Sto->Prop}
noncomputable abbrev zkR:Tx:=[105,100,108,101]
noncomputable abbrev ziK:Tx:=[109,105,110,101]
noncomputable abbrev zpm:Tx:=[103,105,118,101]
noncomputable abbrev zth:Tx:=[99,97,108,108]
noncomputable abbrev ztS:Tx:=[98,97,99,107]
noncomputable abbrev zk4:Tx:=[104,111,109,101]
noncomputable abbrev kout:Tx:=[111,117,116]
noncomputable abbrev zhE:Tx:=[99,97,108,108,115]
noncomputable abbrev zrQ:Tx:=[97,115,107,115]
noncomputable abbrev khas:Tx:=[104,97,115]
noncomputable def zfC:Tab:=⟨[(zkR,zcr),(ziO,zcr),(ziK,zaC)],zk4,[.str kout,.str zhE],
  [⟨zb4,[zkR,zaC],ziO,.hand [.send kget zkL]⟩,⟨zb4,[ziO,zpm],ziK,.hand [.keep,.put]⟩,⟨zb4,[ziK,zaC],ziK,.hand [.put]⟩,
   ⟨zb4,[ziK,zdi],ziK,.hand [.tell]⟩,⟨zb4,[ziK,zth],zkR,.hand [.send ztS zbG,.lose]⟩,
   ⟨zbW,[zk4,kget,kany],kout,.house [.own,.send 0 zpm zbG]⟩,⟨zbW,[kout,kget,kany],zhE,.house [.send 1 zth zkL,.stay]⟩,
   ⟨zbW,[zhE,kget,kany],zhE,.wait⟩,⟨zbW,[zhE,ztS,kany],zk4,.house [.keep,.clear]⟩]⟩
noncomputable def zeT:Tab:=⟨[(zkR,zcr),(zrQ,zcr),(khas,zdi)],zk4,[],
  [⟨zb4,[zkR,zdi],zrQ,.hand [.send kask zkL]⟩,⟨zb4,[zrQ,zpm],khas,.hand [.keep,.tell]⟩,⟨zb4,[khas,zdi],khas,.hand [.tell]⟩,
   ⟨zb4,[khas,zeP],zkR,.hand [.lose]⟩,⟨zbW,[zk4,kask,kany],zk4,.house [.send 0 zpm zbG]⟩]⟩
structure Row.Good (r:Row):Prop where
 ok:r.Ok
 two:r.k=zb4->r.m.length=2
structure Tab.Good (T:Tab):Prop where
 rows:∀ r∈T.rows,r.Good
 few:T.rows.length<=90
 hands:T.hands≠[]
theorem Tab.Good.ok {T:Tab} (h:T.Good):T.Ok:=⟨λr hr=>(h.rows r hr).ok,by have:=h.few;omega,h.hands⟩
theorem zaL {a b c:Tx} {as:List HA}:Row.Good ⟨zb4,[a,b],c,.hand as⟩:=⟨⟨Nat.le_refl 2,λ_=>⟨as,rfl⟩,λh=>(by cases h)⟩,λ_=>rfl⟩
theorem zbX {a b c d:Tx} {as:List OA}:Row.Good ⟨zbW,[a,b,c],d,.house as⟩:=⟨⟨Nat.le_succ 2,λh=>(by cases h),λ_=>.inr ⟨as,rfl⟩⟩,λh=>(by cases h)⟩
theorem zmL {a b c d:Tx}:Row.Good ⟨zbW,[a,b,c],d,.wait⟩:=⟨⟨Nat.le_succ 2,λh=>(by cases h),λ_=>.inl rfl⟩,λh=>(by cases h)⟩
theorem zoo:zfC.Good:=⟨by
 intro r hr;simp only [zfC,List.mem_cons,List.not_mem_nil,or_false] at hr
 rcases hr with rfl | rfl | rfl | rfl | rfl | rfl | rfl | rfl | rfl
 ·exact zaL
 ·exact zaL
 ·exact zaL
 ·exact zaL
 ·exact zaL
 ·exact zbX
 ·exact zbX
 ·exact zmL
 ·exact zbX,by decide,by decide⟩
theorem zmI:zeT.Good:=⟨by
 intro r hr;simp only [zeT,List.mem_cons,List.not_mem_nil,or_false] at hr
 rcases hr with rfl | rfl | rfl | rfl | rfl
 ·exact zaL
 ·exact zaL
 ·exact zaL
 ·exact zaL
 ·exact zbX,by decide,by decide⟩
theorem zhS (n:Nat) (kq:Q (.d (tabD zfC)) h):Ok (zaf P (n+1) 33 [] h) Q:=by
 refine cl rfl rfl rfl ?_
 iterate 8
  refine st zad ?_;refine st zad ⟨by decide,?_⟩;rw [zai]
 refine st zad ?_;exact fa kq
theorem zhC (n:Nat) (kq:Q (.d (tabD zeT)) h):Ok (zaf P (n+1) 34 [] h) Q:=by
 refine cl rfl rfl rfl ?_
 iterate 4
  refine st zad ?_;refine st zad ⟨by decide,?_⟩;rw [zai]
 refine st zad ?_;exact fa kq
theorem zqg {r:Row}:idxD (rowD r) (.int 0)=some (.str r.k):=zfj
theorem zjB {T:Tab} {rs:List Row} (G:T.Good) (h:∀ r∈rs,r.Good) (hl:rs.length<=90):({ T with rows:=rs }:Tab).Good:=⟨h,hl,G.hands⟩
theorem zrf {α:Type} {l:List α} {i:Nat} {a x:α} (h:x∈l.set i a):x∈l\/x=a:=List.mem_or_eq_of_mem_set h
theorem zvr {α:Type} {w:List α}:cut w none (some (-1))=w.dropLast:=by
 unfold cut;have e1:sIx w.length 0 none=0:=rfl
 have e2:sIx w.length w.length (some (-1))=w.length-1:=by
  simp only [sIx];rw [if_pos (by decide)];omega
 rw [e1,e2,List.drop_zero,Nat.sub_zero,List.dropLast_eq_take]
noncomputable def ziq:Acts->Acts
 | .hand as=>.hand as.tail
 | .house as=>.house as.tail
 | .wait=>.wait
theorem zuz {a:Acts} (h:zgh a=false):sliD (zbK a) (.int 1) .non=some (zbK (ziq a)):=by
 have e:∀ {α:Type} (f:α->D) (xs:List α),sliD (.tup (xs.map f)) (.int 1) .non=some (.tup (xs.tail.map f)):=by
  intro α f xs;show some (D.tup (cut (xs.map f) (some ((1:Nat):Int)) none))=_;rw [zeM,<-List.map_drop,List.drop_one]
 cases a with
 | hand as=>exact e _ _
 | house as=>exact e _ _
 | wait=>cases h
theorem zih {r:Row} (G:r.Good):Row.Good { r with acts:=ziq r.acts }:=by
 refine ⟨⟨G.ok.m,λh=>?_,λh=>?_⟩,G.two⟩
 ·obtain ⟨as,e⟩:=G.ok.hand h
  exact ⟨as.tail,by show ziq r.acts=_;rw [e];rfl⟩
 ·rcases G.ok.house h with e | ⟨as,e⟩
  ·exact .inl (by show ziq r.acts=_;rw [e];rfl)
  ·exact .inr ⟨as.tail,by show ziq r.acts=_;rw [e];rfl⟩
theorem zn2 {n:Nat} (h:n<=1000):fit n=true:=decide_eq_true (by unfold big;omega)
theorem zpi {α:Type} {f:α->D} {xs:List α} {i:Int} (h0:0<=i) (h1:i<xs.length):∃ a,a∈xs/\idxD (.tup (xs.map f)) (.int i)=some (f a):=by
 have h2:i.toNat<xs.length:=by omega
 exact ⟨xs[i.toNat],List.getElem_mem _,zcE h0 (by rw [List.getElem?_map,List.getElem?_eq_getElem h2];rfl)⟩
theorem jn0 {G C:Prop} (a:G->C) (b:G):C:=a b
theorem zmV (n:Nat) {T:Tab} {c:Int} {h:Sto} (G:T.Good) (hr:T.rows≠[]) (hm:∀ r∈T.rows,r.m.length<=10) (kq:∀ T':Tab,T'.Good->Q (.d (tabD T')) h):Ok (zaf P (n+2) 35 [.d (tabD T),.d (.int c)] h) Q:=by
 refine cl rfl rfl rfl ?_;refine ask (zfn n (m:=3) (by decide) λds hl hd=>?_)
 match ds,hl with
 | [d0,d1,d2],_=>
 have h2:=hd d2 (by simp);have hlen:0<T.rows.length:=List.length_pos_iff.mpr hr
 have hmod:bop .mod (.int d0) (.int ((T.rows.map rowD).length:Int))=some (.int (d0 % (T.rows.length:Int))):=by
  rw [List.length_map];show (if decide ((0:Int)<(T.rows.length:Int)) then _ else _)=_;rw [if_pos (decide_eq_true (by omega))]
 have a0:0<=d0 % (T.rows.length:Int):=Int.emod_nonneg _ (by omega);have a1:d0 % (T.rows.length:Int)<T.rows.length:=Int.emod_lt_of_pos _ (by omega);refine st zad ?_;refine st hmod ?_;generalize d0 % (T.rows.length:Int)=i at a0 a1;obtain ⟨j,rfl⟩:∃ j:Nat,i=j:=⟨i.toNat,by omega⟩
 have hj:j<T.rows.length:=by omega
 have ej:T.rows[j]?=some T.rows[j]:=List.getElem?_eq_getElem hj;have hrG:=G.rows _ (List.getElem_mem hj);have hrm:=hm _ (List.getElem_mem hj);generalize T.rows[j]=r at ej hrG hrm
 have ei:idxD (.lst (T.rows.map rowD)) (.int j)=some (rowD r):=by
  show at' _ _=_
  exact ztp (by omega) (by rw [Int.toNat_natCast,List.getElem?_map,ej];rfl)
 refine st zad ?_;refine st ei ?_;have hset:∀ r':Row,r'.Good->(T.rows.map rowD).set j (rowD r')=({ T with rows:=T.rows.set j r' }:Tab).rows.map rowD:=λr' _=>(List.map_set ..).symm;have hgs:∀ r':Row,r'.Good->({ T with rows:=T.rows.set j r' }:Tab).Good:=λr' h=>zjB G (λx hx=>(zrf hx).elim (G.rows x) (λe=>e▸h)) (by simpa using G.few)
 have hix:ixn (T.rows.map rowD).length (j:Int)=some j:=by
  unfold ixn;rw [List.length_map,if_pos (by omega),if_pos (by omega),Int.toNat_natCast]
 refine br (λc1=>?_) (λc1=>?_)
 ·refine st zad ?_
  refine st zad ?_
  have ecat:catD (.lst (cut (T.rows.map rowD) none (some (j:Int)))) (.lst (cut (T.rows.map rowD) (some ((j:Int)+1)) none))=some (({ T with rows:=T.rows.take j++T.rows.drop (j+1) }:Tab).rows.map rowD):=by
   rw [cutN,show ((j:Int)+1)=((j+1:Nat):Int) by simp,zeM,<-List.map_take,<-List.map_drop];show (if fit _ then some ((T.rows.take j).map rowD++(T.rows.drop (j+1)).map rowD) else none)=_
   rw [if_pos (zn2 (by have:=G.few;simp;omega)),<-List.map_append]
  refine st ecat ?_;refine st zad ?_;ac_rfl;rw [List.append_assoc]
  refine fa (kq { T with rows:=T.rows.take j++T.rows.drop (j+1) } (zjB G (λx hx=>?_) (by have:=G.few;simp;omega)))
  rcases List.mem_append.mp hx with z | z
  ·exact G.rows x (List.mem_of_mem_take z)
  ·exact G.rows x (List.mem_of_mem_drop z)
 ·apply jn0
  ·intro key
   refine br (λc2=>?_) (λc2=>?_)
   rotate_left
   ·exact key
   ·refine st (zd6 r) ?_
    refine st (zfO (zif (show (D.tup [.tup [.str [119,97,105,116]]]).dep<=60 by simp [D.dep,D.deps]))) ?_;rw [zhM];refine br (λc3=>?_) (λc3=>?_)
    ·have c3:zgh r.acts=false:=by simpa using c3
     ac_rfl;refine st (zd6 r) ?_;refine st (zuz c3) ?_
     have ea:bop .add (.tup (cut (D.str r.k::(r.m.map D.str++[.str r.nx,zbK r.acts])) none (some (-1)))) (.tup [zbK (ziq r.acts)])=some (rowD { r with acts:=ziq r.acts }):=by
      rw [zvr]
      have e1:(D.str r.k::(r.m.map D.str++[.str r.nx,zbK r.acts])).dropLast=D.str r.k::(r.m.map D.str++[.str r.nx]):=by
       rw [show (D.str r.k::(r.m.map D.str++[.str r.nx,zbK r.acts]))=(D.str r.k::(r.m.map D.str++[.str r.nx]))++[zbK r.acts] by simp,List.dropLast_concat]
      rw [e1];show (if fit _ then some (D.tup (D.str r.k::(r.m.map D.str++[.str r.nx])++[zbK (ziq r.acts)])) else none)=_
      rw [if_pos (zn2 (by simp;omega))]
      unfold rowD;simp
     refine st ea ?_;ac_rfl;refine st zad ?_;refine st hix ?_;rw [zai,hset _ (zih hrG)];refine st zad ?_;exact fa (kq _ (hgs _ (zih hrG)))
    ·exact key
  ·refine st zqg ?_
   refine br (λc4=>?_) (λc4=>?_)
   ·have c4:r.k=zb4:=eq_of_beq (show (r.k==zb4)=true from c4)
    obtain ⟨rk,rm,rn,ra⟩:=r;have c4:rk=zb4:=c4;subst c4;have ht:=hrG.two rfl
    match rm,ht with
    | [x,y],_=>
    have hh:0<T.hands.length:=List.length_pos_iff.mpr G.hands
    have hmod2:bop .mod (.int d2) (.int ((T.hands.map hnD).length:Int))=some (.int (d2 % (T.hands.length:Int))):=by
     rw [List.length_map];show (if decide ((0:Int)<(T.hands.length:Int)) then _ else _)=_;rw [if_pos (decide_eq_true (by omega))]
    ac_rfl;refine st hmod2 ?_;obtain ⟨p,_,ep⟩:=zpi (f:=hnD) (xs:=T.hands) (i:=d2 % (T.hands.length:Int)) (Int.emod_nonneg _ (by omega)) (Int.emod_lt_of_pos _ (by omega));refine st ep ?_;ac_rfl;refine st zad ?_;refine st hix ?_;have hg:Row.Good ⟨zb4,[x,y],p.1,ra⟩:=⟨⟨hrG.ok.m,hrG.ok.hand,hrG.ok.house⟩,λ_=>rfl⟩;rw [zai];refine st zad ?_;have e:=hset _ hg;have k:=kq _ (hgs _ hg);unfold tabD at k;rw [<-e] at k;exact fa k
   ·refine st zad ?_
    exact fa (kq T G)
variable {Q:R->Sto->Prop}
theorem zng {ds:List Int} (hd:Dig 64 ds) {i:Int} (h0:0<=i) (h1:i<ds.length):∃ x,(0<=x/\x<64)/\idxD (.lst (ds.map D.int)) (.int i)=some (.int x):=by
 obtain ⟨a,ha,e⟩:=zca (f:=D.int) h0 h1;exact ⟨a,hd a ha,e⟩
noncomputable def zfJ:List (List HA):=[[],[.keep],[.keep,.tell],[.keep,.put],[.put,.keep],[.keep,.send [110] zbG],[.lose,.send [109] zbG]]
noncomputable def zlu:List (List HA):=[[],[.tell],[.put],[.send [109] zkL],[.send [110] zbG,.lose],[.send [109] zbG],[.put,.send [110] zbG]]
noncomputable def zb1:List (List OA):=[[.keep],[.own,.send 0 [109] zbG],[.share,.send 0 [110] zbG],[.forget],[.send 2 [110] zkL,.keep],[.send 1 [109] zbG,.clear],[.send 0 [109] zkL]]
noncomputable def haM (l:List (List HA)):D:=.lst (l.map λas=>zbK (.hand as))
noncomputable def oaM (l:List (List OA)):List D:=l.map λas=>zbK (.house as)
theorem zqr {t:Bool} {x:Int} (h0:0<=x):∃ as,∃ d,idxD (.lst [haM zlu,haM zfJ]) (.int (if t then 1 else 0))=some d/\idxD d (.int (x % 7))=some (zbK (.hand as)):=by
 have h1:0<=x % 7:=Int.emod_nonneg _ (by decide);have h2:x % 7<7:=Int.emod_lt_of_pos _ (by decide)
 cases t with
 | true=>
  obtain ⟨as,_,e⟩:=zca (f:=λas=>zbK (.hand as)) (xs:=zfJ) h1 h2;exact ⟨as,_,rfl,e⟩
 | false=>
  obtain ⟨as,_,e⟩:=zca (f:=λas=>zbK (.hand as)) (xs:=zlu) h1 h2;exact ⟨as,_,rfl,e⟩
theorem zcI {xs:List Tx} {i:Int} (h0:0<=i) (h1:i<xs.length):∃ a,idxD (.lst (xs.map D.str)) (.int i)=some (.str a):=by
 obtain ⟨a,_,e⟩:=zca (f:=D.str) h0 h1;exact ⟨a,e⟩
theorem zjD {a:Tx} {t:Bool}:∃ b,bop .mul (.str a) (.int (if t then 1 else 0))=some (.str b)/\b.length<=a.length:=by
 cases t with
 | true=>exact ⟨a,rfl,Nat.le_refl _⟩
 | false=>exact ⟨[],rfl,Nat.zero_le _⟩
theorem zmM (n:Nat) {c:Int} {h:Sto} (kq:∀ T':Tab,T'.Good->Q (.d (tabD T')) h):Ok (zaf P (n+2) 36 [.d (.int c)] h) Q:=by
 refine cl rfl rfl rfl ?_;refine ask (zfn n (m:=30) (by decide) λds hl hd=>?_);refine ⟨⟨by decide,by decide⟩,?_⟩;refine ask ?_;show Ok (zbd none _ (([0,1,2].map λk:Int=>D.int k).map dI) _) _;refine zjY (xs:=[0,1,2].map λk:Int=>D.int k) (λi ys h'=>h'=h/\∃ ps:List (Tx×Tx),ys=ps.map hnD/\ps.length=i) ?_ ?_ ⟨rfl,[],rfl,rfl⟩
 ·rintro i x ys h' hx ⟨rfl,ps,rfl,hp⟩
  rw [List.getElem?_map,Option.map_eq_some_iff] at hx;obtain ⟨k,hk,rfl⟩:=hx;have hk:=List.mem_of_getElem? hk
  have k0:0<=k/\k<3:=by
   simp only [List.mem_cons,List.not_mem_nil,or_false] at hk;omega
  obtain ⟨a,ea⟩:=zcI (xs:=[[97],[98],[99]]) k0.1 k0.2;obtain ⟨d,d0,ed⟩:=zng hd (i:=k) k0.1 (by omega);obtain ⟨b,hb,eb⟩:=zca (f:=D.str) (xs:=[zcr,zcr,zdi,zaC]) (i:=d % 4) (Int.emod_nonneg _ (by decide)) (Int.emod_lt_of_pos _ (by decide))
  have hb5:b.length<=5:=by
   simp only [List.mem_cons,List.not_mem_nil,or_false] at hb
   rcases hb with rfl | rfl | rfl | rfl<;>decide
  obtain ⟨b2,e2,l2⟩:=zjD (a:=b) (t:=decide (0<k));obtain ⟨b3,e3,l3⟩:=zjD (a:=zcr) (t:=(k==0));have l3:b3.length<=4:=l3
  have e4:bop .add (.str b2) (.str b3)=some (.str (b2++b3)):=by
   show (if fit (b2.length+b3.length) then _ else _)=_;rw [if_pos (zn2 (by omega))]
  refine gc ?_;refine st ea ?_;refine st ed ?_;refine st eb ?_;refine st e2 ?_;refine st e3 ?_;refine st e4 ?_
  refine ⟨rfl,rfl,ps++[(a,b2++b3)],by rw [List.map_append];rfl,by simp;omega⟩
 ·rintro ys h' ⟨rfl,ps,rfl,hp⟩
  have hp:ps.length=3:=hp;refine st zad ?_;refine st zad ?_;refine st zad ⟨by decide,?_⟩;rw [zai];obtain ⟨H0,hH0⟩:∃ H0,H0=h'++[Ob.lst (oaM (zb1.take 4))]:=⟨_,rfl⟩;refine ⟨⟨by decide,by decide⟩,?_⟩;refine ask ?_;show Ok (loop none _ ((za6 0 (Int.toNat 15)).map dI) [some (.d (.int c)),some (.d (.lst (ds.map D.int))),some (.d (.lst [.str zcr,.str zcr,.str zdi,.str zaC])),some (.d (.tup (ps.map hnD))),some (.d (haM zfJ)),some (.d (haM zlu)),some (.loc (h'++[Ob.lst (oaM (zb1.take 4))]).length),some (.loc ((h'++[Ob.lst (oaM (zb1.take 4))])++[Ob.lst (oaM zb1)]).length),none,none,none,none,none,none,none] (((h'++[Ob.lst (oaM (zb1.take 4))])++[Ob.lst (oaM zb1)])++[Ob.lst []])) _
  have hfa:∀ t (x:D),Q (.d x) h'->Ok (fin h' false false (.d x) (H0++t)) Q:=λt x q=>by
   rw [hH0,List.append_assoc];exact fa q
  rw [<-hH0]
  have e15:∀ m:Nat,(za6 0 m).map dI=(List.range m).map (dI∘λi:Nat=>D.int (i:Int)):=λm=>by rw [zb3,List.map_map]
  rw [e15];refine zbj (g:=dI∘λi:Nat=>D.int (i:Int)) (xs:=List.range (Int.toNat 15)) (λi σ h1=>i<=15/\∃ rs:List Row,h1=(H0++[Ob.lst (oaM zb1)])++[Ob.lst (rs.map rowD)]/\rs.length<=i/\(∀ r∈rs,r.Good)/\∃ v8 v9 v10 v11,σ=[some (.d (.int c)),some (.d (.lst (ds.map D.int))),some (.d (.lst [.str zcr,.str zcr,.str zdi,.str zaC])),some (.d (.tup (ps.map hnD))),some (.d (haM zfJ)),some (.d (haM zlu)),some (.loc H0.length),some (.loc (H0++[Ob.lst (oaM zb1)]).length),v8,v9,v10,v11,none,none,none]) ?_ ?_ ⟨by omega,[],rfl,by simp,by simp,none,none,none,none,rfl⟩
  ·rintro i k σ h1 hk ⟨hi,rs,rfl,hrl,hrG,v8,v9,v10,v11,rfl⟩
   have hi2:i<15:=by simpa using (List.getElem?_eq_some_iff.mp hk).1
   obtain rfl:k=i:=by
    have hk:(List.range 15)[i]?=some k:=hk
    rw [List.getElem?_range hi2] at hk;cases hk;rfl
   obtain ⟨d,d0,ed⟩:=zng hd (i:=3+(k:Int)) (by omega) (by omega);obtain ⟨w,ew⟩:=zcI (xs:=[zdi,zaC,zeP,[109],[110]]) (i:=(k:Int) % 5) (Int.emod_nonneg _ (by decide)) (Int.emod_lt_of_pos _ (by decide));obtain ⟨as,dm,em1,em2⟩:=zqr (t:=decide ((2:Int)<(k:Int) % 5)) d0.1
   obtain ⟨x,ex⟩:=zcI (xs:=[[97],[98],[99]]) (i:=(k:Int) / 5) (by omega) (by show (k:Int) / 5<3;omega)
   obtain ⟨y,ey⟩:=zcI (xs:=[[97],[98],[99]]) (i:=d / 7 % 3) (Int.emod_nonneg _ (by decide)) (Int.emod_lt_of_pos _ (by decide))
   have hadd:∀ r∈rs++[(⟨zb4,[x,w],y,.hand as⟩:Row)],r.Good:=λr hr=>by
    rcases List.mem_append.mp hr with z | z
    ·exact hrG r z
    ·rw [List.mem_singleton.mp z];exact zaL
   refine gb ?_;refine st ed ?_;refine st ew ?_;refine st em1 ?_;refine st em2 ?_;apply jn0
   ·intro key
    refine br (λc1=>?_) (λc1=>?_)
    ·exact key
    ·refine br (λc2=>?_) (λc2=>?_)
     ·exact key
     ·exact ⟨rfl,by omega,rs,rfl,by omega,hrG,_,_,_,_,rfl⟩
   ·refine st zad ?_
    refine st ex ?_;refine st ey ?_
    refine st zad ⟨by simp [big];omega,?_⟩
    rw [zai]
    exact ⟨rfl,by omega,rs++[⟨zb4,[x,w],y,.hand as⟩],by rw [List.map_append];rfl,by simp;omega,hadd,_,_,_,_,rfl⟩
  ·rintro σ h1 ⟨hi,rs,rfl,hrl,hrG,v8,v9,v10,v11,rfl⟩
   have hrl:rs.length<=15:=by simpa using hrl
   refine ⟨⟨by decide,by decide⟩,?_⟩;refine ask ?_;show Ok (loop none _ ((za6 0 (Int.toNat 8)).map dI) _ _) _;rw [e15];refine zbj (g:=dI∘λi:Nat=>D.int (i:Int)) (xs:=List.range (Int.toNat 8)) (λi σ h1=>i<=8/\∃ rs:List Row,h1=(H0++[Ob.lst (oaM zb1)])++[Ob.lst (rs.map rowD)]/\rs.length<=15+i/\(∀ r∈rs,r.Good)/\∃ v8 v9 v10 v11 v12 v13,σ=[some (.d (.int c)),some (.d (.lst (ds.map D.int))),some (.d (.lst [.str zcr,.str zcr,.str zdi,.str zaC])),some (.d (.tup (ps.map hnD))),some (.d (haM zfJ)),some (.d (haM zlu)),some (.loc H0.length),some (.loc (H0++[Ob.lst (oaM zb1)]).length),v8,v9,v10,v11,v12,v13,none]) ?_ ?_ ⟨by omega,rs,rfl,hrl,hrG,v8,v9,v10,v11,none,none,rfl⟩
   ·rintro i k σ h1 hk ⟨hi,rs,rfl,hrl,hrG,v8,v9,v10,v11,v12,v13,rfl⟩
    have hi2:i<8:=by simpa using (List.getElem?_eq_some_iff.mp hk).1
    obtain rfl:k=i:=by
     have hk:(List.range 8)[i]?=some k:=hk
     rw [List.getElem?_range hi2] at hk;cases hk;rfl
    obtain ⟨d,d0,ed⟩:=zng hd (i:=18+(k:Int)) (by omega) (by omega);obtain ⟨w,ew⟩:=zcI (xs:=[ztZ,zsQ]) (i:=(k:Int) % 2) (Int.emod_nonneg _ (by decide)) (Int.emod_lt_of_pos _ (by decide))
    obtain ⟨x,ex⟩:=zcI (xs:=[[104],[107]]) (i:=(k:Int) / 4) (by omega) (by show (k:Int) / 4<2;omega)
    obtain ⟨z,ez⟩:=zcI (xs:=[[109],[110]]) (i:=(k:Int) / 2 % 2) (Int.emod_nonneg _ (by decide)) (Int.emod_lt_of_pos _ (by decide));obtain ⟨y,ey⟩:=zcI (xs:=[[104],[107]]) (i:=d / 7 % 2) (Int.emod_nonneg _ (by decide)) (Int.emod_lt_of_pos _ (by decide));obtain ⟨as,_,ea⟩:=zca (f:=λas=>zbK (.house as)) (xs:=zb1) (i:=d % 7) (Int.emod_nonneg _ (by decide)) (Int.emod_lt_of_pos _ (by decide))
    have hg:((H0++[Ob.lst (oaM zb1)])++[Ob.lst (rs.map rowD)])[H0.length]?=some (Ob.lst (oaM zb1)):=by rw [List.append_assoc];exact zad
    have hadd:∀ r∈rs++[(⟨zbW,[x,z,w],y,.house as⟩:Row)],r.Good:=λr hr=>by
     rcases List.mem_append.mp hr with z | z
     ·exact hrG r z
     ·rw [List.mem_singleton.mp z];exact zbX
    refine gb ?_;refine st ed ?_;refine st ew ?_;refine st ex ?_;refine st zad ?_;refine st ez ?_;refine st ey ?_;refine st hg ?_;refine st ea ?_
    refine st zad ⟨by simp [big];omega,?_⟩
    rw [zai]
    exact ⟨rfl,by omega,rs++[⟨zbW,[x,z,w],y,.house as⟩],by rw [List.map_append];rfl,by simp;omega,hadd,_,_,_,_,_,_,rfl⟩
   ·rintro σ h1 ⟨hi,rs,rfl,hrl,hrG,v8,v9,v10,v11,v12,v13,rfl⟩
    have hrl:rs.length<=15+8:=by simpa using hrl
    refine st zad ?_;ac_rfl;rw [List.append_assoc]
    exact hfa _ _ (kq ⟨ps,[104],[.str [107]],rs⟩ ⟨hrG,by show rs.length<=90;omega,by intro z;simp only at z;rw [z] at hp;cases hp⟩)
theorem zkO (n:Nat) {c:Int} {h:Sto} (kq:∀ T':Tab,T'.Good->Q (.d (tabD T')) h):Ok (zaf P (n+3) 37 [.d (.int c)] h) Q:=by
 refine cl rfl rfl rfl ?_;refine br (λc1=>?_) (λc1=>?_)
 ·exact ask (zmM n λT' g=>f0 (kq T' g))
 ·have c1:(c % 3==2)=false:=c1
  have c2:¬ c % 3=2:=by simpa using c1
  refine ask (zhS (n+1) ?_);refine ask (zhC (n+1) ?_);have h1:0<=c % 3:=Int.emod_nonneg _ (by decide);have h2:c % 3<3:=Int.emod_lt_of_pos _ (by decide)
  obtain ⟨T,hT,e⟩:=zca (f:=tabD) (xs:=[zfC,zeT]) (i:=c % 3) h1 (by show c % 3<2;omega)
  have hG:T.Good/\T.rows≠[]/\∀ r∈T.rows,r.m.length<=10:=by
   simp only [List.mem_cons,List.not_mem_nil,or_false] at hT
   rcases hT with rfl | rfl
   ·exact ⟨zoo,by decide,by intro r hr;simp only [zfC,List.mem_cons,List.not_mem_nil,or_false] at hr;rcases hr with rfl | rfl | rfl | rfl | rfl | rfl | rfl | rfl | rfl<;>decide⟩
   ·exact ⟨zmI,by decide,by intro r hr;simp only [zeT,List.mem_cons,List.not_mem_nil,or_false] at hr;rcases hr with rfl | rfl | rfl | rfl | rfl<;>decide⟩
  refine st e ?_;refine br (λc3=>?_) (λc3=>?_)
  ·exact f0 (kq T hG.1)
  ·exact ask (zmV (n) hG.1 hG.2.1 hG.2.2 λT' g=>f0 (kq T' g))
variable {Q:R->Sto->Prop}
structure Ord (o:List Nat) (m:Nat):Prop where
 perm:o.Perm (List.range m)
theorem Ord.nd (h:Ord o m):o.Nodup:=h.perm.nodup_iff.mpr List.nodup_range
theorem Ord.len (h:Ord o m):o.length=m:=by rw [h.perm.length_eq,List.length_range]
theorem Ord.mem (h:Ord o m):k∈o↔k<m:=by rw [h.perm.mem_iff,List.mem_range]
noncomputable def ix (o:List Nat) (k:Nat):Nat:=o.idxOf k
theorem Ord.ix (h:Ord o m) (hk:k<m):o[K23.ix o k]?=some k:=by
 have hm:=h.mem.mpr hk;have hl:K23.ix o k<o.length:=List.idxOf_lt_length_of_mem hm;rw [List.getElem?_eq_getElem hl];exact congrArg some (List.getElem_idxOf hl)
theorem Ord.ix_lt (h:Ord o m) (hk:k<m):K23.ix o k<m:=by
 have:=(List.getElem?_eq_some_iff.mp (h.ix hk)).1
 rw [h.len] at this;exact this
theorem Ord.inj (h:Ord o m) {i j:Nat} (e1:o[i]?=some k) (e2:o[j]?=some k):i=j:=by
 obtain ⟨h1,e1⟩:=List.getElem?_eq_some_iff.mp e1;obtain ⟨h2,e2⟩:=List.getElem?_eq_some_iff.mp e2;exact (List.getElem_inj h.nd).mp (e1.trans e2.symm)
noncomputable def ren (o:List Nat) (ls:List Ln):List Ln:=o.map λj=>(ls[j]?).getD (ln0 [])
section
variable {o:List Nat} {m:Nat} {ls:List Ln} {l:Ln} {k:Nat}
theorem zbI (h:Ord o m):(ren o ls).length=m:=by unfold ren;rw [List.length_map,h.len]
theorem zdP (h:Ord o m) (hl:ls.length=m) (j:Nat) (hj:j<m):∃ i,i<m/\o[j]?=some i/\(ren o ls)[j]?=ls[i]?:=by
 have hj':j<o.length:=by rw [h.len];exact hj
 have e:o[j]?=some o[j]:=List.getElem?_eq_getElem hj';have hi:o[j]<m:=h.mem.mp (List.getElem_mem hj');refine ⟨o[j],hi,e,?_⟩;unfold ren;rw [List.getElem?_map,e];show some ((ls[o[j]]?).getD (ln0 []))=_;rw [List.getElem?_eq_getElem (show o[j]<ls.length by omega)];rfl
theorem zd9 (h:Ord o m) (hl:ls.length=m) (hk:k<m):(ren o ls)[ix o k]?=ls[k]?:=by
 obtain ⟨i,hi,e,e2⟩:=zdP h hl (ix o k) (h.ix_lt hk);rw [h.ix hk] at e;cases e;exact e2
theorem zhg {a b:List Ln} (ha:a.length=m) (hb:b.length=m) (e:∀ j,j<m->a[j]?=b[j]?):a=b:=by
 refine List.ext_getElem? λj=>?_
 by_cases hj:j<m
 ·exact e j hj
 ·rw [List.getElem?_eq_none (by omega),List.getElem?_eq_none (by omega)]
theorem zbp (h:Ord o m) (hl:ls.length=m) (hk:k<m):ren o (ls.set k l)=(ren o ls).set (ix o k) l:=by
 refine zhg (zbI h) (by rw [List.length_set,zbI h]) λj hj=>?_;obtain ⟨i,hi,e,e2⟩:=zdP (ls:=ls.set k l) h (by simpa using hl) j hj;obtain ⟨i',hi',e',e2'⟩:=zdP (ls:=ls) h hl j hj;rw [e] at e';cases e';rw [e2]
 by_cases c:i=k
 ·subst c
  have:=h.inj e (h.ix hk)
  subst this
  rw [List.getElem?_set_self (by omega),List.getElem?_set_self (by rw [zbI h];exact hj)]
 ·have hne:ix o k≠j:=λz=>c (by rw [<-z,h.ix hk] at e;cases e;rfl)
  rw [List.getElem?_set_ne (Ne.symm c),List.getElem?_set_ne hne,e2']
theorem zr0 (h:Ord o m) (hl:ls.length=m) (f:Ln->Ln):ren o (ls.map f)=(ren o ls).map f:=by
 refine zhg (zbI h) (by rw [List.length_map,zbI h]) λj hj=>?_;obtain ⟨i,hi,e,e2⟩:=zdP (ls:=ls.map f) h (by simpa using hl) j hj;obtain ⟨i',hi',e',e2'⟩:=zdP (ls:=ls) h hl j hj;rw [e] at e';cases e';rw [e2,List.getElem?_map,List.getElem?_map,e2']
theorem zpn (h:Ord o m) (hl:ls.length=m):(ren o ls).Perm ls:=by
 have e:ls=(List.range m).map λj=>(ls[j]?).getD (ln0 []):=by
  refine List.ext_getElem? λj=>?_
  by_cases hj:j<m
  ·rw [List.getElem?_map,List.getElem?_range hj,List.getElem?_eq_getElem (by omega:j<ls.length)]
   simp [List.getElem?_eq_getElem (by omega:j<ls.length)]
  ·rw [List.getElem?_eq_none (by omega),List.getElem?_eq_none (by simp;omega)]
 exact (h.perm.map λj=>(ls[j]?).getD (ln0 [])).trans (by rw [<-e])
end
noncomputable def renA (o:List Nat):D->D
 | .tup [.str w,.int k,.int n]=>.tup [.str w,.int (ix o k.toNat),.int n]
 | x=>x
noncomputable def renH (o:List Nat) (X:Hl):Hl:={ X with ls:=ren o X.ls,ans:=renA o X.ans }
section
variable {o:List Nat} {m:Nat} {X:Hl} {l:Ln} {k:Nat}
theorem zoi (h:Ord o m) (hl:X.ls.length=m) (el:X.ls[k]?=some l) (v:Val) (a:HA):doHA (renH o X) (ix o k) l v a=renH o (doHA X k l v a):=by
 have hk:k<m:=by rw [<-hl];exact (List.getElem?_eq_some_iff.mp el).1
 cases a with
 | keep=>simp only [doHA,renH,zbp h hl hk]
 | lose=>simp only [doHA,renH,zbp h hl hk]
 | put=>simp only [doHA,putV,renH,zbp h hl hk,renA,Int.toNat_natCast]
 | tell=>
  simp only [doHA,zeq]
  split
  ·rfl
  ·have e:(renH o X).la=X.la:=rfl
   rw [e]
   split
   ·simp only [renH,renA,Int.toNat_natCast]
   ·rfl
 | send mm ld=>simp only [doHA,znC,renH,zbp h hl hk]
theorem zei:(renH o X).brk=X.brk:=rfl
theorem zdI (h:Ord o m) (v:Val):∀ (as:List HA) (X:Hl),X.ls.length=m->k<m->zb5 (ix o k) v as (renH o X)=renH o (zb5 k v as X)
 | [],X,hl,hk=>rfl
 | a::as,X,hl,hk=>by
  have el:X.ls[k]?=some X.ls[k]:=List.getElem?_eq_getElem (by omega);generalize X.ls[k]=l at el;have e2:(renH o X).ls[ix o k]?=some l:=(zd9 h hl hk).trans el;simp only [zb5,el,e2];rw [zoi h hl el,zei]
  split
  ·exact zdI h v as _ (by rw [zeI];exact hl) hk
  ·rfl
theorem zgV (h:Ord o m) (hl:X.ls.length=m) (hk:k<m) (nx:Tx):toSt (renH o X) (ix o k) nx=renH o (toSt X k nx):=by
 have el:X.ls[k]?=some X.ls[k]:=List.getElem?_eq_getElem (by omega);generalize X.ls[k]=l at el;have e2:(renH o X).ls[ix o k]?=some l:=(zd9 h hl hk).trans el;unfold toSt;rw [zei]
 split
 ·simp only [el,e2]
  simp only [renH,zbp h hl hk]
 ·rfl
theorem zjo {ls:List Ln}:∀ {j:Nat} {i:Int},ls[j]?=some l->(i+j,l)∈nums i ls:=by
 induction ls with
 | nil=>intro j i e;simp at e
 | cons x xs ih=>
  intro j i e
  cases j with
  | zero=>cases e;simp [nums]
  | succ j=>
   have:=ih (j:=j) (i:=i+1) (by simpa using e)
   rw [nums];refine List.mem_cons_of_mem _ ?_
   rwa [show i+((j+1:Nat):Int)=i+1+(j:Int) by omega]
noncomputable def rcv (w k i:Nat) (l:Ln):Bool:=if w=0 then i==k else if w=1 then hasF 2 l else hasF 1 l&&(i != k)
theorem zke {w:Nat} (hk:k<X.ls.length) {i:Nat}:i∈recv X k w↔∃ l,X.ls[i]?=some l/\rcv w k i l=true:=by
 unfold recv rcv
 split
 ·simp only [List.mem_singleton,beq_iff_eq]
  constructor
  ·rintro rfl;exact ⟨X.ls[i],List.getElem?_eq_getElem hk,rfl⟩
  ·rintro ⟨_,_,e⟩;exact e
 ·split
  ·constructor
   ·intro hi
    obtain ⟨x,hx,rfl⟩:=List.mem_map.mp hi;obtain ⟨h1,h2⟩:=List.mem_filter.mp hx;exact ⟨x.2,(zb7 h1).2.2,h2⟩
   ·rintro ⟨l,e,hf⟩
    have:=zjo (i:=0) e
    rw [Int.zero_add] at this;exact List.mem_map.mpr ⟨_,List.mem_filter.mpr ⟨this,hf⟩,Int.toNat_natCast i⟩
  ·constructor
   ·intro hi
    obtain ⟨x,hx,rfl⟩:=List.mem_map.mp hi;obtain ⟨h1,h2⟩:=List.mem_filter.mp hx;obtain ⟨h3,h4⟩:=List.mem_filter.mp h1;have hn:=zb7 h3;refine ⟨x.2,hn.2.2,?_⟩;rw [Bool.and_eq_true];refine ⟨h4,?_⟩;simp only [bne_iff_ne,ne_eq] at h2 ⊢;omega
   ·rintro ⟨l,e,hf⟩
    rw [Bool.and_eq_true] at hf
    have:=zjo (i:=0) e
    rw [Int.zero_add] at this;refine List.mem_map.mpr ⟨_,List.mem_filter.mpr ⟨List.mem_filter.mpr ⟨this,hf.1⟩,?_⟩,Int.toNat_natCast i⟩
    have:=hf.2
    simp only [bne_iff_ne,ne_eq] at this ⊢;omega
theorem zr5 {ls:List Ln}:∀ i:Nat,((nums (i:Int) ls).map (·.1.toNat))=List.range' i ls.length:=by
 induction ls with
 | nil=>intro i;rfl
 | cons x xs ih=>
  intro i
  have:=ih (i+1)
  push_cast at this
  rw [nums,List.map_cons,this,List.length_cons,List.range'_succ];rfl
theorem zgN {w:Nat}:(recv X k w).Nodup:=by
 have h0:((nums 0 X.ls).map (·.1.toNat)).Nodup:=by
  have:=zr5 (ls:=X.ls) 0
  rw [show ((0:Nat):Int)=0 from rfl] at this;rw [this];exact List.nodup_range'
 unfold recv
 split
 ·simp
 ·split
  ·exact h0.sublist (List.filter_sublist.map _)
  ·exact h0.sublist ((List.filter_sublist.trans List.filter_sublist).map _)
noncomputable def ptTo (x:Lt) (l:Ln):Ln:={ l with to:=post l.to x }
theorem ziD (x:Lt):∀ (is:List Nat) (X:Hl) (i:Nat),is.Nodup->(∀ j∈is,j<X.ls.length)->(is.foldl (zav x) X).ls[i]?=(X.ls[i]?).map λl=>if i∈is then ptTo x l else l
 | [],X,i,_,_=>by simp
 | a::is,X,i,nd,hl=>by
  obtain ⟨n1,n2⟩:=List.nodup_cons.mp nd;have ha:=hl a (by simp);have el:X.ls[a]?=some X.ls[a]:=List.getElem?_eq_getElem ha;generalize X.ls[a]=l at el
  have es:zav x X a={ X with ls:=X.ls.set a (ptTo x l),brk:=pbrk l.to X.brk }:=by
   unfold zav;rw [el];rfl
  rw [List.foldl_cons,ziD x is _ i n2 (λj hj=>by rw [zcL];exact hl j (by simp [hj])),es]
  show (X.ls.set a (ptTo x l))[i]?.map _=_
  by_cases c:i=a
  ·subst c
   rw [List.getElem?_set_self ha,el];simp [n1]
  ·rw [List.getElem?_set_ne (Ne.symm c)]
   congr 1
   funext l
   simp [c]
noncomputable def zbZ (X:Hl) (i:Nat):Bool:=match X.ls[i]? with
 | some l=>decide (2<=l.to.length)
 | none=>false
theorem zgx (x:Lt):∀ (is:List Nat) (X:Hl),is.Nodup->(∀ j∈is,j<X.ls.length)->(is.foldl (zav x) X).brk=if is.any (zbZ X) then bad zoQ else X.brk
 | [],X,_,_=>rfl
 | a :: is,X,nd,hl=>by
  obtain ⟨n1,n2⟩:=List.nodup_cons.mp nd;have ha:=hl a (by simp);have el:X.ls[a]?=some X.ls[a]:=List.getElem?_eq_getElem ha;generalize X.ls[a]=l at el
  have es:zav x X a={ X with ls:=X.ls.set a (ptTo x l),brk:=pbrk l.to X.brk }:=by
   unfold zav;rw [el];rfl
  rw [List.foldl_cons,zgx x is _ n2 (λj hj=>by rw [zcL];exact hl j (by simp [hj])),es]
  have e1:is.any (zbZ { X with ls:=X.ls.set a (ptTo x l),brk:=pbrk l.to X.brk })=is.any (zbZ X):=by
   refine zd4 ?_;simp only [List.any_eq_true]
   have:∀ j∈is,zbZ { X with ls:=X.ls.set a (ptTo x l),brk:=pbrk l.to X.brk } j=zbZ X j:=λj hj=>by
    unfold zbZ;show (match (X.ls.set a (ptTo x l))[j]? with | some l=>decide (2<=l.to.length) | none=>false)=_;rw [List.getElem?_set_ne (λz:a=j=>n1 (z▸hj))]
   constructor<;>rintro ⟨j,hj,e⟩
   ·exact ⟨j,hj,by rw [<-this j hj];exact e⟩
   ·exact ⟨j,hj,by rw [this j hj];exact e⟩
  rw [e1,List.any_cons]
  have e2:zbZ X a=decide (2<=l.to.length):=by unfold zbZ;rw [el]
  rw [e2];show (if is.any (zbZ X)=true then bad zoQ else pbrk l.to X.brk)=_;unfold pbrk
  by_cases c:2<=l.to.length
  ·simp [c]
  ·simp [c]
theorem zdR (x:Lt):∀ (is:List Nat) (X:Hl),(is.foldl (zav x) X).s=X.s/\(is.foldl (zav x) X).sr=X.sr/\(is.foldl (zav x) X).la=X.la/\(is.foldl (zav x) X).ans=X.ans
 | [],X=>⟨rfl,rfl,rfl,rfl⟩
 | a::is,X=>by
  rw [List.foldl_cons];obtain ⟨h1,h2,h3,h4⟩:=zdR x is (zav x X a);rw [h1,h2,h3,h4];unfold zav zkq
  split<;>exact ⟨rfl,rfl,rfl,rfl⟩
theorem Hl.ext' {X Y:Hl} (h1:X.s=Y.s) (h2:X.sr=Y.sr) (h3:X.la=Y.la) (h4:X.ls=Y.ls) (h5:X.ans=Y.ans) (h6:X.brk=Y.brk):X=Y:=by
 cases X;cases Y;simp only at h1 h2 h3 h4 h5 h6;subst h1 h2 h3 h4 h5 h6;rfl
theorem zgX (h:Ord o m) (hl:X.ls.length=m) (hk:k<m) {w j:Nat} (hj:j<m):∃ i,i<m/\o[j]?=some i/\(ren o X.ls)[j]?=X.ls[i]?/\(j∈recv (renH o X) (ix o k) w↔i∈recv X k w):=by
 obtain ⟨i,hi,e,e2⟩:=zdP h hl j hj;refine ⟨i,hi,e,e2,?_⟩
 have hkk:(j==ix o k)=(i==k):=by
  refine zd4 ?_;simp only [beq_iff_eq];constructor
  ·rintro rfl;rw [h.ix hk] at e;cases e;rfl
  ·rintro rfl;exact h.inj e (h.ix hk)
 rw [zke (show ix o k<(renH o X).ls.length by show _<(ren o X.ls).length;rw [zbI h];exact h.ix_lt hk),zke (by omega)]
 show (∃ l,(ren o X.ls)[j]?=some l/\rcv w (ix o k) j l=true)↔_;rw [e2]
 have:∀ l,rcv w (ix o k) j l=rcv w k i l:=λl=>by
  unfold rcv
  rw [hkk,show (j != ix o k)=(i != k) by unfold bne;rw [hkk]]
 simp only [this]
theorem zmy (h:Ord o m) (hl:X.ls.length=m) (hk:k<m) (w:Nat) (mm ld:Tx):zk7 (renH o X) (ix o k) w mm ld=renH o (zk7 X k w mm ld):=by
 unfold zk7;have hsr:(renH o X).sr=X.sr:=rfl;rw [hsr];generalize (mm,load ld X.sr)=x;have hlr:(renH o X).ls.length=m:=zbI h
 have b1:∀ j∈recv (renH o X) (ix o k) w,j<(renH o X).ls.length:=zjd (by rw [hlr];exact h.ix_lt hk)
 have b2:∀ j∈recv X k w,j<X.ls.length:=zjd (by omega);obtain ⟨r1,r2,r3,r4⟩:=zdR x (recv (renH o X) (ix o k) w) (renH o X);obtain ⟨q1,q2,q3,q4⟩:=zdR x (recv X k w) X
 have hlf:((recv X k w).foldl (zav x) X).ls.length=m:=by rw [zdy];exact hl
 refine Hl.ext' (r1.trans q1.symm) (r2.trans q2.symm) (r3.trans q3.symm) ?_ ?_ ?_
 ·refine zhg (m:=m) (by rw [zdy];exact hlr) (zbI h) λj hj=>?_
  obtain ⟨i,hi,e,e2,e3⟩:=zgX (w:=w) h hl hk hj;obtain ⟨i',hi',e',e2'⟩:=zdP (ls:=((recv X k w).foldl (zav x) X).ls) h hlf j hj;rw [e] at e';cases e';show _=(ren o ((recv X k w).foldl (zav x) X).ls)[j]?;rw [e2',ziD x _ _ j zgN b1,ziD x _ _ i zgN b2];show (ren o X.ls)[j]?.map _=_;rw [e2]
  congr 1
  funext l
  simp only [e3]
 ·show _=renA o ((recv X k w).foldl (zav x) X).ans
  rw [r4,q4];rfl
 ·show _=((recv X k w).foldl (zav x) X).brk
  rw [zgx x _ _ zgN b1,zgx x _ _ zgN b2]
  have:(recv (renH o X) (ix o k) w).any (zbZ (renH o X))=(recv X k w).any (zbZ X):=by
   refine zd4 ?_;simp only [List.any_eq_true];constructor
   ·rintro ⟨j,hj,e⟩
    have hjm:j<m:=by have:=b1 j hj;omega
    obtain ⟨i,hi,e1,e2,e3⟩:=zgX (w:=w) h hl hk hjm;refine ⟨i,e3.mp hj,?_⟩;unfold zbZ at e ⊢;rw [<-e2];exact e
   ·rintro ⟨i,hi,e⟩
    have him:i<m:=by have:=b2 i hi;omega
    obtain ⟨i',hi',e1,e2,e3⟩:=zgX (w:=w) h hl hk (h.ix_lt him);rw [h.ix him] at e1;cases e1;refine ⟨ix o i,e3.mpr hi,?_⟩;unfold zbZ at e ⊢;show (match (ren o X.ls)[ix o i]? with | some l=>decide (2<=l.to.length) | none=>false)=true;rw [e2];exact e
  rw [this];rfl
end
variable {Q:R->Sto->Prop}
section
variable {o:List Nat} {m:Nat} {X:Hl} {l:Ln} {k:Nat} {T:Tab}
theorem znU (h:Ord o m) (hl:X.ls.length=m) (el:X.ls[k]?=some l) (v:Val) (a:OA):doOA (renH o X) (ix o k) l v a=renH o (doOA X k l v a):=by
 have hk:k<m:=by rw [<-hl];exact (List.getElem?_eq_some_iff.mp el).1
 cases a with
 | keep=>rfl
 | own=>simp only [doOA,renH,zbp h hl hk]
 | share=>simp only [doOA,renH,zbp h hl hk]
 | forget=>simp only [doOA,renH,zbp h hl hk]
 | clear=>simp only [doOA,K23.forget,renH,zr0 h hl]
 | stay=>rfl
 | send w mm ld=>exact zmy h hl hk w mm ld
theorem zhK (h:Ord o m) (v:Val):∀ (as:List OA) (X:Hl),X.ls.length=m->k<m->zco (ix o k) v as (renH o X)=renH o (zco k v as X)
 | [],X,hl,hk=>rfl
 | a::as,X,hl,hk=>by
  have el:X.ls[k]?=some X.ls[k]:=List.getElem?_eq_getElem (by omega);generalize X.ls[k]=l at el;have e2:(renH o X).ls[ix o k]?=some l:=(zd9 h hl hk).trans el;simp only [zco,el,e2];rw [znU h hl el,zei]
  split
  ·exact zhK h v as _ (by rw [zeK];exact hl) hk
  ·rfl
theorem zpz (nx:Tx):toHs (renH o X) nx=renH o (toHs X nx):=by
 unfold toHs;rw [zei]
 split<;>rfl
theorem zme {ls:List Ln}:(oth k ls).isEmpty=true↔∀ i l,ls[i]?=some l->hasF 1 l=true->i=k:=by
 constructor
 ·intro h i l e hf
  by_cases c:i=k
  ·exact c
  ·exfalso
   have h1:=zjo (i:=0) e;rw [Int.zero_add] at h1
   have:((i:Int),l)∈oth k ls:=List.mem_filter.mpr ⟨List.mem_filter.mpr ⟨h1,hf⟩,by simp only [bne_iff_ne,ne_eq];omega⟩
   rw [List.isEmpty_iff.mp h] at this;cases this
 ·intro h
  rw [List.isEmpty_iff];refine List.eq_nil_iff_forall_not_mem.mpr λx hx=>?_;obtain ⟨h1,h2⟩:=List.mem_filter.mp hx;obtain ⟨h3,h4⟩:=List.mem_filter.mp h1;have hn:=zb7 h3
  have:=h _ _ hn.2.2 h4
  simp only [bne_iff_ne,ne_eq] at h2;omega
theorem zr7 (h:Ord o m) {ls:List Ln} (hl:ls.length=m) (hk:k<m):(oth (ix o k) (ren o ls)).isEmpty=(oth k ls).isEmpty:=by
 refine zd4 ?_;rw [zme,zme];constructor
 ·intro H i l e hf
  have hi:i<m:=by have:=(List.getElem?_eq_some_iff.mp e).1;omega
  have:=H (ix o i) l ((zd9 h hl hi).trans e) hf
  have h1:=h.ix hi;rw [this,h.ix hk] at h1;cases h1;rfl
 ·intro H j l e hf
  have hj:j<m:=by have:=(List.getElem?_eq_some_iff.mp e).1;rw [zbI h] at this;exact this
  obtain ⟨i,hi,e1,e2⟩:=zdP h hl j hj;rw [e2] at e
  have:=H i l e hf
  subst this;exact h.inj e1 (h.ix hk)
noncomputable def renD (o:List Nat):Deed->Deed
 | .ask k e x=>.ask (ix o k.toNat) e x
 | .take k j=>.take (ix o k.toNat) j
 | .get k j=>.get (ix o k.toNat) j
theorem zpQ {d:Deed}:(renD o d).k=(ix o d.k.toNat:Int):=by cases d<;>rfl
theorem zmg {d:Deed} (h:d.Ok):(renD o d).Ok:=by cases d<;>exact h
theorem zij (h:Ord o m) (hl:X.ls.length=m) {d:Deed} (hk:d.k.toNat<m):zfx T (renH o X) l (renD o d)=zfx T X l d:=by
 cases d with
 | ask k e x=>rfl
 | take k j=>rfl
 | get k j=>
  show (match l.back[j.toNat]? with | some lt=>zey T X.s lt.1 (oth (Int.toNat (ix o k.toNat:Int)) (ren o X.ls)).isEmpty | none=>none)=_;rw [Int.toNat_natCast,zr7 h hl (show k.toNat<m from hk)];rfl
theorem zpA (h:Ord o m) (hl:X.ls.length=m) {d:Deed} (hk:d.k.toNat<m):mayL T (renH o X) l (renD o d)=mayL T X l d:=by
 have e:=zij (T:=T) (l:=l) h hl hk
 cases d with
 | ask k e x=>rfl
 | take k j=>rfl
 | get k j=>
  show (decide (0<=j)&&decide (j<l.back.length)&&goes (zfx T (renH o X) l (renD o (.get k j))))=_;rw [e];rfl
theorem zoV (h:Ord o m) (hl:X.ls.length=m) {d:Deed} (h0:0<=d.k) (hk:d.k.toNat<m):mayB T (renH o X) (renD o d)=mayB T X d:=by
 have el:X.ls[d.k.toNat]?=some X.ls[d.k.toNat]:=List.getElem?_eq_getElem (by omega);generalize X.ls[d.k.toNat]=l at el;have e2:(renH o X).ls[ix o d.k.toNat]?=some l:=(zd9 h hl hk).trans el;unfold mayB;rw [zpQ,if_pos (by omega),if_pos h0,Int.toNat_natCast,e2,el];exact zpA h hl hk
theorem zmY (h:mayB T X d=true):0<=d.k/\d.k.toNat<X.ls.length:=by
 unfold mayB at h
 split at h
 ·rename_i c
  split at h
  ·rename_i l el
   exact ⟨c,(List.getElem?_eq_some_iff.mp el).1⟩
  ·cases h
 ·cases h
theorem znd (h:Ord o m) (hl:X.ls.length=m) {d:Deed} (hk:d.k.toNat<m) (el:X.ls[d.k.toNat]?=some l) (r:Row):zbD (renH o X) l r (renD o d)=renH o (zbD X l r d):=by
 cases d with
 | ask k e x=>
  replace hk:k.toNat<m:=hk;replace el:X.ls[k.toNat]?=some l:=el;simp only [renD,zbD,Int.toNat_natCast]
  split
  ·unfold zle
   cases x with
   | none=>
    simp only
    rw [zdI h _ _ _ hl hk,zgV h (by rw [zd3];exact hl) hk]
   | some n=>
    have e:({ renH o X with ls:=(renH o X).ls.set (ix o k.toNat) { l with want:=n } }:Hl)=renH o { X with ls:=X.ls.set k.toNat { l with want:=n } }:=by
     simp only [renH,zbp h hl hk]
    simp only
    rw [e,zdI h _ _ _ (by simpa using hl) hk,zgV h (by rw [zd3];simpa using hl) hk]
  ·rfl
 | take k j=>
  replace hk:k.toNat<m:=hk;simp only [renD,zbD,Int.toNat_natCast]
  split
  ·unfold zf7
   have e:({ renH o X with ls:=(renH o X).ls.set (ix o k.toNat) { l with to:=wout l.to j.toNat } }:Hl)=renH o { X with ls:=X.ls.set k.toNat { l with to:=wout l.to j.toNat } }:=by
    simp only [renH,zbp h hl hk]
   rw [e,zdI h _ _ _ (by simpa using hl) hk,zgV h (by rw [zd3];simpa using hl) hk]
  ·rfl
 | get k j=>
  replace hk:k.toNat<m:=hk;simp only [renD,zbD,Int.toNat_natCast]
  split
  ·rename_i as _
   unfold zla
   have e:gotX (renH o X) (ix o k.toNat) l j.toNat as=renH o (gotX X k.toNat l j.toNat as):=by
    unfold gotX
    split
    ·rfl
    ·simp only [renH,zbp h hl hk]
   rw [e,zhK h _ _ _ (by rw [zlC];exact hl) hk,zpz]
  ·rfl
theorem zqs (h:Ord o m) {ls:List Ln} (hl:ls.length=m):clB T (ren o ls)=clB T ls:=by
 have p:=zpn h hl;unfold clB;rw [p.length_eq,p.countP_eq]
 congr 1
 refine zd4 ?_;simp only [List.any_eq_true]
 constructor<;>rintro ⟨x,hx,e⟩
 ·exact ⟨x,p.mem_iff.mp hx,e⟩
 ·exact ⟨x,p.mem_iff.mpr hx,e⟩
theorem ziW (h:Ord o m) (hl:X.ls.length=m):zbM T (renH o X)=renH o (zbM T X):=by
 unfold zbM;rw [zei,show (renH o X).ls=ren o X.ls from rfl,zqs h hl]
 split<;>rfl
theorem zoc (h:Ord o m) (hl:X.ls.length=m) {d:Deed} (hk:d.k.toNat<m) (ho:LsOk X.ls):zbv T (renH o X) (renD o d)=renH o (zbv T X d):=by
 have el:X.ls[d.k.toNat]?=some X.ls[d.k.toNat]:=List.getElem?_eq_getElem (by omega);generalize X.ls[d.k.toNat]=l at el;have e2:(renH o X).ls[ix o d.k.toNat]?=some l:=(zd9 h hl hk).trans el;unfold zbv;rw [zpQ,Int.toNat_natCast,e2,el];simp only;rw [zij h hl hk]
 split
 ·rfl
 ·rw [znd h hl hk el,ziW h (by rw [(zp0 ho el).2];exact hl)]
noncomputable def renS (o:List Nat) (S:Sd):Sd:={ S with ls:=ren o S.ls }
theorem zpc (h:Ord o m) {S:Sd} (hS:SdOk S) (hl:S.ls.length=m) {d:Deed} (hm:may1 T S d=true):may1 T (renS o S) (renD o d)=true/\zaw T (renS o S) (renD o d)=renH o (zaw T S d):=by
 have hk:=zmY hm
 have hk2:d.k.toNat<m:=by rw [<-hl];exact hk.2
 have e:hlOf (renS o S)=renH o (hlOf S):=rfl;unfold may1 zaw at *;rw [e];exact ⟨(zoV h hl hk.1 hk2).trans hm,zoc h hl hk2 hS.ls⟩
theorem zn0 {as:List D} {a:D}:(addA as a).map (renA o)=addA (as.map (renA o)) (renA o a):=by
 have:zap (renA o a)=zap a:=by
  unfold renA
  split<;>rfl
 unfold addA;rw [this]
 split
 ·rfl
 ·simp
theorem zj4 (h:Ord o m):∀ (ds:List Deed) (S:Sd) (as:List D),SdOk S->S.ls.length=m->Runs T ds S->Runs T (ds.map (renD o)) (renS o S)/\zbo T (ds.map (renD o)) (renS o S) (as.map (renA o))=(renS o (zbo T ds S as).1,(zbo T ds S as).2.1.map (renA o),(zbo T ds S as).2.2)
 | [],S,as,_,_,_=>⟨trivial,rfl⟩
 | d::ds,S,as,hS,hl,⟨r1,r2,r3⟩=>by
  obtain ⟨e1,e2⟩:=zpc (T:=T) h hS hl r2;have ex:sdOf (renH o (zaw T S d))=renS o (sdOf (zaw T S d)):=rfl;rw [List.map_cons,Runs,zbo,zbo,e2,zei]
  cases c:zap (zaw T S d).brk with
  | true=>
   rw [if_pos rfl,if_pos rfl,ex];have ih:=zj4 h ds (sdOf (zaw T S d)) (addA as (zaw T S d).ans) (zct hS) ((zeN hS).trans hl) (r3 c);rw [zn0] at ih;exact ⟨⟨zmg r1,e1,λ_=>ih.1⟩,ih.2⟩
  | false=>
   rw [if_neg (by decide),if_neg (by decide)];exact ⟨⟨zmg r1,e1,λz=>by cases z⟩,rfl⟩
noncomputable def isA (m:Nat) (a:D):Prop:=∃ w k n,k<m/\a=.tup [.str w,.int (k:Nat),.int n]
noncomputable def zf0 (m:Nat) (a:D):Prop:=zap a=true\/isA m a
theorem zqf {a:HA} (hk:k<m) (h:zf0 m X.ans):zf0 m (doHA X k l v a).ans:=by
 cases a with
 | put=>exact .inr ⟨_,k,_,hk,rfl⟩
 | tell=>
  show zf0 m (zeq X k l).ans;unfold zeq
  split
  ·exact h
  ·split
   ·exact .inr ⟨_,k,_,hk,rfl⟩
   ·exact h
 | _=>exact h
theorem zjm (hk:k<m):∀ {as:List HA} {X:Hl},zf0 m X.ans->zf0 m (zb5 k v as X).ans
 | [],X,h=>h
 | a::as,X,h=>by
  unfold zb5
  split
  ·split
   ·exact zjm hk (zqf hk h)
   ·exact zqf hk h
  ·exact h
theorem zpN {a:OA}:(doOA X k l v a).ans=X.ans:=by
 cases a with
 | send w mm ld=>exact (zdR _ _ _).2.2.2
 | _=>rfl
theorem znq:∀ {as:List OA} {X:Hl},(zco k v as X).ans=X.ans
 | [],X=>rfl
 | a::as,X=>by
  unfold zco
  split
  ·split
   ·rw [znq,zpN]
   ·rw [zpN]
  ·rfl
theorem zjR:(toSt X k nx).ans=X.ans:=by
 unfold toSt
 split
 ·split<;>rfl
 ·rfl
theorem zoB:(toHs X nx).ans=X.ans:=by unfold toHs;split<;>rfl
theorem znw {r:Row} {d:Deed} (hk:d.k.toNat<m) (h:zf0 m X.ans):zf0 m (zbD X l r d).ans:=by
 cases d with
 | ask k e x=>
  unfold zbD;simp only
  split
  ·unfold zle
   rw [zjR];refine zjm hk ?_
   cases x<;>exact h
  ·exact h
 | take k j=>
  unfold zbD;simp only
  split
  ·unfold zf7
   rw [zjR];exact zjm hk h
  ·exact h
 | get k j=>
  unfold zbD;simp only
  split
  ·unfold zla
   rw [zoB,znq];unfold gotX
   split<;>exact h
  ·exact h
theorem zpB {d:Deed} (hk:d.k.toNat<m) (h:zf0 m X.ans):zf0 m (zbv T X d).ans:=by
 unfold zbv
 split
 ·exact h
 ·split
  ·exact h
  ·unfold zbM
   split
   ·exact znw hk h
   ·exact znw hk h
theorem zeF:∀ (ds:List Deed) (S:Sd) (as:List D),SdOk S->S.ls.length=m->Runs T ds S->(∀ a∈as,isA m a)->∀ a∈(zbo T ds S as).2.1,isA m a
 | [],S,as,_,_,_,h=>h
 | d :: ds,S,as,hS,hl,⟨r1,r2,r3⟩,h=>by
  rw [zbo]
  split
  ·rename_i c
   refine zeF ds _ _ (zct hS) ((zeN hS).trans hl) (r3 c) ?_
   have ha:zf0 m (zaw T S d).ans:=zpB (X:=hlOf S) (by rw [<-hl];exact (zmY r2).2) (.inl rfl)
   unfold addA
   split
   ·exact h
   ·rename_i c2
    intro a hx
    rcases List.mem_append.mp hx with z | z
    ·exact h a z
    ·rw [List.mem_singleton.mp z]
     rcases ha with z | z
     ·exact absurd z c2
     ·exact z
  ·exact h
end
variable {Q:R->Sto->Prop}
theorem zgo:∀ {b:List Nat} {i x:Nat},b[i]?=some x->(x::b.eraseIdx i).Perm b
 | [],i,x,e=>by simp at e
 | y::b,0,x,e=>by cases e;exact .refl _
 | y::b,i+1,x,e=>(List.Perm.swap y x _).trans (.cons y (zgo (b:=b) (i:=i) (by simpa using e)))
theorem zon {a b:List Nat} {i:Nat} {x:Nat} (e:b[i]?=some x):((a++[x])++b.eraseIdx i).Perm (a++b):=by
 rw [List.append_assoc];exact (zgo e).append_left a
theorem zkh {c:Env->M Bool} {f:Env->M (Fl×Env)} {Q:Fl×Env->Sto->Prop} (I:Nat->Env->Sto->Prop)
  (step:∀ k σ h,I (k+1) σ h->Ok (c σ h) λt h1=>t=true/\Ok (f σ h1) λp h2=>p.1=.nx/\I k p.2 h2)
  (fin:∀ σ h,I 0 σ h->Ok (c σ h) λt h1=>t=false/\Q (.nx,σ) h1):∀ (n k:Nat) (σ:Env) (h:Sto),k<n->I k σ h->Ok (zeC c f n σ h) Q
 | 0,k,σ,h,hk,_=>absurd hk (by omega)
 | n+1,0,σ,h,hk,q=>by
  obtain ⟨t,h1,e,rfl,q⟩:=fin σ h q;unfold zeC;simp only [bnd,e];exact ok_some'.mpr q
 | n+1,k+1,σ,h,hk,q=>by
  obtain ⟨t,h1,e,rfl,q⟩:=step k σ h q;obtain ⟨⟨fl,σ'⟩,h2,e2,e3,q⟩:=q;have e3:fl=.nx:=e3;subst e3;unfold zeC;simp only [bnd,e,if_true,e2];exact zkh I step fin n k σ' h2 (by omega) q
theorem zho {α β:Type} (f:α->β):∀ (l:List α) (i:Nat),(l.eraseIdx i).map f=(l.map f).eraseIdx i
 | [],i=>by simp
 | x::l,0=>rfl
 | x::l,i+1=>by simp [zho f l i]
noncomputable abbrev natD (ns:List Nat):List D:=ns.map λi:Nat=>D.int (i:Int)
theorem zo9 {ns:List Nat}:(D.lst (natD ns)).eqb (.lst [])=ns.isEmpty:=by cases ns<;>rfl
theorem zkp (n:Nat) {c:Int} {m:Nat} {h:Sto} (hm:m<=10) (kq:∀ o,Ord o m->Q (.d (.lst (natD o))) h):Ok (zaf P (n+1) 40 [.d (.int c),.d (.int m)] h) Q:=by
 refine cl rfl rfl rfl ?_;refine ⟨⟨by omega,by omega⟩,?_⟩;refine ask ?_;rw [Int.toNat_natCast,zb3]
 refine zkh (λk σ h'=>k<=10/\∃ (left ord:List Nat) (c:Int),h'=(h++[.lst (natD left)])++[Ob.lst (natD ord)]/\left.length=k/\(ord++left).Perm (List.range m)/\σ=[some (.d (.int c)),some (.d (.int m)),some (.loc h.length),some (.loc (h.length+1))]) ?_ ?_ zby m _ _ (by unfold zby;omega) ⟨hm,List.range m,[],c,rfl,by simp,by simp,by simp⟩
 ·rintro k σ h' ⟨hk,left,ord,c,rfl,hl,hp,rfl⟩
  have hg:((h++[Ob.lst (natD left)])++[Ob.lst (natD ord)])[h.length]?=some (Ob.lst (natD left)):=by rw [List.append_assoc];exact zad
  have hg1:∀ a:Ob,((h++[a])++[Ob.lst (natD ord)])[h.length+1]?=some (Ob.lst (natD ord)):=λa=>by rw [List.append_assoc];exact zcb
  have hs:∀ b:Ob,((h++[Ob.lst (natD left)])++[Ob.lst (natD ord)]).set h.length b=(h++[b])++[Ob.lst (natD ord)]:=λb=>by
   rw [List.append_assoc,List.append_assoc];exact zai
  have hs1:∀ a b:Ob,((h++[a])++[Ob.lst (natD ord)]).set (h.length+1) b=(h++[a])++[b]:=λa b=>by
   rw [List.append_assoc,List.append_assoc];exact zdY
  refine gv ?_;refine st hg ?_;refine st (zfO (zif (show (D.lst []).dep<=60 by simp [D.dep,D.deps]))) ?_;rw [zo9]
  have hne:left.isEmpty=false:=by cases left with
   | nil=>cases hl
   | cons=>rfl
  refine ⟨by rw [hne];rfl,?_⟩
  have a0:0<=c % (left.length:Int):=Int.emod_nonneg _ (by omega);have a1:c % (left.length:Int)<left.length:=Int.emod_lt_of_pos _ (by omega)
  have emod:bop .mod (.int c) (.int ((natD left).length:Int))=some (.int (c % (left.length:Int))):=by
   rw [List.length_map];show (if decide ((0:Int)<(left.length:Int)) then _ else _)=_;rw [if_pos (decide_eq_true (by omega))]
  refine gs ?_;refine st (hg1 _) ?_;refine st hg ?_;refine st hg ?_;refine st emod ?_;generalize c % (left.length:Int)=i at a0 a1;obtain ⟨j,rfl⟩:∃ j:Nat,i=j:=⟨i.toNat,by omega⟩
  have hj:j<left.length:=by omega
  have ej:left[j]?=some left[j]:=List.getElem?_eq_getElem hj;generalize left[j]=x at ej
  refine (zsd (by omega) (by omega)).mpr ⟨natD left,hg,j,?_,.int x,by rw [List.getElem?_map,ej];rfl,?_⟩
  ·unfold ixn
   rw [List.length_map,if_pos (by omega),if_pos (by omega),Int.toNat_natCast]
  rw [hs];refine st (hg1 _) ⟨?_,?_⟩
  ·have:=hp.length_eq
   simp at this;simp [big];omega
  rw [hs1];refine ⟨rfl,by omega,left.eraseIdx j,ord++[x],c / 10,?_,?_,(zon ej).trans hp,rfl⟩
  ·rw [show natD (left.eraseIdx j)=(natD left).eraseIdx j from (zho _ _ _),show natD (ord++[x])=natD ord++[.int x] by rw [natD,List.map_append];rfl]
  ·rw [List.length_eraseIdx_of_lt hj];omega
 ·rintro σ h' ⟨hk,left,ord,c,rfl,hl,hp,rfl⟩
  have hg:((h++[Ob.lst (natD left)])++[Ob.lst (natD ord)])[h.length]?=some (Ob.lst (natD left)):=by rw [List.append_assoc];exact zad
  obtain rfl:left=[]:=List.eq_nil_of_length_eq_zero hl;rw [List.append_nil] at hp;refine gv ?_;refine st hg ⟨rfl,?_⟩;ac_rfl;rw [List.append_assoc];exact zol (kq ord ⟨hp⟩)
variable {Q:R->Sto->Prop}
noncomputable def zbO (b:D):Prop:=b=.non\/∃ w,b=bad w
theorem zl9 (h:zbO b):zbO (pbrk w b):=by
 unfold pbrk
 split
 ·exact .inr ⟨_,rfl⟩
 ·exact h
theorem zpS {X:Hl} {a:HA} (h:zbO X.brk):zbO (doHA X k l v a).brk:=by
 cases a with
 | tell=>
  show zbO (zeq X k l).brk;unfold zeq
  split
  ·exact .inr ⟨_,rfl⟩
  ·split
   ·exact h
   ·exact .inr ⟨_,rfl⟩
 | send m ld=>exact zl9 h
 | _=>exact h
theorem zi4:∀ {as:List HA} {X:Hl},zbO X.brk->zbO (zb5 k v as X).brk
 | [],X,h=>h
 | a::as,X,h=>by
  unfold zb5
  split
  ·split
   ·exact zi4 (zpS h)
   ·exact zpS h
  ·exact h
theorem zhp {x:Lt}:∀ (is:List Nat) (X:Hl),zbO X.brk->zbO (is.foldl (zav x) X).brk
 | [],X,h=>h
 | i::is,X,h=>by
  refine zhp is _ ?_;unfold zav
  split
  ·exact zl9 h
  ·exact h
theorem zpZ {X:Hl} {a:OA} (h:zbO X.brk):zbO (doOA X k l v a).brk:=by
 cases a with
 | send w m ld=>exact zhp _ _ h
 | _=>exact h
theorem zmO:∀ {as:List OA} {X:Hl},zbO X.brk->zbO (zco k v as X).brk
 | [],X,h=>h
 | a::as,X,h=>by
  unfold zco
  split
  ·split
   ·exact zmO (zpZ h)
   ·exact zpZ h
  ·exact h
theorem zjG {X:Hl}:(toSt X k nx).brk=X.brk:=by
 unfold toSt
 split
 ·split<;>rfl
 ·rfl
theorem zpv {X:Hl}:(toHs X nx).brk=X.brk:=by unfold toHs;split<;>rfl
theorem zqV {X:Hl} {r:Row} {d:Deed} (h:zbO X.brk):zbO (zbD X l r d).brk:=by
 cases d with
 | ask k e x=>
  unfold zbD;simp only
  split
  ·unfold zle
   rw [zjG];refine zi4 ?_
   cases x<;>exact h
  ·exact h
 | take k j=>
  unfold zbD;simp only
  split
  ·unfold zf7
   rw [zjG];exact zi4 h
  ·exact h
 | get k j=>
  unfold zbD;simp only
  split
  ·unfold zla
   rw [zpv];refine zmO ?_;rw [zmb];exact h
  ·exact h
theorem zoG {T:Tab} {X:Hl} {d:Deed} (h:zbO X.brk):zbO (zbv T X d).brk:=by
 unfold zbv
 split
 ·exact h
 ·split
  ·exact .inr ⟨_,rfl⟩
  ·unfold zbM
   split
   ·exact .inr ⟨_,rfl⟩
   ·exact zqV h
theorem Out.brk {T:Tab} {S0 S:Sd} {ds:List Deed} {as:List D} {b:D} (h:Out T S0 ds S as b):zbO b:=by
 cases h with
 | clean _ c=>exact .inl rfl
 | broke pre d c h1 h2 h3=>exact zoG (X:=hlOf _) (.inl rfl)
theorem zg3 {T:Tab} {m:Nat}:∀ {ds:List Deed} {S:Sd},SdOk S->S.ls.length=m->zdg T ds S->∀ d∈ds,0<=d.k/\d.k.toNat<m
 | [],S,_,_,_,d,hd=>by cases hd
 | e::ds,S,hS,hl,⟨c1,c2,c3,c4⟩,d,hd=>by
  rcases List.mem_cons.mp hd with rfl | hd
  ·have:=zmY c2
   exact ⟨this.1,by rw [<-hl];exact this.2⟩
  ·exact zg3 (zct hS) ((zeN hS).trans hl) c4 d hd
theorem Out.ks {T:Tab} {S0 S:Sd} {ds:List Deed} {as:List D} {b:D} {m:Nat} (h:Out T S0 ds S as b) (hS:SdOk S0) (hl:S0.ls.length=m):∀ d∈ds,0<=d.k/\d.k.toNat<m:=by
 cases h with
 | clean _ c=>exact zg3 hS hl c
 | broke pre d c h1 h2 h3=>
  intro e he
  rcases List.mem_append.mp he with z | z
  ·exact zg3 hS hl c e z
  ·rw [List.mem_singleton.mp z]
   have:=zmY h2
   refine ⟨this.1,?_⟩;have hb:=(zbQ (T:=T) (ds:=pre) hS).2;rw [<-hl,<-hb];exact this.2
theorem Out.sd {T:Tab} {S0 S:Sd} {ds:List Deed} {as:List D} {b:D} (h:Out T S0 ds S as b) (hS:SdOk S0):SdOk S/\S.ls.length=S0.ls.length:=by
 cases h with
 | clean _ c=>exact zbQ hS
 | broke pre d c h1 h2 h3=>exact zbQ hS
mutual
theorem zdv:∀ x:D,x.eqb x=true
 | .non=>rfl
 | .bl b=>by simp [D.eqb]
 | .int i=>by simp [D.eqb]
 | .str s=>by simp [D.eqb]
 | .tup xs=>eqbs_self xs
 | .lst xs=>eqbs_self xs
theorem eqbs_self:∀ xs:List D,D.eqbs xs xs=true
 | []=>rfl
 | x::xs=>by
  rw [D.eqbs,zdv x,eqbs_self xs];rfl
end
theorem deps_le {n:Nat}:∀ {xs:List D},(∀ x∈xs,x.dep<=n)->D.deps xs<=n
 | [],_=>Nat.zero_le _
 | x::xs,h=>by
  rw [D.deps];exact Nat.max_le.mpr ⟨h x (by simp),deps_le λy hy=>h y (by simp [hy])⟩
theorem zdZ (h:∀ x∈xs,x.dep<=n):(D.tup xs).dep<=n+1:=by rw [D.dep];have:=deps_le h;omega
theorem zm4 (h:∀ x∈xs,x.dep<=n):(D.lst xs).dep<=n+1:=by rw [D.dep];have:=deps_le h;omega
theorem zg9 (v:Val):(valD v).dep<=1:=by
 cases v with
 | none=>exact Nat.zero_le _
 | some p=>simp [valD,prD,D.dep,D.deps]
theorem zmq (w:List Lt):(wayD w).dep<=3:=by
 refine zdZ (n:=2) λx hx=>?_;obtain ⟨p,_,rfl⟩:=List.mem_map.mp hx;refine zdZ (n:=1) λy hy=>?_;simp only [List.mem_cons,List.not_mem_nil,or_false] at hy
 rcases hy with rfl | rfl
 ·exact Nat.zero_le _
 ·exact zg9 _
theorem ztU (l:Ln):(lnD l).dep<=4:=by
 refine zdZ (n:=3) λx hx=>?_;simp only [List.mem_cons,List.not_mem_nil,or_false] at hx
 rcases hx with rfl | rfl | rfl | rfl | rfl | rfl
 ·exact Nat.zero_le _
 ·exact Nat.le_trans (zg9 _) (by decide)
 ·exact Nat.zero_le _
 ·exact zmq _
 ·exact zmq _
 ·exact Nat.zero_le _
theorem zs5 (S:Sd):(sdD S).dep<=6:=by
 refine zdZ (n:=5) λx hx=>?_;simp only [List.mem_cons,List.not_mem_nil,or_false] at hx
 rcases hx with rfl | rfl | rfl | rfl
 ·exact Nat.zero_le _
 ·exact Nat.le_trans (zg9 _) (by decide)
 ·exact Nat.le_trans (zg9 (some S.la)) (by decide)
 ·refine zdZ (n:=4) λy hy=>?_
  obtain ⟨l,_,rfl⟩:=List.mem_map.mp hy;exact ztU l
theorem zrI (h:∀ a∈as,isA m a):(D.lst as).dep<=2:=by
 refine zm4 (n:=1) λx hx=>?_;obtain ⟨w,k,n,_,rfl⟩:=h x hx;simp [D.dep,D.deps]
theorem zq6 (h:zbO b):b.dep<=1:=by
 rcases h with rfl | ⟨w,rfl⟩
 ·exact Nat.zero_le _
 ·simp [bad,D.dep,D.deps]
theorem zlA {S:Sd} (h:∀ a∈as,isA m a) (hb:zbO b):(D.tup [sdD S,.lst as,b]).dep<=7:=by
 refine zdZ (n:=6) λx hx=>?_;simp only [List.mem_cons,List.not_mem_nil,or_false] at hx
 rcases hx with rfl | rfl | rfl
 ·exact zs5 S
 ·exact Nat.le_trans (zrI h) (by decide)
 ·exact Nat.le_trans (zq6 hb) (by decide)
theorem znO (d:Deed):(zal d).dep<=1:=by
 cases d with
 | ask k e x=>cases x<;>simp [zal,D.dep,D.deps]
 | take k j=>simp [zal,D.dep,D.deps]
 | get k j=>simp [zal,D.dep,D.deps]
theorem znm (ds:List Deed):(D.lst (ds.map zal)).dep<=2:=by
 refine zm4 (n:=1) λx hx=>?_;obtain ⟨d,_,rfl⟩:=List.mem_map.mp hx;exact znO d
theorem zit (n:Nat) {T:Tab} {m:Nat} {ds es:List Deed} {b:Deed} {h:Sto} {Q:R->Sto->Prop} (O:T.Ok) (hm:m<=10) (hl:ds.length<=1000) (hr:zdg T ds (zaq T m)) (hb:may1 T (zax T ds (zaq T m)) b=false) (kq:Q (.d (.bl true)) h) :
  Ok (zaf P (n+11) 39 [.d (tabD T),.d (.int m),.d (.lst ((ds++b::es).map zal))] h) Q:=by
 refine cl rfl rfl rfl ?_;have hx:=zsj n (es:=es) (h:=h) (Q:=λr h'=>r=.d (.int 0)/\h'=h) O hm hl hr hb ⟨rfl,rfl⟩;obtain ⟨r,h1,e,rfl,rfl⟩:=hx;refine .inr ⟨zjA zoK (by decide) e,ask ⟨_,_,e,rfl,?_⟩⟩;exact f0 kq
theorem zld (n:Nat) {T:Tab} {m:Nat} {ds:List Deed} {h:Sto} {Q:R->Sto->Prop} (O:T.Ok) (hm:m<=10) (hl:ds.length<=1000) (hr:Runs T ds (zaq T m)) (kq:Q (.d (.bl false)) h) :
  Ok (zaf P (n+11) 39 [.d (tabD T),.d (.int m),.d (.lst (ds.map zal))] h) Q:=by
 refine cl rfl rfl rfl ?_;refine .inl (ask (zdM n O hm hl hr ?_));exact f0 kq
theorem zt1 {ls:List Ln} {j:Nat} (e:ls[j]?=some l):idxD (.tup (ls.map lnD)) (.int j)=some (lnD l):=zcE (by omega) (by rw [Int.toNat_natCast,List.getElem?_map,e];rfl)
theorem zhH (n:Nat) {S:Sd} {o:List Nat} {m:Nat} {h:Sto} (ho:Ord o m) (hl:S.ls.length=m) (kq:Q (.d (sdD (renS o S))) h):Ok (zaf P (n+1) 7 [.d (sdD S),.d (.lst (natD o))] h) Q:=by
 refine cl rfl rfl rfl ?_;refine ask (zdt (dD:=λi:Nat=>D.int (i:Int)) (g:=λj=>lnD ((S.ls[j]?).getD (ln0 []))) (λj hj=>?_) zbl ?_)
 ·have hj:=ho.mem.mp hj
  have el:S.ls[j]?=some S.ls[j]:=List.getElem?_eq_getElem (by omega);generalize S.ls[j]=l at el;refine gc ?_;refine st (zt1 el) ?_;refine ⟨?_,rfl⟩;rw [el];rfl
 ·refine f0 ?_
  have e:o.map (λj=>lnD ((S.ls[j]?).getD (ln0 [])))=(ren o S.ls).map lnD:=by
   unfold ren;rw [List.map_map];rfl
  rw [e];exact kq
theorem zrV {o:List Nat} {m k:Nat} (ho:Ord o m) (hk:k<m):(natD o).findIdx? (λy=>y.eqb (.int k))=some (ix o k):=by
 rw [List.findIdx?_map,List.findIdx?_eq_some_iff_getElem];have e:=ho.ix hk;obtain ⟨h1,h2⟩:=List.getElem?_eq_some_iff.mp e;refine ⟨h1,?_,λj hj=>?_⟩
 ·show ((o[ix o k]:Int)==(k:Int))=true
  rw [h2];simp
 ·intro z
  have z:((o[j]:Int)==(k:Int))=true:=z
  have z:o[j]=k:=by
   have:=eq_of_beq z
   omega
  have e2:o[j]?=some k:=by rw [List.getElem?_eq_getElem (by omega),z]
  have:=ho.inj e2 e
  omega
theorem zdF {o:List Nat} {m k:Nat} (ho:Ord o m) (hk:k<m):lmD .index (.lst (natD o)) (.int k)=some (.int (ix o k)):=by
 show (if decide ((D.int k).dep<=60) then (match (natD o).findIdx? (λy=>y.eqb (.int k)) with | some j=>some (D.int j) | none=>none) else none)=_;rw [zrV ho hk];rfl
variable {Q:R->Sto->Prop}
theorem zmB {T:Tab} {o:List Nat} {m:Nat} (ho:Ord o m):renS o (zaq T m)=zaq T m:=by
 have e:ren o (List.replicate m (ln0 (st0 T)))=List.replicate m (ln0 (st0 T)):=by
  refine zhg (m:=m) (zbI ho) (by simp) λj hj=>?_;obtain ⟨i,hi,_,e2⟩:=zdP (ls:=List.replicate m (ln0 (st0 T))) ho (by simp) j hj;rw [e2,List.getElem?_replicate,List.getElem?_replicate,if_pos hi,if_pos hj]
 unfold renS zaq;simp only;rw [e]
theorem zaJ {T:Tab} {m:Nat}:(zaq T m).ls.length=m:=by simp [zaq]
noncomputable def bads (m:Nat):List Deed:=[.take 0 9,.get ((m:Int)-1) (-1),.ask m zeP none,.take (-1) 0]
theorem zrc {T:Tab} {S:Sd} {m:Nat} {d:Deed} (hS:SdOk S) (hl:S.ls.length=m) (hd:d∈bads m):may1 T S d=false:=by
 cases c:may1 T S d with
 | false=>rfl
 | true=>
  exfalso
  have hk:=zmY c;have hk2:d.k.toNat<S.ls.length:=hk.2;have el:S.ls[d.k.toNat]?=some S.ls[d.k.toNat]:=List.getElem?_eq_getElem hk2;have ho:=hS.ls _ (List.getElem_mem hk2);generalize S.ls[d.k.toNat]=l at el ho
  have c':mayL T (hlOf S) l d=true:=by
   have c:mayB T (hlOf S) d=true:=c;unfold mayB at c;rw [if_pos hk.1,show (hlOf S).ls[d.k.toNat]?=some l from el] at c;exact c
  simp only [bads,List.mem_cons,List.not_mem_nil,or_false] at hd
  rcases hd with rfl | rfl | rfl | rfl
  ·simp only [mayL,Bool.and_eq_true,decide_eq_true_eq] at c'
   have:=ho.1
   omega
  ·simp only [mayL,Bool.and_eq_true,decide_eq_true_eq] at c'
   omega
  ·have:(Deed.ask (m:Int) zeP none).k.toNat=m:=rfl
   omega
  ·have:(Deed.take (-1) 0).k=-1:=rfl
   omega
noncomputable def sg (ns:List Int) (T:Tab) (m:Nat) (o:List Nat) (q:Bool) (ds:List Deed) (S:Sd) (as:List D) (b:D):Env:=
 [some (.d (.lst (ns.map D.int))),some (.d (tabD T)),some (.d (.int m)),some (.d (.lst (natD o))),some (.d (.bl q)),some (.d (.lst (ds.map zal))),some (.d (sdD S)),some (.d (.lst as)),some (.d b),some (.d (.lst (ds.map zal))),some (.d (.tup [sdD S,.lst as,b])),some (.d (.tup [sdD S,.lst as,b])),none,none,none,none,none,none,none,none]
noncomputable def rest:List IT.S:=[.asg (.name 12) (.bin .mod (.bin .fdiv (.call 31 [(.var 0),(.con (.int 2))]) (.con (.int 7))) (.bin .add (.bi .len [(.var 5)]) (.con (.int 1)))),
  .asg (.name 13) (.idx (.lst false (.disp [(.tup [(.con (.str [116,97,107,101])),(.con (.int 0)),(.con (.int 9))]),(.tup [(.con (.str [103,101,116])),(.bin .sub (.var 2) (.con (.int 1))),(.neg (.con (.int 1)))]),(.tup [(.con (.str [97,115,107])),(.var 2),(.con (.str [100,114,111,112]))]),(.tup [(.con (.str [116,97,107,101])),(.neg (.con (.int 1))),(.con (.int 0))])])) (.bin .mod (.bi .len [(.var 5)]) (.con (.int 4)))),
  .ife (.val (.cmp .ne (.call 39 [(.var 1),(.var 2),(.bin .add (.bin .add (.sli (.var 5) (.con .non) (.var 12)) (.lst false (.disp [(.var 13)]))) (.sli (.var 5) (.var 12) (.con .non)))]) (.or (.cmp .isN (.var 8) (.con .non)) (.cmp .lt (.var 12) (.bi .len [(.var 5)]))))) [.ret (.con (.bl false))] [],
  .asg (.name 14) (.lst false (.comp (.name 16) (.seq (.var 5)) [] (.bin .add (.bin .add (.sli (.var 16) (.con .non) (.con (.int 1))) (.tup [(.lm .index (.var 3) (.idx (.var 16) (.con (.int 1))))])) (.sli (.var 16) (.con (.int 2)) (.con .non))))),
  .asg (.name 15) (.lst false (.comp (.tup [(.name 17),(.name 18),(.name 19)]) (.seq (.var 7)) [] (.tup [(.var 17),(.lm .index (.var 3) (.var 18)),(.var 19)]))),
  .ret (.cmp .eq (.call 30 [(.var 1),(.var 2),(.var 14)]) (.tup [(.call 7 [(.var 6),(.var 3)]),(.var 15),(.var 8)]))]
theorem ztQ {m:Nat} {j:Int} (h0:0<=j) (h1:j<4):∃ d,d∈bads m/\idxD (.lst [.tup [.str ziM,.int 0,.int 9],.tup [.str kget,.int ((m:Int)-1),.int (-1)],.tup [.str kask,.int m,.str zeP],.tup [.str ziM,.int (-1),.int 0]]) (.int j)=some (zal d):=zca (f:=zal) (xs:=bads m) h0 h1
theorem ziY {xs ys:List D} (h:xs.length+ys.length<=1000):bop .add (.lst xs) (.lst ys)=some (.lst (xs++ys)):=by
 show (if fit _ then some _ else none)=_;rw [if_pos (zn2 h)]
noncomputable def zuV:List IT.S:=[.asg (.name 14) (.lst false (.comp (.name 16) (.seq (.var 5)) [] (.bin .add (.bin .add (.sli (.var 16) (.con .non) (.con (.int 1))) (.tup [(.lm .index (.var 3) (.idx (.var 16) (.con (.int 1))))])) (.sli (.var 16) (.con (.int 2)) (.con .non))))),
  .asg (.name 15) (.lst false (.comp (.tup [(.name 17),(.name 18),(.name 19)]) (.seq (.var 7)) [] (.tup [(.var 17),(.lm .index (.var 3) (.var 18)),(.var 19)]))),
  .ret (.cmp .eq (.call 30 [(.var 1),(.var 2),(.var 14)]) (.tup [(.call 7 [(.var 6),(.var 3)]),(.var 15),(.var 8)]))]
theorem zgY (n:Nat) {h:Sto} {ns:List Int} {T:Tab} {m:Nat} {o:List Nat} {q:Bool} {ds:List Deed} {S:Sd} {as:List D} {b:D} {v12 v13:Option R} {Q:R->Sto->Prop} (O:T.Ok) (hm:m<=10) (ho:Ord o m) (hds:ds.length<=63) (hO:Out T (zaq T m) ds S as b) (kq:Q (.d (.bl true)) h) :
  wSs (zaf P (n+11)) zuV [some (.d (.lst (ns.map D.int))),some (.d (tabD T)),some (.d (.int m)),some (.d (.lst (natD o))),some (.d (.bl q)),some (.d (.lst (ds.map zal))),some (.d (sdD S)),some (.d (.lst as)),some (.d b),some (.d (.lst (ds.map zal))),some (.d (.tup [sdD S,.lst as,b])),some (.d (.tup [sdD S,.lst as,b])),v12,v13,none,none,none,none,none,none] h (kF h false false Q):=by
 have hS0:=zcK (T:=T) hm;have hS:=hO.sd hS0;have hSl:S.ls.length=m:=hS.2.trans zaJ;have hpl:=hO.play;have hru:=hO.runs
 have hA:∀ a∈as,isA m a:=by
  have:=zeF (T:=T) ds (zaq T m) [] hS0 zaJ hru (by simp)
  rwa [hpl] at this
 have hB:=hO.brk;have hks:=hO.ks hS0 zaJ;obtain ⟨pr,pl⟩:=zj4 (T:=T) ho ds (zaq T m) [] hS0 zaJ hru;rw [zmB ho] at pr pl;rw [hpl] at pl;refine ask (zdt (dD:=zal) (g:=λd=>zal (renD o d)) (λd hd=>?_) zbl ?_)
 ·have hk:=hks d hd
  refine gc ?_
  cases d with
  | ask k e x=>
   obtain ⟨k,rfl⟩:∃ k':Nat,k=k':=⟨k.toNat,by have:=hk.1;simp only [Deed.k] at this;omega⟩
   have hk2:k<m:=hk.2
   cases x with
   | none=>
    refine st (zdF ho hk2) ?_;exact ⟨rfl,rfl⟩
   | some x=>
    refine st (zdF ho hk2) ?_;exact ⟨rfl,rfl⟩
  | take k j=>
   obtain ⟨k,rfl⟩:∃ k':Nat,k=k':=⟨k.toNat,by have:=hk.1;simp only [Deed.k] at this;omega⟩
   have hk2:k<m:=hk.2;refine st (zdF ho hk2) ?_;exact ⟨rfl,rfl⟩
  | get k j=>
   obtain ⟨k,rfl⟩:∃ k':Nat,k=k':=⟨k.toNat,by have:=hk.1;simp only [Deed.k] at this;omega⟩
   have hk2:k<m:=hk.2;refine st (zdF ho hk2) ?_;exact ⟨rfl,rfl⟩
 ·ac_rfl
  refine ask (zkG (xs:=as) (g:=λa=>some (renA o a)) (λa ha=>?_) zbl ?_)
  ·obtain ⟨w,k,x,hk,rfl⟩:=hA a ha
   refine gc ?_;refine st (zdF ho hk) ?_;exact ⟨rfl,rfl⟩
  ·rw [ziF,show (ds.map λd=>zal (renD o d))=(ds.map (renD o)).map zal by rw [List.map_map];rfl]
   ac_rfl;refine ask (zdM (n+1) O hm (by simpa using (by omega:ds.length<=1000)) pr ?_);rw [show zbo T (ds.map (renD o)) (zaq T m) []=_ from pl];ac_rfl;refine ask (zhH (n+10) ho hSl ?_)
   have hA2:∀ a∈as.map (renA o),isA m a:=by
    intro a ha;obtain ⟨a0,h0,rfl⟩:=List.mem_map.mp ha;obtain ⟨w,k,x,hk,rfl⟩:=hA a0 h0;exact ⟨w,ix o k,x,ho.ix_lt hk,rfl⟩
   refine st (zgJ (zj3 (show (D.tup [sdD (renS o S),.lst (as.map (renA o)),b]).dep<=60 from Nat.le_trans (zlA hA2 hB) (by decide)))) ?_;refine f0 ?_;rw [show (resD (renS o S,as.map (renA o),b)).eqb (.tup [sdD (renS o S),.lst (as.map (renA o)),b])=true from zdv _];exact kq
theorem zly (n:Nat) {h:Sto} {ns:List Int} {T:Tab} {m:Nat} {o:List Nat} {q:Bool} {ds:List Deed} {S:Sd} {as:List D} {b:D} {Q:R->Sto->Prop} (O:T.Ok) (hm0:0<m) (hm:m<=10) (ho:Ord o m) (hds:ds.length<=63) (hO:Out T (zaq T m) ds S as b) (kq:Q (.d (.bl true)) h) :
  wSs (zaf P (n+11)) rest (sg ns T m o q ds S as b) h (kF h false false Q):=by
 have hS0:=zcK (T:=T) hm;have hS:=hO.sd hS0;have hSl:S.ls.length=m:=hS.2.trans zaJ;have hpl:=hO.play;have hru:=hO.runs
 have hA:∀ a∈as,isA m a:=by
  have:=zeF (T:=T) ds (zaq T m) [] hS0 zaJ hru (by simp)
  rwa [hpl] at this
 have hB:=hO.brk;have hks:=hO.ks hS0 zaJ;refine ask (zcw (n+10) (k:=2) λc2=>?_);have hlm:(ds.map zal).length=ds.length:=List.length_map ..
 have emod:bop .mod (.int (c2 / 7)) (.int (((ds.map zal).length:Int)+1))=some (.int (c2 / 7 % ((ds.length:Int)+1))):=by
  rw [hlm];show (if decide ((0:Int)<(ds.length:Int)+1) then _ else _)=_;rw [if_pos (decide_eq_true (by omega))]
 ac_rfl;refine st emod ?_;have a0:0<=c2 / 7 % ((ds.length:Int)+1):=Int.emod_nonneg _ (by omega);have a1:c2 / 7 % ((ds.length:Int)+1)<(ds.length:Int)+1:=Int.emod_lt_of_pos _ (by omega);generalize c2 / 7 % ((ds.length:Int)+1)=i at a0 a1;obtain ⟨j,rfl⟩:∃ j:Nat,i=j:=⟨i.toNat,by omega⟩
 have hj:j<=ds.length:=by omega
 obtain ⟨bd,hbd,ebd⟩:=ztQ (m:=m) (j:=((ds.map zal).length:Int) % 4) (Int.emod_nonneg _ (by decide)) (Int.emod_lt_of_pos _ (by decide));ac_rfl;refine st ebd ?_
 have ecat1:bop .add (.lst (cut (ds.map zal) none (some (j:Int)))) (.lst [zal bd])=some (.lst ((ds.take j++[bd]).map zal)):=by
  rw [cutN,<-List.map_take,ziY (by simp;omega),List.map_append]
  rfl
 have ecat2:bop .add (.lst ((ds.take j++[bd]).map zal)) (.lst (cut (ds.map zal) (some (j:Int)) none))=some (.lst ((ds.take j++bd::ds.drop j).map zal)):=by
  rw [zeM,<-List.map_drop,ziY (by simp;omega),<-List.map_append,List.append_assoc]
  rfl
 ac_rfl;refine st ecat1 ?_;ac_rfl;refine st ecat2 ?_;ac_rfl
 by_cases cj:zap b=true\/j<ds.length
 ·have hcl:=hO.ahead j cj
  have hbk:=zbQ (T:=T) (ds:=ds.take j) hS0
  refine ask (zit n O hm (by simp;omega) hcl (zrc hbk.1 (hbk.2.trans zaJ) hbd) ?_)
  ac_rfl;refine br (λc1=>?_) (λc1=>?_)
  ·exact zgY n O hm ho hds hO kq
  ·have hlt:j<ds.length:=cj.resolve_left (by intro z;cases z.symm.trans c1)
   ac_rfl
   refine bf (show (!(D.bl true).eqb (.bl (decide ((j:Int)<((ds.map zal).length:Int)))))=false by rw [hlm,decide_eq_true (by omega)];rfl) ?_
   exact zgY n O hm ho hds hO kq
 ·have hb1:zap b=false:=by cases c:zap b with
   | false=>rfl
   | true=>exact absurd (.inl c) cj
  have hj2:j=ds.length:=by
   by_cases z:j<ds.length
   ·exact absurd (.inr z) cj
   ·omega
  subst hj2;rw [List.take_length,List.drop_length];obtain ⟨hmr,_⟩:=hO.more hb1 [bd]
  refine ask (zld n O hm (by simp;omega) hmr ?_)
  ac_rfl;refine br (λc1=>absurd (c1.symm.trans hb1) (by decide)) (λc1=>?_);ac_rfl
  refine bf (show (!(D.bl false).eqb (.bl (decide ((ds.length:Int)<((ds.map zal).length:Int)))))=false by rw [hlm,decide_eq_false (by omega)];rfl) ?_
  exact zgY n O hm ho hds hO kq
theorem law_call (n:Nat) {h:Sto} {ns:List Int} (hns:ns.length<=63) (kq:Q (.d (.bl true)) h):Ok (zaf P (n+12) 41 [.d (.lst (ns.map D.int))] h) Q:=by
 refine cl rfl rfl rfl ?_;refine ask (zcw (n+10) (k:=0) λc0=>?_);refine ask (zkO (n+8) λT G=>?_);refine ask (zcw (n+10) (k:=1) λc1=>?_);have O:=G.ok
 obtain ⟨m,em,hm0,hm⟩:∃ m:Nat,1+c1 % 6=(m:Int)/\0<m/\m<=10:=⟨(1+c1 % 6).toNat,by have:=Int.emod_nonneg c1 (show (6:Int)≠0 by decide);omega,by have:=Int.emod_nonneg c1 (show (6:Int)≠0 by decide);omega,by have:=Int.emod_lt_of_pos c1 (show (0:Int)<6 by decide);omega⟩
 ac_rfl;rw [em];refine ask (zcw (n+10) (k:=2) λc2=>?_);refine ask (zkp (n+10) hm λo ho=>?_);refine ask (zcw (n+10) (k:=1) λc1'=>?_);ac_rfl;rw [zrm]
 refine ask (zoN (n+1) O hm (by have:=znp (xs:=ns) (a:=some 3) (b:=some 53);omega) λds S as b hds hO=>?_)
 have hds:ds.length<=63:=by have:=znp (xs:=ns) (a:=some 3) (b:=some 53);omega
 have hS0:=zcK (T:=T) hm;have hS:=hO.sd hS0;have hSl:S.ls.length=m:=hS.2.trans zaJ;have hpl:=hO.play;have hru:=hO.runs
 have hA:∀ a∈as,isA m a:=by
  have:=zeF (T:=T) ds (zaq T m) [] hS0 zaJ hru (by simp)
  rwa [hpl] at this
 have hB:=hO.brk;have hdep:=zlA (S:=S) hA hB;refine ask (zdM (n+1) O hm (by omega) hru ?_);rw [hpl];refine st (zfO (zj3 (show (resD (S,as,b)).dep<=60 from Nat.le_trans hdep (by decide)))) ?_
 refine bf (show (!(resD (S,as,b)).eqb (.tup [sdD S,.lst as,b]))=false by rw [show resD (S,as,b)=.tup [sdD S,.lst as,b] from rfl,zdv];rfl) ?_
 refine st (zfO (zj3 (Nat.le_trans (znm ds) (by decide)))) ?_
 refine bf (show (!(D.lst (ds.map zal)).eqb (.lst (ds.map zal)))=false by rw [zdv];rfl) ?_
 ac_rfl;refine br (λc3=>?_) (λc3=>?_)
 ·have hb1:zap b=false:=by
   have c3:(!zap b)=true:=c3
   simpa using c3
  obtain ⟨hmr,hmp⟩:=hO.more hb1 [.ask 0 zeP none]
  have ecat:bop .add (.lst (ds.map zal)) (.lst [.tup [.str [97,115,107],.int 0,.str [100,114,111,112]]])=some (.lst ((ds++[Deed.ask 0 zeP none]).map zal)):=by
   rw [ziY (by simp;omega),List.map_append]
   rfl
  refine st ecat ?_
  refine ask (zdM (n+1) O hm (by simp;omega) hmr ?_)
  rw [hmp];ac_rfl;refine st (zfO (zj3 (show (resD (S,as,b)).dep<=60 from Nat.le_trans hdep (by decide)))) ?_
  refine bf (show (!(resD (S,as,b)).eqb (.tup [sdD S,.lst as,b]))=false by rw [show resD (S,as,b)=.tup [sdD S,.lst as,b] from rfl,zdv];rfl) ?_
  exact zly n O hm0 hm ho hds hO kq
 ·exact zly n O hm0 hm ho hds hO kq
theorem znM {ns:List Int} (hl:ns.length<=63):zaf P 12 41 [.d (.lst (ns.map .int))] []=some (.d (.bl true),[]):=by
 obtain ⟨r,h,e,rfl,rfl⟩:=law_call 0 (h:=[]) (Q:=λr h=>r=.d (.bl true)/\h=[]) hl ⟨rfl,rfl⟩;exact e
open PySem PySem.Spec L2 IT
noncomputable def fns:List (Str×Nat×List D):=[(("right_of",2,[]):Str×Nat×List D),(("hand_row",3,[]):Str×Nat×List D),(("house_row",4,[]):Str×Nat×List D),(("row_for",2,[]):Str×Nat×List D),(("is_wait",1,[]):Str×Nat×List D),(("start",2,[]):Str×Nat×List D),(("clash",2,[]):Str×Nat×List D),(("renamed",2,[]):Str×Nat×List D),(("has_version_of",2,[]):Str×Nat×List D),(("comers",2,[]):Str×Nat×List D),(("letter_of",3,[]):Str×Nat×List D),(("may_be_done",3,[]):Str×Nat×List D),(("way_of",2,[]):Str×Nat×List D),(("row_for_deed",3,[]):Str×Nat×List D),(("do_deed",3,[]):Str×Nat×List D),(("do_ask",3,[]):Str×Nat×List D),(("do_take",3,[]):Str×Nat×List D),(("do_get",3,[]):Str×Nat×List D),(("got_value",3,[]):Str×Nat×List D),(("without",2,[]):Str×Nat×List D),(("do_hand_row",4,[]):Str×Nat×List D),(("do_hand_act",4,[]):Str×Nat×List D),(("do_house_row",4,[]):Str×Nat×List D),(("do_house_act",4,[]):Str×Nat×List D),(("send_from_house",3,[]):Str×Nat×List D),(("receivers",3,[]):Str×Nat×List D),(("may",3,[(.bl true)]):Str×Nat×List D),(("asks_of",1,[]):Str×Nat×List D),(("letters_of",4,[]):Str×Nat×List D),(("step",3,[]):Str×Nat×List D),(("play",3,[]):Str×Nat×List D),(("_law_cell_at",2,[]):Str×Nat×List D),(("_law_digits",3,[]):Str×Nat×List D),(("_law_one_copy",0,[]):Str×Nat×List D),(("_law_readers",0,[]):Str×Nat×List D),(("_law_bent",2,[]):Str×Nat×List D),(("_law_free",1,[]):Str×Nat×List D),(("_law_table",1,[]):Str×Nat×List D),(("_law_run",4,[]):Str×Nat×List D),(("_law_refused",3,[]):Str×Nat×List D),(("_law_order",2,[]):Str×Nat×List D),(("law",1,[]):Str×Nat×List D)]
noncomputable def cls:List zmF:=[⟨"OpenLine",42,["state", "value", "want", "to", "back", "flags"],[("as_tuple",43)]⟩,⟨"Hall",44,["state", "store", "last", "lines", "answer", "broken"],[("as_tuple",45),("write_value",46),("tell_value",47),("send_to_house",48),("send_to_hand",49),("posted",50),("hands_with",51),("other_sharers",52),("forget_all",53)]⟩]
noncomputable def globs:List (Str×D):=[("ASKS",(.tup [(.str [114,101,97,100]),(.str [119,114,105,116,101]),(.str [100,114,111,112])])),("FIRST_VALUE",(.tup [(.int 0),(.int 0)])),("OWNS",(.int 2)),("SHARES",(.int 1)),("WAITS",(.tup [(.tup [(.str [119,97,105,116])])])),("WAY_HOLDS",(.int 2))]
noncomputable def exs:List Str:=["NoDeed"]
noncomputable def gds:List (Str×List (List Nat×D)):=[]
noncomputable def bd (n:Nat):Stmt:=PySem.Challenge.pw_copyclerk_k23_runs_played.main.body.getD n (.Pass ⟨0,0,0,0⟩)
noncomputable abbrev Cd (b:List S) (n p:List Str) (s:Stmt):Prop:=n.Nodup/\(∀ x∈p,(zag s).names.lookup x=some .local\/(zag s).names.lookup x=some .cell)/\(∀ y∈(zag s).names,y.2≠.free)/\chkSs b ⟨n,(zag s).names,fns,globs,true,cls,gds,exs⟩ (zaI s)=true
theorem Cd.sc {b:List S} {n p:List Str} {s:Stmt} (c:Cd b n p s) (h1:(zag s).kind=.function) (h2:(zag s).isCoroutine=false) (h3:(zag s).isGenerator=false) (h4:n.take p.length=p):zfV n p (zag s):=⟨h1,h2,h3,c.1,h4,c.2.1,c.2.2.1⟩
noncomputable def zgg:Stmt:=bd 3
noncomputable def zkw:List Str:=["table", "state", "name", "right"]
noncomputable def zef:List Str:=["table", "state"]
theorem zkS:Cd zga zkw zef zgg:=by decide +kernel
noncomputable def zgc:Stmt:=bd 4
noncomputable def zkV:List Str:=["table", "state", "event"]
noncomputable def zem:List Str:=["table", "state", "event"]
theorem zkF:Cd zgj zkV zem zgc:=by decide +kernel
noncomputable def zfE:Stmt:=bd 5
noncomputable def ziz:List Str:=["table", "state", "kind", "last", "row"]
noncomputable def zda:List Str:=["table", "state", "kind", "last"]
theorem ziu:Cd zfL ziz zda zfE:=by decide +kernel
noncomputable def zio:Stmt:=bd 6
noncomputable def zm3:List Str:=["table", "head", "row"]
noncomputable def zfd:List Str:=["table", "head"]
theorem zmu:Cd zh8 zm3 zfd zio:=by decide +kernel
noncomputable def zh9:Stmt:=bd 7
noncomputable def zmi:List Str:=["row"]
noncomputable def zfi:List Str:=["row"]
theorem zlK:Cd zhk zmi zfi zh9:=by decide +kernel
noncomputable def zlX:Stmt:=bd 10
noncomputable def zqM:List Str:=["table", "many", "line"]
noncomputable def ziP:List Str:=["table", "many"]
theorem zqZ:Cd zlH zqM ziP zlX:=by decide +kernel
noncomputable def zmk:Stmt:=bd 11
noncomputable def zrH:List Str:=["table", "standing", "rights", "?1?line"]
noncomputable def zje:List Str:=["table", "standing"]
theorem zrD:Cd zmv zrH zje zmk:=by decide +kernel
noncomputable def zh6:Stmt:=bd 12
noncomputable def znI:List Str:=["standing", "order", "lines", "?1?hand"]
noncomputable def zfQ:List Str:=["standing", "order"]
theorem zne:Cd zhV znI zfQ zh6:=by decide +kernel
noncomputable def zcg:Stmt:=bd 13
noncomputable def zeB:List Str:=["value", "last"]
noncomputable def zbc:List Str:=["value", "last"]
theorem zeA:Cd zce zeB zbc zcg:=by decide +kernel
noncomputable def zjJ:Stmt:=bd 20
noncomputable def znR:List Str:=["way", "order"]
noncomputable def zhb:List Str:=["way", "order"]
theorem znY:Cd zjV znR zhb zjJ:=by decide +kernel
noncomputable def zfI:Stmt:=bd 21
noncomputable def ziZ:List Str:=["kind", "load", "value"]
noncomputable def zdr:List Str:=["kind", "load", "value"]
theorem ziJ:Cd ze1 ziZ zdr zfI:=by decide +kernel
noncomputable def zdD:Stmt:=bd 23
noncomputable def zgO:List Str:=["table", "hall", "deed"]
noncomputable def zb9:List Str:=["table", "hall", "deed"]
theorem zg1:Cd zdC zgO zb9 zdD:=by decide +kernel
noncomputable def zjW:Stmt:=bd 24
noncomputable def zo1:List Str:=["hall", "deed", "line"]
noncomputable def zgB:List Str:=["hall", "deed"]
theorem zo5:Cd zjI zo1 zgB zjW:=by decide +kernel
noncomputable def zcV:Stmt:=bd 25
noncomputable def zfX:List Str:=["table", "hall", "deed", "state", "kind"]
noncomputable def zbL:List Str:=["table", "hall", "deed"]
theorem zf3:Cd zc2 zfX zbL zcV:=by decide +kernel
noncomputable def zhl:Stmt:=bd 26
noncomputable def zlJ:List Str:=["table", "hall", "deed", "row"]
noncomputable def ze0:List Str:=["table", "hall", "deed"]
theorem znL:Cd zhD zlJ ze0 zhl:=by decide +kernel
noncomputable def zjz:Stmt:=bd 27
noncomputable def zoz:List Str:=["hall", "deed", "row", "line"]
noncomputable def zgI:List Str:=["hall", "deed", "row"]
theorem zn7:Cd zkb zoz zgI zjz:=by decide +kernel
noncomputable def zhN:Stmt:=bd 28
noncomputable def zni:List Str:=["hall", "deed", "row", "line", "value"]
noncomputable def ze2:List Str:=["hall", "deed", "row"]
theorem zlh:Cd zhZ zni ze2 zhN:=by decide +kernel
noncomputable def zjF:Stmt:=bd 29
noncomputable def zpg:List Str:=["hall", "deed", "row"]
noncomputable def zhf:List Str:=["hall", "deed", "row"]
theorem zpd:Cd zj7 zpg zhf zjF:=by decide +kernel
noncomputable def zeQ:Stmt:=bd 30
noncomputable def ziS:List Str:=["hall", "deed", "row", "line", "value"]
noncomputable def zdj:List Str:=["hall", "deed", "row"]
theorem ziG:Cd zfN ziS zdj zeQ:=by decide +kernel
noncomputable def zhJ:Stmt:=bd 31
noncomputable def zln:List Str:=["way", "number"]
noncomputable def zfu:List Str:=["way", "number"]
theorem zlR:Cd zhu zln zfu zhJ:=by decide +kernel
noncomputable def zdB:Stmt:=bd 32
noncomputable def zha:List Str:=["hall", "hand", "value", "row", "act", "line"]
noncomputable def zb8:List Str:=["hall", "hand", "value", "row"]
theorem zgZ:Cd zdS zha zb8 zdB:=by decide +kernel
noncomputable def zdW:Stmt:=bd 33
noncomputable def zhd:List Str:=["hall", "hand", "value", "act", "line"]
noncomputable def zb6:List Str:=["hall", "hand", "value", "act"]
theorem zgF:Cd zdQ zhd zb6 zdW:=by decide +kernel
noncomputable def zcU:Stmt:=bd 34
noncomputable def zf1:List Str:=["hall", "sender", "value", "row", "act"]
noncomputable def zbJ:List Str:=["hall", "sender", "value", "row"]
theorem zf5:Cd zcX zf1 zbJ zcU:=by decide +kernel
noncomputable def zc6:Stmt:=bd 35
noncomputable def zfY:List Str:=["hall", "sender", "value", "act", "line"]
noncomputable def zbH:List Str:=["hall", "sender", "value", "act"]
theorem zf6:Cd zc4 zfY zbH zc6:=by decide +kernel
noncomputable def zbY:Stmt:=bd 36
noncomputable def zd2:List Str:=["hall", "sender", "act", "hand"]
noncomputable def za2:List Str:=["hall", "sender", "act"]
theorem zej:Cd zbN zd2 za2 zbY:=by decide +kernel
noncomputable def zeU:Stmt:=bd 37
noncomputable def ziR:List Str:=["hall", "sender", "word"]
noncomputable def zdn:List Str:=["hall", "sender", "word"]
theorem zi6:Cd zfB ziR zdn zeU:=by decide +kernel
noncomputable def zcQ:Stmt:=bd 42
noncomputable def zus:List Str:=["table", "standing", "order", "hall", "deeds", "hand", "line", "?1?deed"]
noncomputable def ziE:List Str:=["table", "standing", "order"]
theorem zuB:Cd ztf zus ziE zcQ:=by decide +kernel
noncomputable def zik:Stmt:=bd 43
noncomputable def znB:List Str:=["hand"]
noncomputable def zfc:List Str:=["hand"]
theorem znF:Cd zh2 znB zfc zik:=by decide +kernel
noncomputable def zez:Stmt:=bd 44
noncomputable def zid:List Str:=["word", "hand", "way", "order", "?1?number"]
noncomputable def zcx:List Str:=["word", "hand", "way", "order"]
theorem zhL:Cd zes zid zcx zez:=by decide +kernel
noncomputable def zqb:Stmt:=bd 45
noncomputable def ztW:List Str:=["table", "standing", "deed", "hall"]
noncomputable def zli:List Str:=["table", "standing", "deed"]
theorem zto:Cd zp4 ztW zli zqb:=by decide +kernel
noncomputable def zpX:Stmt:=bd 46
noncomputable def ztj:List Str:=["table", "many", "deeds", "standing", "answers", "deed", "told"]
noncomputable def zlw:List Str:=["table", "many", "deeds"]
theorem zsD:Cd zp5 ztj zlw zpX:=by decide +kernel
noncomputable def zfk:Stmt:=bd 48
noncomputable def ziL:List Str:=["_law_script", "_law_k"]
noncomputable def zc7:List Str:=["_law_script", "_law_k"]
theorem ziC:Cd ze9 ziL zc7 zfk:=by decide +kernel
noncomputable def zgq:Stmt:=bd 49
noncomputable def zkr:List Str:=["_law_cell", "_law_size", "_law_many", "_law_found", "_law_mix", "_law_rest", "_law_k"]
noncomputable def zd7:List Str:=["_law_cell", "_law_size", "_law_many"]
theorem zk8:Cd zgm zkr zd7 zgq:=by decide +kernel
noncomputable def zew:Stmt:=bd 50
noncomputable def zhy:List Str:=["_law_hands", "_law_rows"]
noncomputable def zcq:List Str:=[]
theorem zii:Cd zeu zhy zcq zew:=by decide +kernel
noncomputable def zeY:Stmt:=bd 51
noncomputable def zi9:List Str:=["_law_hands", "_law_rows"]
noncomputable def zdo:List Str:=[]
theorem ziV:Cd zfW zi9 zdo zeY:=by decide +kernel
noncomputable def zkj:Stmt:=bd 52
noncomputable def zoF:List Str:=["_law_table_here", "_law_cell", "_law_ds", "_law_rows", "_law_at", "_law_row"]
noncomputable def zg0:List Str:=["_law_table_here", "_law_cell"]
theorem zn4:Cd zjZ zoF zg0 zkj:=by decide +kernel
noncomputable def zka:Stmt:=bd 53
noncomputable def zpf:List Str:=["_law_cell", "_law_ds", "_law_rights", "_law_hands", "_law_letters", "_law_asks", "_law_house", "_law_rows", "_law_k", "_law_d", "_law_event", "_law_acts", "_law_when", "_law_state", "?1?_law_k"]
noncomputable def zgP:List Str:=["_law_cell"]
theorem znZ:Cd zjy zpf zgP zka:=by decide +kernel
noncomputable def zhq:Stmt:=bd 54
noncomputable def zmx:List Str:=["_law_cell", "_law_table_here"]
noncomputable def zfb:List Str:=["_law_cell"]
theorem zmK:Cd zhX zmx zfb zhq:=by decide +kernel
noncomputable def zm6:Stmt:=bd 55
noncomputable def zrt:List Str:=["_law_cells", "_law_table_here", "_law_many", "_law_order_here", "_law_standing", "_law_answers", "_law_deeds", "_law_cell", "_law_some", "_law_deed", "_law_answer", "_law_fault"]
noncomputable def zi8:List Str:=["_law_cells", "_law_table_here", "_law_many", "_law_order_here"]
theorem zqu:Cd znf zrt zi8 zm6:=by decide +kernel
noncomputable def zfR:Stmt:=bd 56
noncomputable def zi7:List Str:=["_law_table_here", "_law_many", "_law_deeds", "_law_found"]
noncomputable def zdb:List Str:=["_law_table_here", "_law_many", "_law_deeds"]
theorem ziB:Cd zfs zi7 zdb zfR:=by decide +kernel
noncomputable def zir:Stmt:=bd 57
noncomputable def zm1:List Str:=["_law_cell", "_law_many", "_law_left", "_law_order_here"]
noncomputable def zeS:List Str:=["_law_cell", "_law_many"]
theorem znk:Cd zhW zm1 zeS zir:=by decide +kernel
noncomputable def ztH:Stmt:=bd 58
noncomputable def zuI:List Str:=["_law_script", "_law_table_here", "_law_many", "_law_order_here", "_law_by_turn", "_law_deeds", "_law_standing", "_law_answers", "_law_fault", "_law_handed", "_law_found", "_law_due", "_law_at", "_law_bad", "_law_turned", "_law_others", "?1?_law_deed", "?2?_law_word", "?2?_law_hand", "?2?_law_number"]
noncomputable def zse:List Str:=["_law_script"]
theorem zuP:Cd zsi zuI zse ztH:=by decide +kernel
noncomputable def zbV:Stmt:=zbb (bd 18) 0
noncomputable def zd0:List Str:=["self", "line"]
noncomputable def za1:List Str:=["self", "line"]
theorem zd8:Cd zbP zd0 za1 zbV:=by decide +kernel
noncomputable def za5:Stmt:=zbb (bd 18) 1
noncomputable def zcG:List Str:=["self"]
noncomputable def zaD:List Str:=["self"]
theorem zcu:Cd za8 zcG zaD za5:=by decide +kernel
noncomputable def zdA:Stmt:=zbb (bd 19) 0
noncomputable def zgE:List Str:=["self", "standing", "?1?line"]
noncomputable def zcc:List Str:=["self", "standing"]
theorem zgt:Cd zdu zgE zcc zdA:=by decide +kernel
noncomputable def zbU:Stmt:=zbb (bd 19) 1
noncomputable def zer:List Str:=["self", "lines", "?1?line"]
noncomputable def za0:List Str:=["self"]
theorem zea:Cd zbS zer za0 zbU:=by decide +kernel
noncomputable def zbf:Stmt:=zbb (bd 19) 2
noncomputable def zcP:List Str:=["self", "hand", "line"]
noncomputable def zaH:List Str:=["self", "hand"]
theorem zcR:Cd zbg zcP zaH zbf:=by decide +kernel
noncomputable def zbx:Stmt:=zbb (bd 19) 3
noncomputable def zc9:List Str:=["self", "hand", "line"]
noncomputable def zaO:List Str:=["self", "hand"]
theorem zdc:Cd zbB zc9 zaO zbx:=by decide +kernel
noncomputable def zaZ:Stmt:=zbb (bd 19) 4
noncomputable def zci:List Str:=["self", "hand", "kind", "load", "line"]
noncomputable def zaB:List Str:=["self", "hand", "kind", "load"]
theorem zcn:Cd zaY zci zaB zaZ:=by decide +kernel
noncomputable def za7:Stmt:=zbb (bd 19) 5
noncomputable def zcA:List Str:=["self", "hand", "kind", "load", "line"]
noncomputable def zaF:List Str:=["self", "hand", "kind", "load"]
theorem zcD:Cd za9 zcA zaF za7:=by decide +kernel
noncomputable def zcy:Stmt:=zbb (bd 19) 6
noncomputable def ze3:List Str:=["self", "way", "letter"]
noncomputable def zbs:List Str:=["self", "way", "letter"]
theorem zfU:Cd zcF ze3 zbs zcy:=by decide +kernel
noncomputable def zbm:Stmt:=zbb (bd 19) 7
noncomputable def zdh:List Str:=["self", "flag", "?1?hand", "?1?line"]
noncomputable def zaQ:List Str:=["self", "flag"]
theorem zdl:Cd zbw zdh zaQ zbm:=by decide +kernel
noncomputable def zaW:Stmt:=zbb (bd 19) 8
noncomputable def zcm:List Str:=["self", "sender", "?1?hand"]
noncomputable def zaA:List Str:=["self", "sender"]
theorem zck:Cd zaV zcm zaA zaW:=by decide +kernel
noncomputable def zbt:Stmt:=zbb (bd 19) 9
noncomputable def zde:List Str:=["self", "line"]
noncomputable def zaP:List Str:=["self"]
theorem zdd:Cd zbA zde zaP zbt:=by decide +kernel
inductive DI (K:PySem.W.Frag) (n:Str) (s:Stmt) (dV:Value) (f:Addr) (v:FuncData):Prop
 | mk {oc kV dc pm cd ct:Value} {od an:Option Addr} {sl:Array (Option Value)} (a:PySem.W.nsIn K mainGlobals n=some (some (.ref f))) (l:K.lookup f=some ⟨oc,od,.func v,sl⟩) (e:v=PySem.W.fnOf n n (zbz s) (zaI s) (zag s) dV kV dc pm an cd ct) (c:PySem.W.codeIn K cd n=true) (k:PySem.W.keepIn K (.ref f)=true)
inductive MI (K:PySem.W.Frag) (C:Addr) (n q:Str) (s:Stmt) (f:Addr) (v:FuncData):Prop
 | mk {oc kV dc pm cd ct:Value} {od an:Option Addr} {sl:Array (Option Value)} (a:PySem.W.findIn K (.ref C) n=some (some (.ref f))) (i:PySem.W.isFn K (.ref f)=true) (l:K.lookup f=some ⟨oc,od,.func v,sl⟩) (e:v=PySem.W.fnOf n q (zbz s) (zaI s) (zag s) .none kV dc pm an cd ct) (c:PySem.W.codeIn K cd q=true) (k:PySem.W.keepIn K (.ref f)=true)
section
variable {K:PySem.W.Frag} {n q:Str} {s:Stmt} {dV:Value} {f C:Addr} {v:FuncData} {N ps:List Str} {i:Nat} {B:F} (h5:(zag s).kind=.function) (h6:(zag s).isCoroutine=false) (h7:(zag s).isGenerator=false) (h8:N.take ps.length=ps) (e:P[i]?=some B) (h1:B.np=ps.length) (h2:B.ns=N.length) (h3:B.dfl=[]) (c:Cd B.body N ps s)
include h5 h6 h7 h8 e h1 h2 h3 c
theorem dat0 (F:Fun2 K n q s f v) (h:∀ us:List Value,us.length=ps.length->bindArgs v ⟨us,[]⟩=pure (ps.zip us)):zft K fns cls P globs gds exs i n q s f v N ps B:=
 ⟨e, F,c.sc h5 h6 h7 h8,h1,h2,by
  rw [h3]
  exact ⟨[],λ_ _=>.nil,λj hj=>by
   obtain rfl:j=0:=Nat.le_zero.mp hj
   exact ⟨[],.all h,.nil⟩⟩,c.2.2.2⟩
theorem DI.dat (D:DI K n s .none f v) (h:∀ kV dc pm an cd ct,∀ us:List Value,us.length=ps.length->bindArgs (PySem.W.fnOf n n (zbz s) (zaI s) (zag s) .none kV dc pm an cd ct) ⟨us,[]⟩=pure (ps.zip us)):zft K fns cls P globs gds exs i n n s f v N ps B:=by
 obtain ⟨_,l,E,c',k⟩:=D;subst E;exact dat0 h5 h6 h7 h8 e h1 h2 h3 c (zjh l c' k) (h _ _ _ _ _ _)
theorem MI.dat (D:MI K C n q s f v) (h:∀ kV dc pm an cd ct,∀ us:List Value,us.length=ps.length->bindArgs (PySem.W.fnOf n q (zbz s) (zaI s) (zag s) .none kV dc pm an cd ct) ⟨us,[]⟩=pure (ps.zip us)):zft K fns cls P globs gds exs i n q s f v N ps B:=by
 obtain ⟨_,_,l,E,c',k⟩:=D;subst E;exact dat0 h5 h6 h7 h8 e h1 h2 h3 c (zjh l c' k) (h _ _ _ _ _ _)
end
section
variable {K:PySem.W.Frag} {n q:Str} {s:Stmt} {dV:Value} {f C:Addr} {v:FuncData}
theorem DI.mg {mg:Str->Option Value} {h:Heap} (D:DI K n s dV f v) (X:K.In h) (G:h.Ns mainGlobals mg):mg n=some (.ref f):=by
 obtain ⟨a,_,_,_,_⟩:=D;exact PySem.W.mg_of X G a
theorem MI.a (D:MI K C n q s f v):PySem.W.findIn K (.ref C) n=some (some (.ref f)):=by obtain ⟨a,_,_,_,_,_⟩:=D;exact a
theorem MI.j (D:MI K C n q s f v):PySem.W.isFn K (.ref f)=true:=by obtain ⟨_,a,_,_,_,_⟩:=D;exact a
theorem MI.k (D:MI K C n q s f v):PySem.W.keepIn K (.ref f)=true:=by obtain ⟨_,_,_,_,_,a⟩:=D;exact a
end
inductive DL (K:PySem.W.Frag):Nat->List F->List Addr->List FuncData->List (List Str)->Prop
 | nil (i:Nat):DL K i [] [] [] []
 | cons {i:Nat} {B:F} {Bs:List F} {f:Addr} {fs:List Addr} {v:FuncData} {vs:List FuncData} {p:List Str} {ps:List (List Str)} {x q:Str} {st:Stmt} {N:List Str} (d:zft K fns cls P globs gds exs i x q st f v N p B) (r:DL K (i+1) Bs fs vs ps):DL K i (B::Bs) (f::fs) (v::vs) (p::ps)
theorem DL.get {K:PySem.W.Frag} {v0:FuncData} {B:F} {i:Nat} {Bs:List F} {fs:List Addr} {vs:List FuncData} {ps:List (List Str)} (L:DL K i Bs fs vs ps):∀ j,Bs[j]?=some B->∃ x q st N,zft K fns cls P globs gds exs (i+j) x q st (fs.getD j 0) (vs.getD j v0) N (ps.getD j []) B:=by
 induction L with
 | nil i=>intro j e;simp at e
 | cons d r ih=>
  intro j e
  cases j with
  | zero=>cases e;exact ⟨_,_,_,_,d⟩
  | succ j=>
   obtain ⟨x,q,st,N,z⟩:=ih j (by simpa using e);rw [Nat.add_right_comm] at z;exact ⟨x,q,st,N,z⟩
inductive FL (mg:Str->Option Value):List (Str×Nat×List D)->List Addr->List F->Prop
 | nil (fs:List Addr) (Bs:List F):FL mg [] fs Bs
 | cons {p:Str×Nat×List D} {ps:List (Str×Nat×List D)} {f:Addr} {fs:List Addr} {B:F} {Bs:List F} (h:mg p.1=some (.ref f)) (h1:B.np=p.2.1) (h2:B.dfl=p.2.2) (r:FL mg ps fs Bs):FL mg (p::ps) (f::fs) (B::Bs)
theorem FL.get {mg:Str->Option Value} {p:Str×Nat×List D} {ps:List (Str×Nat×List D)} {fs:List Addr} {Bs:List F} (L:FL mg ps fs Bs):∀ j,ps[j]?=some p->mg p.1=some (.ref (fs.getD j 0))/\∃ B,Bs[j]?=some B/\B.np=p.2.1/\B.dfl=p.2.2:=by
 induction L with
 | nil=>intro j e;simp at e
 | cons h h1 h2 r ih=>
  intro j e
  cases j with
  | zero=>cases e;exact ⟨h,_,rfl,h1,h2⟩
  | succ j=>exact ih j (by simpa using e)
theorem all_mk {l:PySem.W.OpenLaw} {w:World} {K:PySem.W.Frag} {h:Heap} {mg:Str->Option Value} {fa f1 f2 f3 f4 f5 f6 f7 f8 f9 f10 f11 f12 f13 f14 f15 f16 f17 f18 f19 f20 f21 f22 f23 f24 f25 f26 f27 f28 f29 f30 f31 f32 f33 f34 f35 f36 f37 f38 f39 f40 f41 f42 f43 f44 f45 f46 f47 f48 f49 f50 f51 f52 f53 f54 ga0 ga1 ga2 ga3 dT27 Qt Qe1:Addr} (X:K.In h) (G:h.Ns mainGlobals mg) (hfa:mg "law"=some (.ref fa))
  {wd27:Option Addr} {gs1 gs2 gs3 gs4 ws27:Array (Option Value)} {v1 v2 v3 v4 v5 v6 v7 v8 v9 v10 v11 v12 v13 v14 v15 v16 v17 v18 v19 v20 v21 v22 v23 v24 v25 v26 v27 v28 v29 v30 v31 v32 v33 v34 v35 v36 v37 v38 v39 v40 v41 v42 v43 v44 v45 v46 v47 v48 v49 v50 v51 v52 v53 v54:FuncData}
  {Qw Qs xN_NoDeed:Addr}
  {xnm_NoDeed xq_NoDeed:Str} {xbs_NoDeed xsub_NoDeed:List Value} {xhd_NoDeed xab_NoDeed:Bool} {xsn_NoDeed:List Str} {xcol_NoDeed:Option Bool} {xdd_NoDeed:Option Addr} {xk0_NoDeed xk1_NoDeed xk2_NoDeed xk3_NoDeed xk5_NoDeed:Option Value}
  {yc_CopyError:Value} {yd_CopyError:Option Addr} {ycd_CopyError:ClassData} {ys_CopyError:Array (Option Value)}
  {tk0 tk1 tk2 tk3 tk4 tk5 tk6 tk7 tk8:Tok}
  {gn1 gn2 gn3 gn4 wn27:Nat}
  (D1:DI K "right_of" zgg .none f1 v1)
  (D2:DI K "hand_row" zgc .none f2 v2)
  (D3:DI K "house_row" zfE .none f3 v3)
  (D4:DI K "row_for" zio .none f4 v4)
  (D5:DI K "is_wait" zh9 .none f5 v5)
  (D6:DI K "start" zlX .none f6 v6)
  (D7:DI K "clash" zmk .none f7 v7)
  (D8:DI K "renamed" zh6 .none f8 v8)
  (D9:DI K "has_version_of" zcg .none f9 v9)
  (D10:DI K "comers" zjJ .none f10 v10)
  (D11:DI K "letter_of" zfI .none f11 v11)
  (D12:DI K "may_be_done" zdD .none f12 v12)
  (D13:DI K "way_of" zjW .none f13 v13)
  (D14:DI K "row_for_deed" zcV .none f14 v14)
  (D15:DI K "do_deed" zhl .none f15 v15)
  (D16:DI K "do_ask" zjz .none f16 v16)
  (D17:DI K "do_take" zhN .none f17 v17)
  (D18:DI K "do_get" zjF .none f18 v18)
  (D19:DI K "got_value" zeQ .none f19 v19)
  (D20:DI K "without" zhJ .none f20 v20)
  (D21:DI K "do_hand_row" zdB .none f21 v21)
  (D22:DI K "do_hand_act" zdW .none f22 v22)
  (D23:DI K "do_house_row" zcU .none f23 v23)
  (D24:DI K "do_house_act" zc6 .none f24 v24)
  (D25:DI K "send_from_house" zbY .none f25 v25)
  (D26:DI K "receivers" zeU .none f26 v26)
  (D27:DI K "may" zcQ (.ref dT27) f27 v27)
  (D28:DI K "asks_of" zik .none f28 v28)
  (D29:DI K "letters_of" zez .none f29 v29)
  (D30:DI K "step" zqb .none f30 v30)
  (D31:DI K "play" zpX .none f31 v31)
  (D32:DI K "_law_cell_at" zfk .none f32 v32)
  (D33:DI K "_law_digits" zgq .none f33 v33)
  (D34:DI K "_law_one_copy" zew .none f34 v34)
  (D35:DI K "_law_readers" zeY .none f35 v35)
  (D36:DI K "_law_bent" zkj .none f36 v36)
  (D37:DI K "_law_free" zka .none f37 v37)
  (D38:DI K "_law_table" zhq .none f38 v38)
  (D39:DI K "_law_run" zm6 .none f39 v39)
  (D40:DI K "_law_refused" zfR .none f40 v40)
  (D41:DI K "_law_order" zir .none f41 v41)
  (D42:DI K "law" ztH .none f42 v42)
  (D43:MI K Qt "__init__" "OpenLine.__init__" zbV f43 v43)
  (D44:MI K Qt "as_tuple" "OpenLine.as_tuple" za5 f44 v44)
  (D45:MI K Qe1 "__init__" "Hall.__init__" zdA f45 v45)
  (D46:MI K Qe1 "as_tuple" "Hall.as_tuple" zbU f46 v46)
  (D47:MI K Qe1 "write_value" "Hall.write_value" zbf f47 v47)
  (D48:MI K Qe1 "tell_value" "Hall.tell_value" zbx f48 v48)
  (D49:MI K Qe1 "send_to_house" "Hall.send_to_house" zaZ f49 v49)
  (D50:MI K Qe1 "send_to_hand" "Hall.send_to_hand" za7 f50 v50)
  (D51:MI K Qe1 "posted" "Hall.posted" zcy f51 v51)
  (D52:MI K Qe1 "hands_with" "Hall.hands_with" zbm f52 v52)
  (D53:MI K Qe1 "other_sharers" "Hall.other_sharers" zaW f53 v53)
  (D54:MI K Qe1 "forget_all" "Hall.forget_all" zbt f54 v54)
  (Qu:PySem.W.nsIn K mainGlobals "OpenLine"=some (some (.ref Qt))) (Qp:PySem.W.plainGet K Qt Str.empty=true) (Qn:PySem.W.hasDictIn K Qt=true) (Qr:PySem.W.plainOver K Qt=true) (Ql:PySem.W.findIn K (.ref Qt) "__setattr__"=some (some (.builtin "object.__setattr__"))) (Qq:PySem.W.makesIn K Qt=true) (Qm:PySem.W.keepIn K (.ref Qt)=true)
  (Qc:PySem.W.findIn K (.ref Qt) "state"=some none)
  (Qb:PySem.W.findIn K (.ref Qt) "value"=some none)
  (Qd:PySem.W.findIn K (.ref Qt) "want"=some none)
  (Qh:PySem.W.findIn K (.ref Qt) "to"=some none)
  (Qe:PySem.W.findIn K (.ref Qt) "back"=some none)
  (Qa:PySem.W.findIn K (.ref Qt) "flags"=some none)
  (Qd1:PySem.W.nsIn K mainGlobals "Hall"=some (some (.ref Qe1))) (Qx:PySem.W.plainGet K Qe1 Str.empty=true) (Qa1:PySem.W.hasDictIn K Qe1=true) (Qy:PySem.W.plainOver K Qe1=true) (Qc1:PySem.W.findIn K (.ref Qe1) "__setattr__"=some (some (.builtin "object.__setattr__"))) (Qz:PySem.W.makesIn K Qe1=true) (Qb1:PySem.W.keepIn K (.ref Qe1)=true)
  (Qj:PySem.W.findIn K (.ref Qe1) "state"=some none)
  (Qk:PySem.W.findIn K (.ref Qe1) "store"=some none)
  (Qo:PySem.W.findIn K (.ref Qe1) "last"=some none)
  (Qi:PySem.W.findIn K (.ref Qe1) "lines"=some none)
  (Qg:PySem.W.findIn K (.ref Qe1) "answer"=some none)
  (Qf:PySem.W.findIn K (.ref Qe1) "broken"=some none)
  (y1:K.lookup ga0=some ⟨.type "tuple",none,.seq #[(.str (PySem.Str.ofString "read") tk0),(.str (PySem.Str.ofString "write") tk1),(.str (PySem.Str.ofString "drop") tk2)] gn1,gs1⟩)
  (x0:PySem.W.nsIn K mainGlobals "ASKS"=some (some (.ref ga0)))
  (y2:K.lookup ga1=some ⟨.type "tuple",none,.seq #[(.int 0 tk3),(.int 0 tk4)] gn2,gs2⟩)
  (x1:PySem.W.nsIn K mainGlobals "FIRST_VALUE"=some (some (.ref ga1)))
  (x2:PySem.W.nsIn K mainGlobals "OWNS"=some (some (.int 2 tk5)))
  (x3:PySem.W.nsIn K mainGlobals "SHARES"=some (some (.int 1 tk6)))
  (y3:K.lookup ga2=some ⟨.type "tuple",none,.seq #[(.str (PySem.Str.ofString "wait") tk7)] gn3,gs3⟩)
  (y4:K.lookup ga3=some ⟨.type "tuple",none,.seq #[(.ref ga2)] gn4,gs4⟩)
  (x4:PySem.W.nsIn K mainGlobals "WAITS"=some (some (.ref ga3)))
  (x5:PySem.W.nsIn K mainGlobals "WAY_HOLDS"=some (some (.int 2 tk8)))
  (w27:K.lookup dT27=some ⟨.type "tuple",wd27,.seq #[(.bool true)] wn27,ws27⟩)
  (Qv:PySem.W.nsIn K mainGlobals "NoDeed"=some (some (.ref Qw)))
  (q1_NoDeed:K.lookup Qw=some (excClassObj xnm_NoDeed xq_NoDeed Qw xN_NoDeed xbs_NoDeed (.ref Qs::veM) xhd_NoDeed xsn_NoDeed xsub_NoDeed xab_NoDeed xcol_NoDeed xdd_NoDeed xk0_NoDeed xk1_NoDeed xk2_NoDeed xk3_NoDeed xk5_NoDeed "ValueError.__new__"))
  (q2_NoDeed:PySem.W.nsOkIn K xN_NoDeed=true) (q3_NoDeed:PySem.W.nsIn K xN_NoDeed "__init__"=some none) (q7_NoDeed:PySem.W.exmOne K (.ref Qw) (.ref Qw)=some true)
  (q4_CopyError:K.lookup Qs=some ⟨yc_CopyError,yd_CopyError,.cls ycd_CopyError,ys_CopyError⟩) (q5_CopyError:PySem.W.nsOkIn K ycd_CopyError.ns=true) (q6_CopyError:PySem.W.nsIn K ycd_CopyError.ns "__init__"=some none)
  (z1:PySem.W.nsIn K mainGlobals "len"=some none)
  (z2:PySem.W.nsIn K mainGlobals "sum"=some none)
  (z3:PySem.W.nsIn K mainGlobals "tuple"=some none)
  (z4:PySem.W.nsIn K mainGlobals "int"=some none)
  (z5:PySem.W.nsIn K mainGlobals "range"=some none)
  (z6:PySem.W.nsIn K mainGlobals "all"=some none)
  (z7:PySem.W.nsIn K mainGlobals "any"=some none)
  (z8:PySem.W.nsIn K mainGlobals "max"=some none)
  (z9:PySem.W.nsIn K mainGlobals "min"=some none)
  (z10:PySem.W.nsIn K mainGlobals "list"=some none)
  (z11:PySem.W.nsIn K mainGlobals "isinstance"=some none)
  (z12:PySem.W.nsIn K mainGlobals "str"=some none)
  (z13:PySem.W.nsIn K mainGlobals "bool"=some none)
  (z14:PySem.W.nsIn K mainGlobals "dict"=some none)
  (z15:PySem.W.nsIn K mainGlobals "enumerate"=some none)
  (z16:PySem.W.nsIn K mainGlobals "sorted"=some none)
  (z17:PySem.W.nsIn K mainGlobals "set"=some none)
  : ∃ fd:FuncData,(∀ (s:Shared) (v:Value),BindsTo s fd ⟨[v],[]⟩ [("_law_script",v)])/\∀ base:Heap,K.In base->base.Ns mainGlobals mg->FnOk l.prog w K mg base CX0 24 fa fd ["_law_script"] (spF K 1 (zaf P 12 41)):=by
 have e:=hfa.symm.trans (D42.mg X G);cases e;obtain @⟨_,kV27,dc27,pm27,cd27,ct27,_,an27,_,a27,l27,E27,c27,k27⟩:=D27;subst E27;have F27:=zjh (st:=zcQ) l27 c27 k27
 have b27:∃ dvs,(∀ A H,RepDs K A H [(.bl true)] dvs)/\∀ j,j<=1->∃ ds,zcp K _ ziE ds/\Vals (dvs.drop j) ds:=⟨[(V.bl true)],λ_ _=>(.cons (by simp only [RepD]) .nil),λj hj=>by
  match j,hj with
  | 0,_=>exact ⟨[(.bool true)],λs us hK hl=>match us,(show us.length=2 by simpa [ziE] using hl) with | [_,_],_=>BindsTo.of_defaults (fd:=PySem.W.fnOf "may" "may" (zbz zcQ) (zaI zcQ) (zag zcQ) (.ref dT27) kV27 dc27 pm27 an27 cd27 ct27) rfl (hK _ _ w27) rfl rfl rfl,(.cons rfl .nil)⟩
  | 1,_=>exact ⟨[],λs us hK hl=>match us,(show us.length=3 by simpa [ziE] using hl) with | [_,_,_],_=>BindsTo.of_defaults (fd:=PySem.W.fnOf "may" "may" (zbz zcQ) (zaI zcQ) (zag zcQ) (.ref dT27) kV27 dc27 pm27 an27 cd27 ct27) rfl (hK _ _ w27) rfl rfl rfl,.nil⟩
  | j+2,hj=>omega⟩
 have d27:zft K fns cls P globs gds exs 26 "may" "may" zcQ f27 _ zus ziE _:=⟨rfl,F27,Cd.sc zuB rfl rfl rfl rfl,rfl,rfl,b27,zuB.2.2.2⟩
 have blt:∀ x∈zdz,mg x=none:=by
  intro x hx;simp only [zdz,List.mem_cons,List.not_mem_nil,or_false] at hx
  rcases hx with rfl | rfl | rfl | rfl | rfl | rfl | rfl | rfl | rfl | rfl | rfl | rfl | rfl | rfl | rfl | rfl | rfl
  ·exact PySem.W.mg_none_of X G z1
  ·exact PySem.W.mg_none_of X G z2
  ·exact PySem.W.mg_none_of X G z3
  ·exact PySem.W.mg_none_of X G z4
  ·exact PySem.W.mg_none_of X G z5
  ·exact PySem.W.mg_none_of X G z6
  ·exact PySem.W.mg_none_of X G z7
  ·exact PySem.W.mg_none_of X G z8
  ·exact PySem.W.mg_none_of X G z9
  ·exact PySem.W.mg_none_of X G z10
  ·exact PySem.W.mg_none_of X G z11
  ·exact PySem.W.mg_none_of X G z12
  ·exact PySem.W.mg_none_of X G z13
  ·exact PySem.W.mg_none_of X G z14
  ·exact PySem.W.mg_none_of X G z15
  ·exact PySem.W.mg_none_of X G z16
  ·exact PySem.W.mg_none_of X G z17
 have gl:∀ (x:Str) (d:D),globs.lookup x=some d->∃ u v,mg x=some u/\RelV v u/\∀ A H,RepD K A H d v:=by
  intro x d e;unfold globs at e;rw [List.lookup_cons] at e
  split at e
  ·rename_i hx
   have hx:=eq_of_beq hx;subst hx;cases e
   exact ⟨_,(V.ref ga0),PySem.W.mg_of X G x0,rfl,λA H=>by simp only [RepD];exact ⟨ga0,[(V.str (PySem.Str.ofString "read")),(V.str (PySem.Str.ofString "write")),(V.str (PySem.Str.ofString "drop"))],rfl,.inr ⟨_,_,_,y1,rfl,rfl,rfl,by show 3<=sizeLine;decide,(.cons ⟨_,rfl⟩ (.cons ⟨_,rfl⟩ (.cons ⟨_,rfl⟩ .nil)))⟩,(.cons (by simp only [RepD];rfl) (.cons (by simp only [RepD];rfl) (.cons (by simp only [RepD];rfl) .nil)))⟩⟩
  rw [List.lookup_cons] at e
  split at e
  ·rename_i hx
   have hx:=eq_of_beq hx;subst hx;cases e
   exact ⟨_,(V.ref ga1),PySem.W.mg_of X G x1,rfl,λA H=>by simp only [RepD];exact ⟨ga1,[(V.int 0),(V.int 0)],rfl,.inr ⟨_,_,_,y2,rfl,rfl,rfl,by show 2<=sizeLine;decide,(.cons ⟨_,rfl⟩ (.cons ⟨_,rfl⟩ .nil))⟩,(.cons (by simp only [RepD]) (.cons (by simp only [RepD]) .nil))⟩⟩
  rw [List.lookup_cons] at e
  split at e
  ·rename_i hx
   have hx:=eq_of_beq hx;subst hx;cases e;exact ⟨_,(V.int 2),PySem.W.mg_of X G x2,⟨_,rfl⟩,λA H=>by simp only [RepD]⟩
  rw [List.lookup_cons] at e
  split at e
  ·rename_i hx
   have hx:=eq_of_beq hx;subst hx;cases e;exact ⟨_,(V.int 1),PySem.W.mg_of X G x3,⟨_,rfl⟩,λA H=>by simp only [RepD]⟩
  rw [List.lookup_cons] at e
  split at e
  ·rename_i hx
   have hx:=eq_of_beq hx;subst hx;cases e
   exact ⟨_,(V.ref ga3),PySem.W.mg_of X G x4,rfl,λA H=>by simp only [RepD];exact ⟨ga3,[(V.ref ga2)],rfl,.inr ⟨_,_,_,y4,rfl,rfl,rfl,by show 1<=sizeLine;decide,(.cons rfl .nil)⟩,(.cons (by simp only [RepD];exact ⟨ga2,[(V.str (PySem.Str.ofString "wait"))],rfl,.inr ⟨_,_,_,y3,rfl,rfl,rfl,by show 1<=sizeLine;decide,(.cons ⟨_,rfl⟩ .nil)⟩,(.cons (by simp only [RepD];rfl) .nil)⟩) .nil)⟩⟩
  rw [List.lookup_cons] at e
  split at e
  ·rename_i hx
   have hx:=eq_of_beq hx;subst hx;cases e;exact ⟨_,(V.int 2),PySem.W.mg_of X G x5,⟨_,rfl⟩,λA H=>by simp only [RepD]⟩
  cases e
 let exA:List Addr:=[Qw]
 let addr:Nat->Addr:=λn=>[f1,f2,f3,f4,f5,f6,f7,f8,f9,f10,f11,f12,f13,f14,f15,f16,f17,f18,f19,f20,f21,f22,f23,f24,f25,f26,f27,f28,f29,f30,f31,f32,f33,f34,f35,f36,f37,f38,f39,f40,f41,fa,f43,f44,f45,f46,f47,f48,f49,f50,f51,f52,f53,f54].getD n 0
 let psOf:Nat->List Str:=λn=>[zef,zem,zda,zfd,zfi,ziP,zje,zfQ,zbc,zhb,zdr,zb9,zgB,zbL,ze0,zgI,ze2,zhf,zdj,zfu,zb8,zb6,zbJ,zbH,za2,zdn,ziE,zfc,zcx,zli,zlw,zc7,zd7,zcq,zdo,zg0,zgP,zfb,zi8,zdb,zeS,zse,za1,zaD,zcc,za0,zaH,zaO,zaB,zaF,zbs,zaQ,zaA,zaP].getD n []
 let fdOf:Nat->FuncData:=λn=>[v1,v2,v3,v4,v5,v6,v7,v8,v9,v10,v11,v12,v13,v14,v15,v16,v17,v18,v19,v20,v21,v22,v23,v24,v25,v26,(PySem.W.fnOf "may" "may" (zbz zcQ) (zaI zcQ) (zag zcQ) (.ref dT27) kV27 dc27 pm27 an27 cd27 ct27),v28,v29,v30,v31,v32,v33,v34,v35,v36,v37,v38,v39,v40,v41,v42,v43,v44,v45,v46,v47,v48,v49,v50,v51,v52,v53,v54].getD n v1
 have T:Txt w K mg fns cls P globs gds exs exA addr fdOf psOf:=by
  refine ⟨λfi B e=>?_,blt,gl,λfi p e=>?_,?_,?_,?_,λc x e=>?_,by decide⟩
  ·have L:DL K 0 P [f1,f2,f3,f4,f5,f6,f7,f8,f9,f10,f11,f12,f13,f14,f15,f16,f17,f18,f19,f20,f21,f22,f23,f24,f25,f26,f27,f28,f29,f30,f31,f32,f33,f34,f35,f36,f37,f38,f39,f40,f41,fa,f43,f44,f45,f46,f47,f48,f49,f50,f51,f52,f53,f54] [v1,v2,v3,v4,v5,v6,v7,v8,v9,v10,v11,v12,v13,v14,v15,v16,v17,v18,v19,v20,v21,v22,v23,v24,v25,v26,(PySem.W.fnOf "may" "may" (zbz zcQ) (zaI zcQ) (zag zcQ) (.ref dT27) kV27 dc27 pm27 an27 cd27 ct27),v28,v29,v30,v31,v32,v33,v34,v35,v36,v37,v38,v39,v40,v41,v42,v43,v44,v45,v46,v47,v48,v49,v50,v51,v52,v53,v54] [zef,zem,zda,zfd,zfi,ziP,zje,zfQ,zbc,zhb,zdr,zb9,zgB,zbL,ze0,zgI,ze2,zhf,zdj,zfu,zb8,zb6,zbJ,zbH,za2,zdn,ziE,zfc,zcx,zli,zlw,zc7,zd7,zcq,zdo,zg0,zgP,zfb,zi8,zdb,zeS,zse,za1,zaD,zcc,za0,zaH,zaO,zaB,zaF,zbs,zaQ,zaA,zaP]:=.cons (DI.dat rfl rfl rfl rfl rfl rfl rfl rfl zkS D1 λ_ _ _ _ _ _=>us2 λ_ _=>rfl) (.cons (DI.dat rfl rfl rfl rfl rfl rfl rfl rfl zkF D2 λ_ _ _ _ _ _=>us3 λ_ _ _=>rfl) (.cons (DI.dat rfl rfl rfl rfl rfl rfl rfl rfl ziu D3 λ_ _ _ _ _ _=>us4 λ_ _ _ _=>rfl) (.cons (DI.dat rfl rfl rfl rfl rfl rfl rfl rfl zmu D4 λ_ _ _ _ _ _=>us2 λ_ _=>rfl) (.cons (DI.dat rfl rfl rfl rfl rfl rfl rfl rfl zlK D5 λ_ _ _ _ _ _=>us1 λ_=>rfl) (.cons (DI.dat rfl rfl rfl rfl rfl rfl rfl rfl zqZ D6 λ_ _ _ _ _ _=>us2 λ_ _=>rfl) (.cons (DI.dat rfl rfl rfl rfl rfl rfl rfl rfl zrD D7 λ_ _ _ _ _ _=>us2 λ_ _=>rfl) (.cons (DI.dat rfl rfl rfl rfl rfl rfl rfl rfl zne D8 λ_ _ _ _ _ _=>us2 λ_ _=>rfl) (.cons (DI.dat rfl rfl rfl rfl rfl rfl rfl rfl zeA D9 λ_ _ _ _ _ _=>us2 λ_ _=>rfl) (.cons (DI.dat rfl rfl rfl rfl rfl rfl rfl rfl znY D10 λ_ _ _ _ _ _=>us2 λ_ _=>rfl) (.cons (DI.dat rfl rfl rfl rfl rfl rfl rfl rfl ziJ D11 λ_ _ _ _ _ _=>us3 λ_ _ _=>rfl) (.cons (DI.dat rfl rfl rfl rfl rfl rfl rfl rfl zg1 D12 λ_ _ _ _ _ _=>us3 λ_ _ _=>rfl) (.cons (DI.dat rfl rfl rfl rfl rfl rfl rfl rfl zo5 D13 λ_ _ _ _ _ _=>us2 λ_ _=>rfl) (.cons (DI.dat rfl rfl rfl rfl rfl rfl rfl rfl zf3 D14 λ_ _ _ _ _ _=>us3 λ_ _ _=>rfl) (.cons (DI.dat rfl rfl rfl rfl rfl rfl rfl rfl znL D15 λ_ _ _ _ _ _=>us3 λ_ _ _=>rfl) (.cons (DI.dat rfl rfl rfl rfl rfl rfl rfl rfl zn7 D16 λ_ _ _ _ _ _=>us3 λ_ _ _=>rfl) (.cons (DI.dat rfl rfl rfl rfl rfl rfl rfl rfl zlh D17 λ_ _ _ _ _ _=>us3 λ_ _ _=>rfl) (.cons (DI.dat rfl rfl rfl rfl rfl rfl rfl rfl zpd D18 λ_ _ _ _ _ _=>us3 λ_ _ _=>rfl) (.cons (DI.dat rfl rfl rfl rfl rfl rfl rfl rfl ziG D19 λ_ _ _ _ _ _=>us3 λ_ _ _=>rfl) (.cons (DI.dat rfl rfl rfl rfl rfl rfl rfl rfl zlR D20 λ_ _ _ _ _ _=>us2 λ_ _=>rfl) (.cons (DI.dat rfl rfl rfl rfl rfl rfl rfl rfl zgZ D21 λ_ _ _ _ _ _=>us4 λ_ _ _ _=>rfl) (.cons (DI.dat rfl rfl rfl rfl rfl rfl rfl rfl zgF D22 λ_ _ _ _ _ _=>us4 λ_ _ _ _=>rfl) (.cons (DI.dat rfl rfl rfl rfl rfl rfl rfl rfl zf5 D23 λ_ _ _ _ _ _=>us4 λ_ _ _ _=>rfl) (.cons (DI.dat rfl rfl rfl rfl rfl rfl rfl rfl zf6 D24 λ_ _ _ _ _ _=>us4 λ_ _ _ _=>rfl) (.cons (DI.dat rfl rfl rfl rfl rfl rfl rfl rfl zej D25 λ_ _ _ _ _ _=>us3 λ_ _ _=>rfl) (.cons (DI.dat rfl rfl rfl rfl rfl rfl rfl rfl zi6 D26 λ_ _ _ _ _ _=>us3 λ_ _ _=>rfl) (.cons d27 (.cons (DI.dat rfl rfl rfl rfl rfl rfl rfl rfl znF D28 λ_ _ _ _ _ _=>us1 λ_=>rfl) (.cons (DI.dat rfl rfl rfl rfl rfl rfl rfl rfl zhL D29 λ_ _ _ _ _ _=>us4 λ_ _ _ _=>rfl) (.cons (DI.dat rfl rfl rfl rfl rfl rfl rfl rfl zto D30 λ_ _ _ _ _ _=>us3 λ_ _ _=>rfl) (.cons (DI.dat rfl rfl rfl rfl rfl rfl rfl rfl zsD D31 λ_ _ _ _ _ _=>us3 λ_ _ _=>rfl) (.cons (DI.dat rfl rfl rfl rfl rfl rfl rfl rfl ziC D32 λ_ _ _ _ _ _=>us2 λ_ _=>rfl) (.cons (DI.dat rfl rfl rfl rfl rfl rfl rfl rfl zk8 D33 λ_ _ _ _ _ _=>us3 λ_ _ _=>rfl) (.cons (DI.dat rfl rfl rfl rfl rfl rfl rfl rfl zii D34 λ_ _ _ _ _ _=>us0 rfl) (.cons (DI.dat rfl rfl rfl rfl rfl rfl rfl rfl ziV D35 λ_ _ _ _ _ _=>us0 rfl) (.cons (DI.dat rfl rfl rfl rfl rfl rfl rfl rfl zn4 D36 λ_ _ _ _ _ _=>us2 λ_ _=>rfl) (.cons (DI.dat rfl rfl rfl rfl rfl rfl rfl rfl znZ D37 λ_ _ _ _ _ _=>us1 λ_=>rfl) (.cons (DI.dat rfl rfl rfl rfl rfl rfl rfl rfl zmK D38 λ_ _ _ _ _ _=>us1 λ_=>rfl) (.cons (DI.dat rfl rfl rfl rfl rfl rfl rfl rfl zqu D39 λ_ _ _ _ _ _=>us4 λ_ _ _ _=>rfl) (.cons (DI.dat rfl rfl rfl rfl rfl rfl rfl rfl ziB D40 λ_ _ _ _ _ _=>us3 λ_ _ _=>rfl) (.cons (DI.dat rfl rfl rfl rfl rfl rfl rfl rfl znk D41 λ_ _ _ _ _ _=>us2 λ_ _=>rfl) (.cons (DI.dat rfl rfl rfl rfl rfl rfl rfl rfl zuP D42 λ_ _ _ _ _ _=>us1 λ_=>rfl) (.cons (MI.dat rfl rfl rfl rfl rfl rfl rfl rfl zd8 D43 λ_ _ _ _ _ _=>us2 λ_ _=>rfl) (.cons (MI.dat rfl rfl rfl rfl rfl rfl rfl rfl zcu D44 λ_ _ _ _ _ _=>us1 λ_=>rfl) (.cons (MI.dat rfl rfl rfl rfl rfl rfl rfl rfl zgt D45 λ_ _ _ _ _ _=>us2 λ_ _=>rfl) (.cons (MI.dat rfl rfl rfl rfl rfl rfl rfl rfl zea D46 λ_ _ _ _ _ _=>us1 λ_=>rfl) (.cons (MI.dat rfl rfl rfl rfl rfl rfl rfl rfl zcR D47 λ_ _ _ _ _ _=>us2 λ_ _=>rfl) (.cons (MI.dat rfl rfl rfl rfl rfl rfl rfl rfl zdc D48 λ_ _ _ _ _ _=>us2 λ_ _=>rfl) (.cons (MI.dat rfl rfl rfl rfl rfl rfl rfl rfl zcn D49 λ_ _ _ _ _ _=>us4 λ_ _ _ _=>rfl) (.cons (MI.dat rfl rfl rfl rfl rfl rfl rfl rfl zcD D50 λ_ _ _ _ _ _=>us4 λ_ _ _ _=>rfl) (.cons (MI.dat rfl rfl rfl rfl rfl rfl rfl rfl zfU D51 λ_ _ _ _ _ _=>us3 λ_ _ _=>rfl) (.cons (MI.dat rfl rfl rfl rfl rfl rfl rfl rfl zdl D52 λ_ _ _ _ _ _=>us2 λ_ _=>rfl) (.cons (MI.dat rfl rfl rfl rfl rfl rfl rfl rfl zck D53 λ_ _ _ _ _ _=>us2 λ_ _=>rfl) (.cons (MI.dat rfl rfl rfl rfl rfl rfl rfl rfl zdd D54 λ_ _ _ _ _ _=>us1 λ_=>rfl) (.nil _))))))))))))))))))))))))))))))))))))))))))))))))))))))
   have z:=DL.get (v0:=v1) L fi e;rw [Nat.zero_add] at z;exact z
  ·exact FL.get (show FL mg fns [f1,f2,f3,f4,f5,f6,f7,f8,f9,f10,f11,f12,f13,f14,f15,f16,f17,f18,f19,f20,f21,f22,f23,f24,f25,f26,f27,f28,f29,f30,f31,f32,f33,f34,f35,f36,f37,f38,f39,f40,f41,fa,f43,f44,f45,f46,f47,f48,f49,f50,f51,f52,f53,f54] P from .cons (D1.mg X G) rfl rfl (.cons (D2.mg X G) rfl rfl (.cons (D3.mg X G) rfl rfl (.cons (D4.mg X G) rfl rfl (.cons (D5.mg X G) rfl rfl (.cons (D6.mg X G) rfl rfl (.cons (D7.mg X G) rfl rfl (.cons (D8.mg X G) rfl rfl (.cons (D9.mg X G) rfl rfl (.cons (D10.mg X G) rfl rfl (.cons (D11.mg X G) rfl rfl (.cons (D12.mg X G) rfl rfl (.cons (D13.mg X G) rfl rfl (.cons (D14.mg X G) rfl rfl (.cons (D15.mg X G) rfl rfl (.cons (D16.mg X G) rfl rfl (.cons (D17.mg X G) rfl rfl (.cons (D18.mg X G) rfl rfl (.cons (D19.mg X G) rfl rfl (.cons (D20.mg X G) rfl rfl (.cons (D21.mg X G) rfl rfl (.cons (D22.mg X G) rfl rfl (.cons (D23.mg X G) rfl rfl (.cons (D24.mg X G) rfl rfl (.cons (D25.mg X G) rfl rfl (.cons (D26.mg X G) rfl rfl (.cons (PySem.W.mg_of X G a27) rfl rfl (.cons (D28.mg X G) rfl rfl (.cons (D29.mg X G) rfl rfl (.cons (D30.mg X G) rfl rfl (.cons (D31.mg X G) rfl rfl (.cons (D32.mg X G) rfl rfl (.cons (D33.mg X G) rfl rfl (.cons (D34.mg X G) rfl rfl (.cons (D35.mg X G) rfl rfl (.cons (D36.mg X G) rfl rfl (.cons (D37.mg X G) rfl rfl (.cons (D38.mg X G) rfl rfl (.cons (D39.mg X G) rfl rfl (.cons (D40.mg X G) rfl rfl (.cons (D41.mg X G) rfl rfl (.cons (D42.mg X G) rfl rfl (.nil _ _))))))))))))))))))))))))))))))))))))))))))) fi e
  ·intro ci hc
   unfold cls at hc;simp only [List.mem_cons,List.not_mem_nil,or_false] at hc
   rcases hc with rfl | rfl
   ·exact ⟨Qt,_,PySem.W.mg_of X G Qu,Qu,⟨Qp,Qn,Qr,Ql⟩,⟨Qq,D43.a,D43.j,Qm⟩,rfl,rfl⟩
   ·exact ⟨Qe1,_,PySem.W.mg_of X G Qd1,Qd1,⟨Qx,Qa1,Qy,Qc1⟩,⟨Qz,D45.a,D45.j,Qb1⟩,rfl,rfl⟩
  ·intro ci hc
   unfold cls at hc;simp only [List.mem_cons,List.not_mem_nil,or_false] at hc
   rcases hc with rfl | rfl
   ·intro pm hp
    simp only [List.mem_cons,List.not_mem_nil,or_false] at hp
    rcases hp with rfl
    ·exact ⟨Qt,_,Qu,⟨Qp,Qn,Qr,Ql⟩,⟨D44.a,D44.j,D44.k⟩,rfl,rfl⟩
   ·intro pm hp
    simp only [List.mem_cons,List.not_mem_nil,or_false] at hp
    rcases hp with rfl | rfl | rfl | rfl | rfl | rfl | rfl | rfl | rfl
    ·exact ⟨Qe1,_,Qd1,⟨Qx,Qa1,Qy,Qc1⟩,⟨D46.a,D46.j,D46.k⟩,rfl,rfl⟩
    ·exact ⟨Qe1,_,Qd1,⟨Qx,Qa1,Qy,Qc1⟩,⟨D47.a,D47.j,D47.k⟩,rfl,rfl⟩
    ·exact ⟨Qe1,_,Qd1,⟨Qx,Qa1,Qy,Qc1⟩,⟨D48.a,D48.j,D48.k⟩,rfl,rfl⟩
    ·exact ⟨Qe1,_,Qd1,⟨Qx,Qa1,Qy,Qc1⟩,⟨D49.a,D49.j,D49.k⟩,rfl,rfl⟩
    ·exact ⟨Qe1,_,Qd1,⟨Qx,Qa1,Qy,Qc1⟩,⟨D50.a,D50.j,D50.k⟩,rfl,rfl⟩
    ·exact ⟨Qe1,_,Qd1,⟨Qx,Qa1,Qy,Qc1⟩,⟨D51.a,D51.j,D51.k⟩,rfl,rfl⟩
    ·exact ⟨Qe1,_,Qd1,⟨Qx,Qa1,Qy,Qc1⟩,⟨D52.a,D52.j,D52.k⟩,rfl,rfl⟩
    ·exact ⟨Qe1,_,Qd1,⟨Qx,Qa1,Qy,Qc1⟩,⟨D53.a,D53.j,D53.k⟩,rfl,rfl⟩
    ·exact ⟨Qe1,_,Qd1,⟨Qx,Qa1,Qy,Qc1⟩,⟨D54.a,D54.j,D54.k⟩,rfl,rfl⟩
  ·intro ci hc
   unfold cls at hc;simp only [List.mem_cons,List.not_mem_nil,or_false] at hc
   rcases hc with rfl | rfl
   ·intro fl hf A hA
    cases (Qu.symm.trans hA)
    simp only [List.mem_cons,List.not_mem_nil,or_false] at hf
    rcases hf with rfl | rfl | rfl | rfl | rfl | rfl
    ·exact Qc
    ·exact Qb
    ·exact Qd
    ·exact Qh
    ·exact Qe
    ·exact Qa
   ·intro fl hf A hA
    cases (Qd1.symm.trans hA)
    simp only [List.mem_cons,List.not_mem_nil,or_false] at hf
    rcases hf with rfl | rfl | rfl | rfl | rfl | rfl
    ·exact Qj
    ·exact Qk
    ·exact Qo
    ·exact Qi
    ·exact Qg
    ·exact Qf
  ·unfold exs at e
   match c,e with
   | 0,e=>cases e;exact ⟨Qw,PySem.W.mg_of X G Qv,rfl,⟨_,_,_,_,_,_,_,_,_,_,_,_,_,_,_,_,q1_NoDeed,q2_NoDeed,q3_NoDeed,λh Xh=>(zpe Xh q4_CopyError q5_CopyError q6_CopyError .base)⟩,q7_NoDeed⟩
   | n+1,e=>exact absurd (List.getElem?_eq_some_iff.mp e).1 (by show ¬ (n+1<1);omega)
 obtain ⟨_,_,E,_,_⟩:=D42;subst E;exact ⟨_,λs v=>.of_eq rfl,λbase _ _=>zqC T 12 41 _ rfl⟩
theorem walk {l:PySem.W.OpenLaw} {q:Program} {loose:List Str} {XP:(Str->Option Value)->Heap->Prop} {YP:World->Heap->Prop} {d:DefRec} {K:Params->PySem.W.Frag} (hn:l.most=some 63) (hdf:d.params.defaults=[])
  (hY:∀ (w:World) (h:Heap),YP w h->(K w.params).In h)
  (F:∀ (w:World) (mg:Str->Option Value) (fa:Addr) (h:Heap),(K w.params).In h->h.Ns mainGlobals mg->mg d.name=some (.ref fa) →
   ∃ fd:FuncData,(∀ (s:Shared) (u:Value),BindsTo s fd ⟨[u],[]⟩ [("_law_script",u)])/\∀ base:Heap,(K w.params).In base->base.Ns mainGlobals mg->FnOk l.prog w (K w.params) mg base CX0 24 fa fd ["_law_script"] (spF (K w.params) 1 (zaf P 12 41))) :
  PySem.W.WalkO q loose XP YP l.row.toRowW d [] (λf vs=>PySem.call f vs):=
 L2.walk_of (n:=63) (k:=24) (x:="_law_script") (CX:=λ_=>CX0) (sp:=λw=>spF (K w.params) 1 (zaf P 12 41)) hn (by decide) hdf ⟨rfl,by decide,by decide⟩ hY F
  (λ_ _ a ns hl _ hS=>znn hS (znM hl)) λ_ _ _ _ _ z=>z
end K23
open PySem PySem.W PyProof.Rows
inductive PySem.W.Fast:Prop|tw15818989491042136444|tw17804780502323343390|tw1768957697674658857|tw4113706941729111614|tw4019871701202063357|tw15749380818015614420|tw7369869136394626480|tw7847982108268233914|tw6230303674638530401|tw10142128654116962407|tw4530921754609624911|tw7458594411924255261|tw11189620867542340314|tw8064679325571606090|tw17741295945335651476|tw17762834860578300970|tw314732135520739456|tw7983531322979846063|tw9060296340927676230|tw15773501298821353349|tw16009597723007527277|tw6260973158858603289|tw10555347095380020810|tw12646331277798061818|tw14167665952884488111|tw681806649186459508|tw12657825618782531554|tw14259522536487616395|tw2227592597394069806|tw9181433662267182238|tw12611639365338659576|tw2598815742321364602|tw15463114425326854943|tw1683467693374426959|tw5616326535684777953|tw11730979208529119000|tw5451536015324207123|tw18354489866651617334|tw16383297340800361370|tw15962340816025032469|tw7520599133851690006|tw15618090455989711598|tw12481299431405674948|tw16920365353089333013|tw11284087307532343554|tw17545085265495141686|tw7009313766521965683|tw5949430943653444251|tw3947599905834993559|tw1693348893123451227|tw12648859524112922810|tw4415705847283492137|tw7434453654716909520|tw2083092441976876920|tw3884749513032980753|tw8974896841456895070|tw2511556415513325014|tw10521436653580309509|tw16838683427453823642|tw10385643683703445856|tw7689597923788630338|tw9104381861034343433|tw13959868288372564121|tw2259263537639656407|tw16092976494920348092|tw5420067744333441525|tw13779679998949254211|tw8239976856385758324|tw16108262864424215764|tw13146127049421762397|tw784164231156586704|tw12065730096244394738|tw1385823172442728393|tw6876770501074420796|tw16183430724987438843|tw9377815928842330070|tw17922776034459665120|tw5509031909906098316|tw1683790495661540739|tw3175048192210872041|tw15632097183769460482|tw3936956525087768459|tw5390611867102969241|tw11931116976533443967|tw2528041282956150751|tw18387856225712136037|tw1659145130850524775|tw17461969412858401003|tw12235844010222671893|tw3303354335726554587|tw1323205741407005762|tw523483480446473848|tw15583703306531528074|tw11842710115288168185|tw13376557319795944783|tw2609852655243277652|tw1986153162155190004|tw15206683797178205461|tw17100956732316354237|tw17494427536982647364|tw13963345012305206346|tw14625939169879811062|tw11079742358258376391|tw9781311145411108171|tw4711945240711714358|tw11351347612506252795|tw12646023114982257224|tw10652083631237971600|tw1744109207647048333|tw8454919773585007593|tw13420495182499103596|tw16864516040604869525|tw16493505663977174731|tw17644279573605117265|tw15137554973226187230|tw1406237517885260924|tw3113537199371004765|tw17228894363816448908|tw12407309068882730423|tw13914197031515311895|tw12706565790531685574|tw18231114430486915722|tw4203036677305977392|tw9944583601056958756|tw2223365085569081787|tw18336879548374817323|tw7021990932943414101|tw13776143637151063003|tw11565216417386476750|tw14872701271275658503|tw3634754413829556706|tw839603620996312300|tw13014785033490456610|tw11802042754057552925|tw506540260684100749|tw4785831360891701463|tw15027410299457298361|tw4916334298372228870|tw10079145571983210406|tw879574525590093752|tw2638573224788541493|tw16791415942692240159|tw18349615968360082714|tw523246587636833869|tw9211961025963140836|tw6971165102946432421|tw10790578144218311716|tw13107227449731127559|tw17731758500102241821|tw15403200468917075491|tw11022332365139199558|tw11147191246495635378|tw2014783415748633008|tw15413026776544405492|tw4882380433571759322|tw7657689966182248721|tw10485759992158537139|tw14254763278947707242|tw1268687400469540863|tw1767744150969520945|tw16861286136757144994|tw14259795379971647823|tw5283285095667102301|tw18401541518228470118|tw16739256895235682309|tw17732706557851689293|tw6729391048466993406|tw17813999668548188948|tw7829033485720868523|tw3602389964382713648|tw14034783824220188996|tw219895469171384001|tw810768714313841827|tw1891376125793521299|tw12250583202601751378|tw2561751908871053247|tw16305836546583670454|tw7038170329619677852|tw6577132822875253419|tw7126412113535561920|tw10480779591624974038|tw776037330972407848|tw8250714708728331804|tw18137396704028743146|tw10993729258214416014|tw8575683061942242677|tw14380113815257279416|tw16975602658085648111|tw13331929130252402626|tw3179186173638712109|tw3477189718581256758|tw13877646005752326750|tw13522803596891599484|tw18005533521541284489|tw3577383816868623527|tw9397422610331816562|tw13705337847514040786|tw289661861960624651|tw7226633015162047792|tw7918937362686662447|tw12602560207307560556|tw8182708834763376168|tw3463416456601162030|tw6648680451558667910|tw309709702823521248|tw3888671242606682995|tw9946179364465300272|tw10841623757858758184|tw4758410046473267703|tw2315049664376988780|tw4012139599296638251|tw6553560360432986712|tw17201112119844292103|tw8520439736882670155|tw1791561156769143403|tw13210063657686705769|tw1767661329497281697|tw9024310456125724518|tw17741751892815497880|tw641819011840657249|tw7578410251305988366|tw9711067616934739324|tw2135742090546352797|tw5755817396119197404|tw17925505965917765825|tw14801963674793621223|tw15169107150512772600|tw14120560618373924339|tw14969534414821820117|tw3305202830590672239|tw16077471595895193199|tw9178083783091300291|tw2758015137057513607|tw4329487345089315815|tw13110122301178523077|tw13612262158125976806|tw604463585374538970|tw8395701192096216238|tw16198293075464933365|tw18053099550908659047|tw14477773064821596230|tw1231581753028095505|tw17364190155524375181|tw11430945407611510399|tw8298255042842881235|tw17854748793134475421|tw6941767372569230333|tw14348862529670618749|tw15751829384983704619|tw18043738266899589474|tw11996080205766255746|tw8026416067206099589|tw14206537996135919519|tw17257266808874140932|tw14164798688781114901|tw791871452921818356|tw10675510847289883803|tw168947106739120542|tw5303160342420770953|tw14081603968052549243|tw12422215517535781901|tw2247824008456921434|tw15514420237438889538|tw16236075958473077102|tw7202141718569755867|tw8668131272249286002|tw9615771601984354094|tw7067873302942538533|tw3365308759094685226|tw161082849930095751|tw15599272772366951452|tw2088346190198349280|tw13980334213066833090|tw7029883892128002482|tw12490834051653405289|tw13491908956383408274|tw15628778268766869816|tw5037605804156296938|tw1776841784079852326|tw920094926983788761|tw3103265720248844972|tw11791435812018206439|tw15910437906706868164|tw9481329509333448496|tw7451723469555664649|tw8699224581099198523|tw10686443473013978653|tw7106503106966012271|tw7938955080503618554|tw14494326712057100910|tw6378455930061642572|tw4177107422987640103|tw14479315781154035845|tw8529162990359668541|tw9285939340090302789|tw1461070475205393498|tw154589630285694217|tw9175114099880815053|tw6982931957096539865|tw14976174204687015182|tw4471295932149918966|tw2803122853694570802|tw7368419035490268858|tw7872997139279746589|tw13817400084136031686|tw5873107122928276595|tw4235923132420963719|tw18294019255301287849|tw13274435590051049894|tw6055262333447478113|tw17411690531303032293|tw17416954691478394225|tw6862999559629245430|tw5052909898382609986|tw17746406186303922040|tw15100395457258397318|tw16332332570031412516|tw17098140524956709115|tw4508647453587869250|tw14088826004506158341|tw7790274348495165822|tw16796102157689990873|tw13137630073101420199|tw1808384487517502084|tw15193888395643151313|tw12760067662941650278|tw7777890626294941757|tw6306074488808515662|tw7463784409632687584|tw15142561443836272573|tw6683115316650029845|tw7473282886710219272|tw11336884795417956805|tw2255979050740533637|tw16272160313612670184|tw14980664830628974208|tw10254312572203320685|tw15629986922929225554|tw1531941051716843074|tw16968492988718683779|tw4570632268291654785|tw4996347764635203809|tw2503711058181842972|tw7976848352789190658|tw7067364349165625908|tw14877550381649067818|tw5141702287794317371|tw10602904307642640399|tw210036111579023359|tw11890885033807518986|tw18399833901630693605|tw7305078262063638663|tw15652327013555096154|tw17488574322410583129|tw10248128580619324151|tw18118654905331318611|tw7811253329694257040|tw12459409735986145803|tw16883493897023206246|tw4772660495838341384|tw16635734434608589979|tw6215340315319773818|tw17188315235121537192|tw10407800177290801458|tw5902928259668182239|tw3108588184506567761|tw1610495454629863581|tw6268399118702817999|tw7807436417876700374|tw10297256361391238731|tw8710222382133899004|tw12736479399887082264|tw16966332528644284164|tw15123131997001938340|tw11836625870752308318|tw18415681397698271986|tw7797794759525515299|tw10098028000154602163|tw1780186817510117619|tw10972107628116256259|tw18067673108035647114|tw3338880240937861838|tw11129900204262812781|tw7863640790462719884|tw10363434333910509301|tw1423221095270015411|tw7252367392609982805|tw8350667136538626266|tw2435937086344665011|tw8470037399171763306
set_option maxRecDepth 100000 in
set_option maxHeartbeats 0 in
theorem PySem.Challenge.cw_copyclerk_k23_runs_played_holds : PySem.Challenge.rw_copyclerk_k23_runs_played.Holds := by
 w_on;o_law;z_head;(case hw=>w_witness2)
 k_fill
 refine IT.toX (λ_=>rfl) (K23.walk (l:=PySem.Challenge.rw_copyclerk_k23_runs_played) rfl rfl (λw h Y=>Y) ?F)
 case F=>
  intro w mg fa h KX G hmg
  refine' K23.all_mk KX G hmg ?D1 ?D2 ?D3 ?D4 ?D5 ?D6 ?D7 ?D8 ?D9 ?D10 ?D11 ?D12 ?D13 ?D14 ?D15 ?D16 ?D17 ?D18 ?D19 ?D20 ?D21 ?D22 ?D23 ?D24 ?D25 ?D26 ?D27 ?D28 ?D29 ?D30 ?D31 ?D32 ?D33 ?D34 ?D35 ?D36 ?D37 ?D38 ?D39 ?D40 ?D41 ?D42 ?D43 ?D44 ?D45 ?D46 ?D47 ?D48 ?D49 ?D50 ?D51 ?D52 ?D53 ?D54 ?Qu ?Qp ?Qn ?Qr ?Ql ?Qq ?Qm ?Qc ?Qb ?Qd ?Qh ?Qe ?Qa ?Qd1 ?Qx ?Qa1 ?Qy ?Qc1 ?Qz ?Qb1 ?Qj ?Qk ?Qo ?Qi ?Qg ?Qf ?y1 ?x0 ?y2 ?x1 ?x2 ?x3 ?y3 ?y4 ?x4 ?x5 ?w27 ?Qv ?q1_NoDeed ?q2_NoDeed ?q3_NoDeed ?q7_NoDeed ?q4_CopyError ?q5_CopyError ?q6_CopyError ?z1 ?z2 ?z3 ?z4 ?z5 ?z6 ?z7 ?z8 ?z9 ?z10 ?z11 ?z12 ?z13 ?z14 ?z15 ?z16 ?z17
  (case Qu=>k_is)
  (case Qd1=>k_is)
  (case Qv=>k_is)
  all_goals (try (apply K23.DI.mk (e:=rfl)<;>k_is))
  all_goals (try (apply K23.MI.mk (e:=rfl)<;>k_is))
  (case Qp=>k_is)
  (case Qn=>k_is)
  (case Qr=>k_is)
  (case Ql=>k_is)
  (case Qq=>k_is)
  (case Qm=>k_is)
  (case Qc=>k_is)
  (case Qb=>k_is)
  (case Qd=>k_is)
  (case Qh=>k_is)
  (case Qe=>k_is)
  (case Qa=>k_is)
  (case Qx=>k_is)
  (case Qa1=>k_is)
  (case Qy=>k_is)
  (case Qc1=>k_is)
  (case Qz=>k_is)
  (case Qb1=>k_is)
  (case Qj=>k_is)
  (case Qk=>k_is)
  (case Qo=>k_is)
  (case Qi=>k_is)
  (case Qg=>k_is)
  (case Qf=>k_is)
  (case q1_NoDeed=>k_is)
  (case q2_NoDeed=>kernel_rfl)
  (case q3_NoDeed=>k_is)
  (case q7_NoDeed=>kernel_rfl)
  (case q4_CopyError=>k_is)
  (case q5_CopyError=>kernel_rfl)
  (case q6_CopyError=>k_is)
  (case x0=>k_is)
  (case y1=>k_is)
  (case x1=>k_is)
  (case y2=>k_is)
  (case x2=>k_is)
  (case x3=>k_is)
  (case x4=>k_is)
  (case y4=>k_is)
  (case y3=>k_is)
  (case x5=>k_is)
  (case w27=>k_is)
  (case z1=>k_is)
  (case z2=>k_is)
  (case z3=>k_is)
  (case z4=>k_is)
  (case z5=>k_is)
  (case z6=>k_is)
  (case z7=>k_is)
  (case z8=>k_is)
  (case z9=>k_is)
  (case z10=>k_is)
  (case z11=>k_is)
  (case z12=>k_is)
  (case z13=>k_is)
  (case z14=>k_is)
  (case z15=>k_is)
  (case z16=>k_is)
  (case z17=>k_is)
