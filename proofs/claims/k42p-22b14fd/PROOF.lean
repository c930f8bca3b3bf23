import PyProof.Rows.All
import Wide.All
import OpenK.AllK
import Wide.FinOn
import Lean
import PyProof.EqAt
import PyProof.EqKinds
import PyProof.TupleCall
import PyProof.Rows.TupTab
import PyProof.DictRoadsH
import PyProof.MeetsStr2
import PyProof.StrLawsTight
import PyProof.StrBlockI
import PyProof.StrWalks
import PyProof.EnumMake
import KE.KIsAll
import KE.KRevSl
import PyProof.Rows.FactsN_isinstance
import KE.KDictOf
import PyProof.AttrMiss
import PyProof.WalksMore
import PyProof.FactsAll.tuple
import PyProof.ListRange
import PyProof.DictIter
import PyProof.DictWalks
import KE.KDictList
import PyProof.DictItems
import PyProof.Rows.SortShell
import KE.KItemsList
import KE.KSortTup
import PyProof.Rows.SetFrom
import KE.KUnpack
import PyProof.Rows.CallKwBuiltin
import PySem.Challenge.RW_copyclerk_k42_lying_and_within
set_option genSizeOfSpec false
set_option linter.all false
namespace IT
open PySem
inductive D where
 | non
 | bl (b:Bool)
 | int (i:Int)
 | str (x:List Nat)
 | tup (xs:List D)
 | lst (xs:List D)
mutual
noncomputable def D.eqb:D->D->Bool
 | .non,y=>match y with | .non=>true | _=>false
 | .bl a,y=>match y with | .bl b=>a==b | .int b=>(if a then 1 else 0)==b | _=>false
 | .int a,y=>match y with | .int b=>a==b | .bl b=>a==(if b then 1 else 0) | _=>false
 | .str a,y=>match y with | .str b=>a==b | _=>false
 | .tup a,y=>match y with | .tup b=>D.eqbs a b | _=>false
 | .lst a,y=>match y with | .lst b=>D.eqbs a b | _=>false
noncomputable def D.eqbs:List D->List D->Bool
 | [],ys=>match ys with | []=>true | _=>false
 | a::r,ys=>match ys with | b::t=>D.eqb a b&&D.eqbs r t | _=>false
end
mutual
noncomputable def D.dep:D->Nat
 | .tup xs=>D.deps xs+1
 | .lst xs=>D.deps xs+1
 | .non | .bl _ | .int _ | .str _=>0
noncomputable def D.deps:List D->Nat
 | []=>0
 | x::xs=>max (D.dep x) (D.deps xs)
end
noncomputable def zhV (a b:D):Bool:=decide (min a.dep b.dep<=60)
inductive R where
 | d (x:D)
 | loc (l:Nat)
inductive Ob where
 | lst (xs:List D)
 | fro (xs:List D)
 | ins (c:Str) (fs:List (Str×R))
 | ols (ls:List Nat)
 | dic (kvs:List (D×D))
 | dfr (kvs:List (D×D))
noncomputable def Ob.items:Ob->List D
 | .lst xs=>xs
 | .fro xs=>xs
 | .ins _ _=>[]
 | .ols _=>[]
 | .dic _=>[]
 | .dfr _=>[]
noncomputable def Ob.isL:Ob->Bool
 | .lst _=>true
 | .fro _=>true
 | _=>false
inductive Ite where
 | r (x:R)
 | en (i:Int) (x:R)
noncomputable abbrev dI (x:D):Ite:=.r (.d x)
noncomputable abbrev Sto:=List Ob
noncomputable abbrev M (α:Type):=Sto->Option (α×Sto)
noncomputable def ok {α:Type} (a:α):M α:=λh=>some (a,h)
noncomputable def bnd {α β:Type} (x:M α) (f:α->M β):M β:=λh=>match x h with
 | some (a,h1)=>f a h1
 | none=>none
theorem zad {α:Type} {z:α} {P:Prop} (e:none=some z):P:=by cases e
noncomputable def rd:R->M D
 | .d x=>ok x
 | .loc l=>λh=>match h[l]? with
  | some o=>if o.isL then some (.lst o.items,h) else none
  | none=>none
noncomputable def fz:R->M D
 | .d x=>ok x
 | .loc l=>λh=>match h[l]? with
  | some o=>if o.isL then some (.lst o.items,h.set l (.fro o.items)) else none
  | none=>none
inductive Bo where
 | add | mul | fdiv | mod
inductive Co where
 | eq | ne | lt | gt | isin | isN
inductive Bi where
 | len | tuple | int | all
inductive Me where
 | append | pop
inductive Ty where
 | bool
inductive Tm where
 | starts | parti | join
inductive Lm where
 | count | countT
inductive Tg where
 | name (i:Nat)
 | tup (ts:List Tg)
set_option genInjectivity false
mutual
inductive E where
 | con (d:D)
 | var (i:Nat)
 | bin (o:Bo) (a b:E)
 | cmp (o:Co) (a b:E)
 | and (a b:E)
 | or (a b:E)
 | not (a:E)
 | ife (c:T) (a b:E)
 | tup (es:List E)
 | lst (m:Bool) (l:L)
 | idx (a i:E)
 | sli (a lo hi:E)
 | call (f:Nat) (es:List E)
 | bi (b:Bi) (es:List E)
 | me (m:Me) (o:E) (es:List E)
 | isi (t:Ty) (e:E)
 | lm (m:Lm) (o a:E)
 | dnew
 | dof (e:E)
 | din (neg:Bool) (k d:E)
 | dgt (d k:E)
 | ddx (d k:E)
 | gdx (x:Str) (kvs:List (List Nat×D)) (k:E)
 | stuck
inductive T where
 | val (e:E)
 | and (a b:T)
 | or (a b:T)
 | not (a:T)
inductive L where
 | disp (es:List E)
 | comp (tg:Tg) (it:I) (c:List T) (el:E)
 | rev (e:E)
 | ofD (e:E)
 | sdi (e:E)
 | sst (e:E)
inductive I where
 | seq (e:E)
 | rng (e:E)
 | dic (e:E)
end
set_option genInjectivity true
noncomputable def big:Nat:=16777216
noncomputable def fit (n:Nat):Bool:=decide (n<=big)
noncomputable def zga (i:Int):Bool:=decide (-(2 ^ 64)<i)&&decide (i<2 ^ 64)
noncomputable def wide:Int:=1000000000000000000000000000000000000000000000000000000000000
noncomputable def bop:Bo->D->D->Option D
 | .add,.int a,.int b=>some (.int (a+b))
 | .mul,.int a,.int b=>if zga a||zga b then some (.int (a*b)) else none
 | .fdiv,.int a,.int b=>if decide (0<b)&&decide (b<wide) then some (.int (a / b)) else none
 | .mod,.int a,.int b=>if decide (0<b) then some (.int (a % b)) else none
 | .add,.lst a,.lst b=>if fit (a.length+b.length) then some (.lst (a++b)) else none
 | _,_,_=>none
noncomputable def zoh:D->Bool
 | .non=>true
 | _=>false
noncomputable def items:D->Option (List D)
 | .tup xs=>some xs
 | .lst xs=>some xs
 | _=>none
noncomputable def cop:Co->D->D->Option D
 | .eq,a,b=>if zhV a b then some (.bl (a.eqb b)) else none
 | .ne,a,b=>if zhV a b then some (.bl (!a.eqb b)) else none
 | .lt,.int a,.int b=>some (.bl (decide (a<b)))
 | .gt,.int a,.int b=>some (.bl (decide (b<a)))
 | .isin,a,b=>match items b with
  | some xs=>if decide (a.dep<=60) then some (.bl (xs.any λy=>y.eqb a)) else none
  | none=>none
 | .isN,a,.non=>some (.bl (zoh a))
 | _,_,_=>none
noncomputable def ixn (n:Nat) (i:Int):Option Nat:=if 0<=i then (if i<n then some i.toNat else none) else if -(n:Int)<=i then some (i+n).toNat else none
noncomputable def at' {α:Type} (xs:List α) (i:Int):Option α:=match ixn xs.length i with
 | some j=>xs[j]?
 | none=>none
noncomputable def idxD:D->D->Option D
 | .tup xs,.int i=>at' xs i
 | .lst xs,.int i=>at' xs i
 | _,_=>none
noncomputable def revD:D->Option (List D)
 | .lst a=>some a.reverse
 | _=>none
noncomputable def sIx (n d:Nat):Option Int->Nat
 | none=>d
 | some v=>if v<0 then (v+(n:Int)).toNat else min v.toNat n
noncomputable def cut {α:Type} (xs:List α) (lo hi:Option Int):List α:=(xs.drop (sIx xs.length 0 lo)).take (sIx xs.length xs.length hi-sIx xs.length 0 lo)
noncomputable def part:D->Option (Option Int)
 | .non=>some none
 | .int i=>some (some i)
 | _=>none
noncomputable def cutD (x:D) (lo hi:Option Int):Option D:=match x with
 | .tup xs=>some (.tup (cut xs lo hi))
 | _=>none
noncomputable def sliD (x l u:D):Option D:=match part l,part u with
 | some lo,some hi=>cutD x lo hi
 | _,_=>none
noncomputable def tru:D->Option Bool
 | .non=>some false
 | .bl b=>some b
 | .int i=>some (i != 0)
 | .str x=>if fit x.length then some (!x.isEmpty) else none
 | .tup xs=>some (!xs.isEmpty)
 | .lst xs=>some (!xs.isEmpty)
noncomputable def zaK:List D->Option (List Bool)
 | []=>some []
 | d::r=>match tru d with
  | some b=>match zaK r with
   | some s=>some (b::s)
   | none=>none
  | none=>none
noncomputable def isiD:Ty->D->Bool
 | .bool,.bl _=>true
 | _,_=>false
noncomputable def biD:Bi->List D->Option D
 | .len,[.tup xs]=>some (.int xs.length)
 | .len,[.lst xs]=>some (.int xs.length)
 | .tuple,[.lst xs]=>some (.tup xs)
 | .int,[.bl b]=>some (.int (if b then 1 else 0))
 | .all,[.lst xs]=>match zaK xs with
  | some bs=>some (.bl (bs.all id))
  | none=>none
 | _,_=>none
noncomputable def lmD:Lm->D->D->Option D
 | .count,.lst xs,d=>if decide (d.dep<=60) then some (.int (xs.countP λy=>y.eqb d)) else none
 | .countT,.tup xs,d=>if decide (d.dep<=60) then some (.int (xs.countP λy=>y.eqb d)) else none
 | _,_,_=>none
noncomputable abbrev Env:=List (Option R)
mutual
noncomputable def zaM:Tg->R->Env->M Env
 | .name i,r,σ=>ok (σ.set i (some r))
 | .tup ts,r,σ=>bnd (rd r) λd=>match d with
  | .tup xs=>bindTs ts xs σ
  | _=>λ_=>none
noncomputable def bindTs:List Tg->List D->Env->M Env
 | [],xs,σ=>match xs with
  | []=>ok σ
  | _=>λ_=>none
 | t::ts,xs,σ=>match xs with
  | x::xs=>bnd (zaM t (.d x) σ) λσ'=>bindTs ts xs σ'
  | _=>λ_=>none
end
noncomputable def zaE:Tg->Ite->Env->M Env
 | tg,.r x,σ=>zaM tg x σ
 | .tup [a,b],.en i x,σ=>bnd (zaM a (.d (.int i)) σ) λσ'=>zaM b x σ'
 | _,_,_=>λ_=>none
mutual
noncomputable def D.same:D->D->Bool
 | .non,y=>match y with | .non=>true | _=>false
 | .bl a,y=>match y with | .bl b=>a==b | _=>false
 | .int a,y=>match y with | .int b=>a==b | _=>false
 | .str a,y=>match y with | .str b=>a==b | _=>false
 | .tup a,y=>match y with | .tup b=>D.sames a b | _=>false
 | .lst a,y=>match y with | .lst b=>D.sames a b | _=>false
noncomputable def D.sames:List D->List D->Bool
 | [],ys=>match ys with | []=>true | _=>false
 | a::r,ys=>match ys with | b::t=>D.same a b&&D.sames r t | _=>false
end
mutual
theorem D.same_eq:∀ x y:D,D.same x y=true->x=y
 | .non,.non,_=>rfl
 | .bl a,.bl b,h=>by simp [D.same] at h;rw [h]
 | .int a,.int b,h=>by simp [D.same] at h;rw [h]
 | .str a,.str b,h=>by simp [D.same] at h;rw [h]
 | .tup a,.tup b,h=>by simp [D.same] at h;rw [D.sames_eq a b h]
 | .lst a,.lst b,h=>by simp [D.same] at h;rw [D.sames_eq a b h]
 | .non,.bl _,h | .non,.int _,h | .non,.str _,h | .non,.tup _,h | .non,.lst _,h=>by simp [D.same] at h
 | .bl _,.non,h | .bl _,.int _,h | .bl _,.str _,h | .bl _,.tup _,h | .bl _,.lst _,h=>by simp [D.same] at h
 | .int _,.non,h | .int _,.bl _,h | .int _,.str _,h | .int _,.tup _,h | .int _,.lst _,h=>by simp [D.same] at h
 | .str _,.non,h | .str _,.bl _,h | .str _,.int _,h | .str _,.tup _,h | .str _,.lst _,h=>by simp [D.same] at h
 | .tup _,.non,h | .tup _,.bl _,h | .tup _,.int _,h | .tup _,.str _,h | .tup _,.lst _,h=>by simp [D.same] at h
 | .lst _,.non,h | .lst _,.bl _,h | .lst _,.int _,h | .lst _,.str _,h | .lst _,.tup _,h=>by simp [D.same] at h
theorem D.sames_eq:∀ x y:List D,D.sames x y=true->x=y
 | [],[],_=>rfl
 | a::r,b::t,h=>by
  simp [D.sames] at h
  rw [D.same_eq a b h.1,D.sames_eq r t h.2]
 | [],_::_,h=>by simp [D.sames] at h
 | _::_,[],h=>by simp [D.sames] at h
end
mutual
theorem D.same_refl:∀ x:D,D.same x x=true
 | .non=>rfl
 | .bl a=>by simp [D.same]
 | .int a=>by simp [D.same]
 | .str a=>by simp [D.same]
 | .tup a=>by simp [D.same];exact D.sames_refl a
 | .lst a=>by simp [D.same];exact D.sames_refl a
theorem D.sames_refl:∀ x:List D,D.sames x x=true
 | []=>rfl
 | a::r=>by simp [D.sames];exact ⟨D.same_refl a,D.sames_refl r⟩
end
mutual
noncomputable def D.hk:D->Bool
 | .int _=>true
 | .str _=>true
 | .tup xs=>D.hks xs
 | .non | .bl _ | .lst _=>false
noncomputable def D.hks:List D->Bool
 | []=>true
 | x::r=>D.hk x&&D.hks r
end
noncomputable def zai:D->Bool
 | .tup xs=>D.hks xs&&decide (D.deps xs<=6)
 | _=>false
noncomputable def dGet (k:D):List (D×D)->Option D
 | []=>none
 | p::r=>if p.1.same k then some p.2 else dGet k r
noncomputable def dPut (k v:D):List (D×D)->List (D×D)
 | []=>[(k,v)]
 | p::r=>if p.1.same k then (p.1,v)::r else p::dPut k v r
noncomputable def za5:List (D×D)->List (D×D)->Bool
 | [],ys=>ys.isEmpty
 | p::r,ys=>match ys with
  | q::t=>p.1.same q.1&&p.2.same q.2&&za5 r t
  | []=>false
noncomputable def zcz:List D->Option (List (D×D))
 | []=>some []
 | .tup [k,v]::r=>if zai k then (match zcz r with
  | some l=>some ((k,v)::l)
  | none=>none) else none
 | _=>none
noncomputable def dOfP:List (D×D)->List (D×D)->List (D×D)
 | acc,[]=>acc
 | acc,p::r=>dOfP (dPut p.1 p.2 acc) r
noncomputable def zj7 (d:D):Option (List (D×D)):=match d with
 | .tup xs=>match zcz xs with
  | some l=>if fit l.length then some (dOfP [] l) else none
  | none=>none
 | _=>none
noncomputable def ltS:List Nat->List Nat->Bool
 | [],ys=>match ys with | []=>false | _=>true
 | a::r,ys=>match ys with | b::t=>if a=b then ltS r t else decide (a<b) | []=>false
mutual
noncomputable def D.lt:D->D->Option Bool
 | .int a,y=>match y with | .int b=>some (decide (a<b)) | _=>none
 | .str a,y=>match y with | .str b=>some (ltS a b) | _=>none
 | .tup a,y=>match y with | .tup b=>D.lts a b | _=>none
 | .non,_=>none
 | .bl _,_=>none
 | .lst _,_=>none
noncomputable def D.lts:List D->List D->Option Bool
 | [],ys=>match ys with | []=>some false | _=>some true
 | a::r,ys=>match ys with | b::t=>if D.same a b then D.lts r t else D.lt a b | []=>some false
end
noncomputable def ltT (a b:D):Bool:=match D.lt a b with
 | some c=>c
 | none=>false
noncomputable def rnk (xs:List D) (x:D):Nat:=xs.countP λy=>ltT y x
noncomputable def rkOk (xs:List D):Bool:=xs.all λx=>xs.all λy=>(D.lt x y).isSome&&(ltT x y==decide (rnk xs x<rnk xs y))
noncomputable def apart:List D->Bool
 | []=>true
 | x::r=>(r.all λy=>!x.same y)&&apart r
noncomputable def insD (x:D):List D->List D
 | []=>[x]
 | y::r=>if ltT y x then y::insD x r else x::y::r
noncomputable def zdc:List D->List D
 | []=>[]
 | x::r=>insD x (zdc r)
noncomputable def fstK:D->Nat
 | .tup (.str _::_)=>1
 | .tup (.tup _::_)=>2
 | _=>0
noncomputable def zch (xs:List D):Option (List D):=if decide (xs.length<=4)&&xs.all zai&&apart xs&&rkOk xs&&((xs.all λx=>fstK x==1)||xs.all λx=>fstK x==2) then some (zdc xs) else none
noncomputable def once:List D->List D
 | []=>[]
 | x::r=>x::(once r).filter λy=>!x.same y
noncomputable def zc0 (d:D):Option (List D):=match d with
 | .lst xs=>if fit xs.length&&xs.all zai then zch (once xs) else none
 | _=>none
noncomputable def zct (p:D×D):D:=.tup [p.1,p.2]
noncomputable def Ob.same:Ob->Ob->Bool
 | .dic a,o=>match o with
  | .dic b=>za5 a b
  | _=>false
 | .dfr a,o=>match o with
  | .dfr b=>za5 a b
  | _=>false
 | .ols a,o=>match o with
  | .ols b=>a==b
  | _=>false
 | .ins _ _,_=>false
 | .lst a,o=>o.isL&&D.sames a o.items
 | .fro a,o=>o.isL&&D.sames a o.items
noncomputable def zaJ (l:Option Nat) (h h':Sto):Bool:=match l with
 | none=>true
 | some l=>match h[l]?,h'[l]? with
  | some o,some o'=>o.same o'
  | _,_=>false
noncomputable def zbN {α:Type} (l:Option Nat) (f:Ite->M (Option α)):List Ite->M (List α)
 | []=>ok []
 | x::xs=>λh=>match f x h with
  | some (o,h1)=>if zaJ l h h1 then bnd (zbN l f xs) (λys=>ok (match o with | some y=>y::ys | none=>ys)) h1 else none
  | none=>none
noncomputable def zbr (lo:Int):Nat->List D
 | 0=>[]
 | n+1=>.int lo::zbr (lo+1) n
noncomputable def opt {α:Type} (o:Option α):M α:=λh=>match o with
 | some a=>some (a,h)
 | none=>none
noncomputable def alloc (xs:List D):M R:=λh=>some (.loc h.length,h++[.lst xs])
structure Wk where
 xs:List Ite
 l:Option Nat
noncomputable def wkOf (r:R) (d:D):M Wk:=match items d with
 | some xs=>ok ⟨xs.map dI,match r with | .loc l=>some l | .d _=>none⟩
 | none=>λ_=>none
noncomputable def zdL (r:R):M (Option (List Nat)):=λh=>match r with
 | .loc l=>match h[l]? with
  | some (.ols ls)=>some (some ls,h)
  | _=>some (none,h)
 | .d _=>some (none,h)
noncomputable def zbE (r:R):M Wk:=bnd (zdL r) λo=>match o with
 | some ls=>ok ⟨ls.map λl=>.r (.loc l),match r with | .loc l=>some l | .d _=>none⟩
 | none=>bnd (rd r) λd=>wkOf r d
noncomputable def zes (r:R):M Wk:=match r with
 | .d (.int n)=>if decide (-(2 ^ 62)<=n)&&decide (n<=16777216) then ok ⟨(zbr 0 n.toNat).map dI,none⟩ else λ_=>none
 | _=>λ_=>none
mutual
noncomputable def Tg.slots:Tg->List Nat
 | .name i=>[i]
 | .tup ts=>Tg.slotss ts
noncomputable def Tg.slotss:List Tg->List Nat
 | []=>[]
 | t::ts=>t.slots++Tg.slotss ts
end
noncomputable def clr:List Nat->Env->Env
 | [],σ=>σ
 | i::r,σ=>clr r (σ.set i none)
noncomputable abbrev Calls:=Nat->List R->M R
noncomputable def zd0 (x:R):M Unit:=λh=>match x with
 | .loc l=>match h[l]? with
  | some o=>if o.isL then some ((),h) else none
  | none=>none
 | .d _=>none
noncomputable def dRd (x:R):M (List (D×D)):=λh=>match x with
 | .loc l=>match h[l]? with
  | some (.dic kvs)=>some (kvs,h)
  | some (.dfr kvs)=>some (kvs,h)
  | _=>none
 | .d _=>none
noncomputable def dNew:M R:=λh=>some (.loc h.length,h++[.dic []])
noncomputable def zkK (kvs:List (D×D)):M R:=λh=>some (.loc h.length,h++[.dfr kvs])
noncomputable def kRd (x:R):M D:=λh=>match x with
 | .d k=>if zai k then some (k,h) else none
 | .loc _=>none
noncomputable def dSet (x:R) (k v:D):M Unit:=λh=>match x with
 | .loc l=>match h[l]? with
  | some (.dic kvs)=>if decide (kvs.length<big) then some ((),h.set l (.dic (dPut k v kvs))) else none
  | _=>none
 | .d _=>none
noncomputable def zgA (x:R):M Wk:=λh=>match x with
 | .loc l=>match h[l]? with
  | some (.dfr kvs)=>some (⟨kvs.map λp=>dI p.1,some l⟩,h)
  | _=>none
 | .d _=>none
noncomputable def gGet (kvs:List (List Nat×D)) (x:R):Option D:=match x with
 | .d (.str k)=>kvs.lookup k
 | _=>none
noncomputable def zcN (x:R):M Nat:=λh=>match x with
 | .loc l=>match h[l]? with
  | some (.ins _ _)=>some (l,h)
  | _=>none
 | .d _=>none
noncomputable def allocO (ls:List Nat):M R:=λh=>some (.loc h.length,h++[.ols ls])
noncomputable def meth:Me->R->List R->M R
 | .append,.loc l,[r]=>bnd (fz r) λd h=>match h[l]? with
  | some (.lst xs)=>if decide (xs.length<big) then some (.d .non,h.set l (.lst (xs++[d]))) else none
  | _=>none
 | .pop,.loc l,[]=>λh=>match h[l]? with
  | some (.lst xs)=>match xs[xs.length-1]? with
   | some y=>some (.d y,h.set l (.lst xs.dropLast))
   | none=>none
  | _=>none
 | _,_,_=>λ_=>none
mutual
noncomputable def ev (Γ:Calls):E->Env->M R
 | .con d,_=>ok (.d d)
 | .var i,σ=>λh=>match σ[i]? with
  | some (some r)=>some (r,h)
  | _=>none
 | .bin o a b,σ=>bnd (ev Γ a σ) λx=>bnd (ev Γ b σ) λy=>bnd (rd x) λx=>bnd (rd y) λy=>bnd (opt (bop o x y)) λz=>ok (.d z)
 | .cmp o a b,σ=>bnd (ev Γ a σ) λx=>bnd (ev Γ b σ) λy=>bnd (rd x) λx=>bnd (rd y) λy=>bnd (opt (cop o x y)) λz=>ok (.d z)
 | .and a b,σ=>bnd (ev Γ a σ) λx=>match x with
  | .d (.bl c)=>if c then ev Γ b σ else ok (.d (.bl false))
  | _=>λ_=>none
 | .or a b,σ=>bnd (ev Γ a σ) λx=>match x with
  | .d (.bl c)=>if c then ok (.d (.bl true)) else ev Γ b σ
  | _=>λ_=>none
 | .not a,σ=>bnd (ev Γ a σ) λx=>bnd (rd x) λd=>bnd (opt (tru d)) λt=>ok (.d (.bl (!t)))
 | .ife c a b,σ=>bnd (tv Γ c σ) λt=>if t then ev Γ a σ else ev Γ b σ
 | .tup es,σ=>bnd (evs Γ es σ) λrs=>bnd (fzs rs) λds=>ok (.d (.tup ds))
 | .lst m l,σ=>bnd (evL Γ l σ) λxs=>if m then alloc xs else ok (.d (.lst xs))
 | .idx a i,σ=>bnd (ev Γ a σ) λx=>bnd (ev Γ i σ) λy=>bnd (rd x) λx=>bnd (rd y) λy=>bnd (opt (idxD x y)) λz=>ok (.d z)
 | .sli a lo hi,σ=>bnd (ev Γ a σ) λx=>bnd (ev Γ lo σ) λl=>bnd (ev Γ hi σ) λu=>bnd (rd x) λx=>bnd (rd l) λl=>bnd (rd u) λu=>bnd (opt (sliD x l u)) λz=>ok (.d z)
 | .call f es,σ=>bnd (evs Γ es σ) λrs=>Γ f rs
 | .bi b es,σ=>bnd (evs Γ es σ) λrs=>bnd (rds rs) λds=>bnd (opt (biD b ds)) λz=>ok (.d z)
 | .me m o es,σ=>bnd (ev Γ o σ) λx=>bnd (zd0 x) λ_=>bnd (evs Γ es σ) λrs=>meth m x rs
 | .isi t e,σ=>bnd (ev Γ e σ) λr=>bnd (rd r) λd=>ok (.d (.bl (isiD t d)))
 | .lm m o a,σ=>bnd (ev Γ o σ) λx=>bnd (rd x) λ_=>bnd (ev Γ a σ) λy=>bnd (rd x) λx=>bnd (rd y) λy=>bnd (opt (lmD m x y)) λz=>ok (.d z)
 | .dnew,_=>dNew
 | .dof e,σ=>bnd (ev Γ e σ) λr=>bnd (rd r) λd=>bnd (opt (zj7 d)) λkvs=>zkK kvs
 | .din neg k d,σ=>bnd (ev Γ k σ) λy=>bnd (ev Γ d σ) λx=>bnd (dRd x) λkvs=>bnd (kRd y) λk=>ok (.d (.bl (if neg then !(dGet k kvs).isSome else (dGet k kvs).isSome)))
 | .dgt d k,σ=>bnd (ev Γ d σ) λx=>bnd (dRd x) λ_=>bnd (ev Γ k σ) λy=>bnd (dRd x) λkvs=>bnd (kRd y) λk=>ok (.d ((dGet k kvs).getD .non))
 | .ddx d k,σ=>bnd (ev Γ d σ) λx=>bnd (ev Γ k σ) λy=>bnd (dRd x) λkvs=>bnd (kRd y) λk=>bnd (opt (dGet k kvs)) λv=>ok (.d v)
 | .gdx _ kvs k,σ=>bnd (ev Γ k σ) λy=>bnd (opt (gGet kvs y)) λv=>ok (.d v)
 | .stuck,_=>λ_=>none
noncomputable def evs (Γ:Calls):List E->Env->M (List R)
 | [],_=>ok []
 | e::es,σ=>bnd (ev Γ e σ) λr=>bnd (evs Γ es σ) λrs=>ok (r::rs)
noncomputable def tv (Γ:Calls):T->Env->M Bool
 | .val e,σ=>bnd (ev Γ e σ) λr=>bnd (rd r) λd=>opt (tru d)
 | .and a b,σ=>bnd (tv Γ a σ) λt=>if t then tv Γ b σ else ok false
 | .or a b,σ=>bnd (tv Γ a σ) λt=>if t then ok true else tv Γ b σ
 | .not a,σ=>bnd (tv Γ a σ) λt=>ok (!t)
noncomputable def tvs (Γ:Calls):List T->Env->M Bool
 | [],_=>ok true
 | c::cs,σ=>bnd (tv Γ c σ) λt=>if t then tvs Γ cs σ else ok false
noncomputable def evL (Γ:Calls):L->Env->M (List D)
 | .disp es,σ=>bnd (evs Γ es σ) λrs=>fzs rs
 | .comp tg it c el,σ=>bnd (evI Γ it σ) λw=>zbN w.l (λx=>bnd (zaE tg x (clr tg.slots σ)) λσ'=>bnd (tvs Γ c σ') λt=>if t then bnd (ev Γ el σ') λr=>bnd (fz r) λd=>ok (some d) else ok none) w.xs
 | .rev e,σ=>bnd (ev Γ e σ) λr=>bnd (rd r) λd=>opt (revD d)
 | .ofD e,σ=>bnd (ev Γ e σ) λr=>bnd (dRd r) λkvs=>ok (kvs.map Prod.fst)
 | .sdi e,σ=>bnd (ev Γ e σ) λr=>bnd (dRd r) λkvs=>opt (zch (kvs.map zct))
 | .sst e,σ=>bnd (ev Γ e σ) λr=>bnd (rd r) λd=>opt (zc0 d)
noncomputable def evI (Γ:Calls):I->Env->M Wk
 | .seq e,σ=>bnd (ev Γ e σ) λr=>zbE r
 | .rng e,σ=>bnd (ev Γ e σ) λr=>zes r
 | .dic e,σ=>bnd (ev Γ e σ) λr=>zgA r
noncomputable def fzs:List R->M (List D)
 | []=>ok []
 | r::rs=>bnd (fz r) λd=>bnd (fzs rs) λds=>ok (d::ds)
noncomputable def rds:List R->M (List D)
 | []=>ok []
 | r::rs=>bnd (rd r) λd=>bnd (rds rs) λds=>ok (d::ds)
end
set_option genInjectivity false in
inductive S where
 | asg (tg:Tg) (e:E)
 | exp (e:E)
 | ife (c:T) (a b:List S)
 | for (tg:Tg) (it:I) (body:List S)
 | ret (e:E)
 | setD (o k e:E)
 | unp (is:List Nat) (e:E)
 | stuck
inductive Fl where
 | nx | ret (r:R) | brk | cnt
noncomputable def zgm:List Nat->List D->Env->Option Env
 | [],xs,σ=>match xs with
  | []=>some σ
  | _=>none
 | i::is,xs,σ=>match xs with
  | x::xs=>zgm is xs (σ.set i (some (.d x)))
  | []=>none
noncomputable def lsOf (d:D):Option (List D):=match d with
 | .lst xs=>some xs
 | _=>none
noncomputable def loop (l:Option Nat) (f:Ite->Env->M (Fl×Env)):List Ite->Env->M (Fl×Env)
 | [],σ=>ok (.nx,σ)
 | x::xs,σ=>λh=>match f x σ h with
  | some ((fl,σ1),h1)=>match fl with
   | .ret r=>some ((.ret r,σ1),h1)
   | .brk=>some ((.nx,σ1),h1)
   | _=>if zaJ l h h1 then loop l f xs σ1 h1 else none
  | none=>none
mutual
noncomputable def ex (Γ:Calls):S->Env->M (Fl×Env)
 | .asg tg e,σ=>bnd (ev Γ e σ) λr=>bnd (zaM tg r σ) λσ'=>ok (.nx,σ')
 | .exp e,σ=>bnd (ev Γ e σ) λ_=>ok (.nx,σ)
 | .ife c a b,σ=>bnd (tv Γ c σ) λt=>if t then exs Γ a σ else exs Γ b σ
 | .for tg it body,σ=>bnd (evI Γ it σ) λw=>loop w.l (λx σ=>bnd (zaE tg x σ) λσ'=>exs Γ body σ') w.xs σ
 | .ret e,σ=>bnd (ev Γ e σ) λr=>ok (.ret r,σ)
 | .setD o k e,σ=>bnd (ev Γ e σ) λr=>bnd (ev Γ o σ) λx=>bnd (ev Γ k σ) λy=>bnd (fz r) λd=>bnd (kRd y) λk=>bnd (dSet x k d) λ_=>ok (.nx,σ)
 | .unp is e,σ=>bnd (ev Γ e σ) λr=>bnd (rd r) λd=>bnd (opt (lsOf d)) λxs=>bnd (opt (zgm is xs σ)) λσ'=>ok (.nx,σ')
 | .stuck,_=>λ_=>none
noncomputable def exs (Γ:Calls):List S->Env->M (Fl×Env)
 | [],σ=>ok (.nx,σ)
 | s::r,σ=>bnd (ex Γ s σ) λp=>match p.1 with
  | .nx=>exs Γ r p.2
  | _=>ok p
end
structure F where
 np:Nat
 ns:Nat
 body:List S
 keep:Bool
 dfl:List D
 all:Bool:=false
noncomputable def zaV (np:Nat) (dfl:List D) (rs:List R):List R:=if rs.length+dfl.length<np then rs else rs++(dfl.drop (rs.length+dfl.length-np)).map R.d
noncomputable def R.same:R->R->Bool
 | .d x,y=>match y with
  | .d z=>D.same x z
  | _=>false
 | .loc l,y=>match y with
  | .loc k=>l==k
  | _=>false
noncomputable def zcr:List (Str×R)->List (Str×R)->Bool
  | [],ys=>ys.isEmpty
  | (f,x)::r,ys=>match ys with
    | (g,y)::t=>f==g&&x.same y&&zcr r t
    | []=>false
noncomputable def objs:Sto->Sto->Bool
 | [],_=>true
 | o::h,h1=>match h1 with
  | []=>false
  | o1::t=>(match o,o1 with
   | .ins c fs,.ins c1 fs1=>c==c1&&zcr fs fs1
   | .ols a,.ols b=>a==b
   | .dic a,.dic b=>za5 a b
   | .dfr a,.dfr b=>za5 a b
   | .lst _,.lst _=>true
   | .lst _,.fro _=>true
   | .fro _,.lst _=>true
   | .fro _,.fro _=>true
   | _,_=>false)&&objs h t
noncomputable def fin0 (n0:Nat) (keep:Bool) (r:R) (h1:Sto):Option (R×Sto):=match r with
 | .d x=>some (.d x,h1.take n0)
 | .loc l=>if l<n0 then some (.loc l,h1.take n0) else match h1[l]? with
  | some (.lst xs)=>if keep then some (.loc n0,h1.take n0++[.lst xs]) else some (.d (.lst xs),h1.take n0)
  | some (.fro xs)=>some (.d (.lst xs),h1.take n0)
  | _=>none
noncomputable def fin (h:Sto) (all keep:Bool) (r:R) (h1:Sto):Option (R×Sto):=if all then some (r,h1) else if objs h h1 then fin0 h.length keep r h1 else none
noncomputable def zan (P:List F):Nat->Calls
 | 0,_,_=>λ_=>none
 | n + 1,f,rs=>λh=>match P[f]? with
  | some F=>if (zaV F.np F.dfl rs).length=F.np then match exs (zan P n) F.body ((zaV F.np F.dfl rs).map some++List.replicate (F.ns-F.np) none) h with
    | some ((.ret r,_),h1)=>fin h F.all F.keep r h1
    | some ((.nx,_),h1)=>fin h F.all F.keep (.d .non) h1
    | _=>none
   else none
  | none=>none
theorem zbq (P:List F) (n f:Nat) (rs:List R) (h:Sto):zan P (n+1) f rs h=match P[f]? with
  | some F=>if (zaV F.np F.dfl rs).length=F.np then match exs (zan P n) F.body ((zaV F.np F.dfl rs).map some++List.replicate (F.ns-F.np) none) h with
    | some ((.ret r,_),h1)=>fin h F.all F.keep r h1
    | some ((.nx,_),h1)=>fin h F.all F.keep (.d .non) h1
    | _=>none
   else none
  | none=>none:=rfl
end IT
set_option linter.all false
set_option maxHeartbeats 4000000
set_option maxRecDepth 100000
namespace IT
open PySem
noncomputable def zaB (x:List Nat):Str:=⟨x.toArray⟩
theorem zco (x:List Nat):(zaB x).length=x.length:=by simp [zaB,Str.length]
theorem zbP {x y:List Nat} (h:zaB x=zaB y):x=y:=by
 have:=congrArg (λs:Str=>s.cps.toList) h
 simpa [zaB] using this
mutual
noncomputable def KAt (h:Heap):D->Value->Prop
 | .int i,u=>∃ t,u=.int i t
 | .str x,u=>∃ t,u=.str (zaB x) t
 | .tup xs,u=>∃ a its,u=.ref a/\h.IsTuple a its/\KAts h xs its.toList
 | .non,_=>False
 | .bl _,_=>False
 | .lst _,_=>False
noncomputable def KAts (h:Heap):List D->List Value->Prop
 | [],us=>us=[]
 | x::xs,us=>∃ u r,us=u::r/\KAt h x u/\KAts h xs r
end
mutual
noncomputable def zah (w:World):D->Int
 | .int i=>hashInt i
 | .str x=>hashStr w (zaB x)
 | .tup xs=>reduceHash (Builtin.Tuple.tupleHashOf (kHashs w xs))
 | .non=>0
 | .bl _=>0
 | .lst _=>0
noncomputable def kHashs (w:World):List D->List Int
 | []=>[]
 | x::xs=>zah w x::kHashs w xs
end
mutual
noncomputable def zec:D->Nat
 | .tup xs=>kDrawss xs+1
 | .int _=>1
 | .str _=>1
 | .non=>1
 | .bl _=>1
 | .lst _=>1
noncomputable def kDrawss:List D->Nat
 | []=>0
 | x::xs=>zec x+kDrawss xs
end
theorem zd1:∀ xs ys:List D,kDrawss (xs++ys)=kDrawss xs+kDrawss ys
 | [],ys=>by simp [kDrawss]
 | x::xs,ys=>by simp only [List.cons_append,kDrawss,zd1 xs ys];omega
theorem zd9 (w:World):∀ xs ys:List D,kHashs w (xs++ys)=kHashs w xs++kHashs w ys
 | [],ys=>rfl
 | x::xs,ys=>by simp only [List.cons_append,kHashs,zd9 w xs ys]
mutual
theorem KAt.keep {h h':Heap} (k:∀ a its,h.IsTuple a its->h'.IsTuple a its):∀ (x:D) (u:Value),KAt h x u->KAt h' x u
 | .int _,_,q=>by simp only [KAt] at q ⊢;exact q
 | .str _,_,q=>by simp only [KAt] at q ⊢;exact q
 | .tup xs,_,q=>by
  simp only [KAt] at q ⊢
  obtain ⟨a,its,e,t,r⟩:=q
  exact ⟨a,its,e,k a its t,KAts.keep k xs _ r⟩
 | .non,_,q=>by simp only [KAt] at q
 | .bl _,_,q=>by simp only [KAt] at q
 | .lst _,_,q=>by simp only [KAt] at q
theorem KAts.keep {h h':Heap} (k:∀ a its,h.IsTuple a its->h'.IsTuple a its):∀ (x:List D) (u:List Value),KAts h x u->KAts h' x u
 | [],_,q=>by simp only [KAts] at q ⊢;exact q
 | x::xs,_,q=>by
  simp only [KAts] at q ⊢
  obtain ⟨u,r,e,q1,q2⟩:=q
  exact ⟨u,r,e,KAt.keep k x u q1,KAts.keep k xs r q2⟩
end
theorem zeb {h:Heap} {a:Addr} {xs ys:Array Value} (p:h.IsTuple a xs) (q:h.IsTuple a ys):xs=ys:=by
 obtain ⟨o,e,_,n,d⟩:=p
 obtain ⟨o',e',_,n',d'⟩:=q
 rw [e] at e';cases e';rw [d] at d';cases d';rfl
mutual
theorem KAt.inj {h:Heap}:∀ (x y:D) (u:Value),KAt h x u->KAt h y u->x=y
 | .int a,y,u,p,q=>by
  simp only [KAt] at p
  obtain ⟨t,rfl⟩:=p
  cases y<;>simp [KAt] at q
  rw [q]
 | .str a,y,u,p,q=>by
  simp only [KAt] at p
  obtain ⟨t,rfl⟩:=p
  cases y<;>simp [KAt] at q
  rw [zbP q]
 | .tup a,y,u,p,q=>by
  simp only [KAt] at p
  obtain ⟨c,its,rfl,t,r⟩:=p
  cases y with
  | tup b=>
   simp only [KAt] at q
   obtain ⟨c',its',e,t',r'⟩:=q
   cases e
   have:=zeb t t'
   subst this
   rw [KAts.inj a b _ r r']
  | _=>simp [KAt] at q
 | .non,_,_,p,_=>by simp only [KAt] at p
 | .bl _,_,_,p,_=>by simp only [KAt] at p
 | .lst _,_,_,p,_=>by simp only [KAt] at p
theorem KAts.inj {h:Heap}:∀ (x y:List D) (u:List Value),KAts h x u->KAts h y u->x=y
 | [],[],_,_,_=>rfl
 | [],_::_,_,p,q=>by
  simp only [KAts] at p q
  subst p
  obtain ⟨_,_,e,_⟩:=q
  cases e
 | _::_,[],_,p,q=>by
  simp only [KAts] at p q
  subst q
  obtain ⟨_,_,e,_⟩:=p
  cases e
 | x::xs,y::ys,_,p,q=>by
  simp only [KAts] at p q
  obtain ⟨u,r,rfl,p1,p2⟩:=p
  obtain ⟨u',r',e,q1,q2⟩:=q
  cases e
  rw [KAt.inj x y u p1 q1,KAts.inj xs ys r p2 q2]
end
theorem KAts.length {h:Heap}:∀ {x:List D} {u:List Value},KAts h x u->x.length=u.length
 | [],_,q=>by simp only [KAts] at q;subst q;rfl
 | x::xs,_,q=>by
  simp only [KAts] at q
  obtain ⟨u,r,rfl,_,q⟩:=q
  simp only [List.length_cons,KAts.length q]
theorem KAts.at {h:Heap}:∀ {x:List D} {u:List Value},KAts h x u->∀ (j:Nat) (d:D),x[j]?=some d->∃ v,u[j]?=some v/\KAt h d v
 | [],_,_,j,d,e=>by simp at e
 | x::xs,_,q,j,d,e=>by
  simp only [KAts] at q
  obtain ⟨u,r,rfl,q1,q2⟩:=q
  cases j with
  | zero=>simp at e;subst e;exact ⟨u,rfl,q1⟩
  | succ j=>simp at e;simpa using KAts.at q2 j d e
theorem zgj:∀ {xs:List D} {x:D} {i:Nat},xs[i]?=some x->x.dep<=D.deps xs
 | [],x,i,e=>by simp at e
 | y::xs,x,i,e=>by
  cases i with
  | zero=>simp at e;subst e;simp only [D.deps];omega
  | succ i=>simp at e;have:=zgj e;simp only [D.deps];omega
noncomputable def zdu (xs ys:List D) (j:Nat):Bool:=match xs[j]?,ys[j]? with
 | some x,some y=>x.same y
 | _,_=>false
theorem zfp:∀ xs ys:List D,((List.range (min xs.length ys.length)).all (zdu xs ys)&&xs.length==ys.length)=D.sames xs ys
 | [],[]=>rfl
 | [],_::_=>by simp [D.sames]
 | _::_,[]=>by simp [D.sames]
 | x::xs,y::ys=>by
  have ih:=zfp xs ys
  have e:min (x::xs).length (y::ys).length=min xs.length ys.length+1:=by simp only [List.length_cons];omega
  rw [e,List.range_succ_eq_map,List.all_cons,List.all_map,D.sames,<-ih]
  have e2:(zdu (x::xs) (y::ys)∘Nat.succ)=zdu xs ys:=by funext j;rfl
  rw [e2]
  show (x.same y&&_&&_)=_
  rw [Bool.and_assoc]
  congr 2
  simp
theorem zcx {x y:D} (h:x≠y):x.same y=false:=by
 cases e:x.same y
 ·rfl
 ·exact absurd (D.same_eq x y e) h
open SeqAt in
theorem kEq {s:Shared}:∀ (n:Nat) (x y:D) (A:Around) (u v:Value),x.dep<=n->KAt s.heap x u->KAt s.heap y v->A.units+n<cLine->EqAt A s u v (x.same y)
 | n,.int a,y,A,u,v,hn,p,q,hu=>by
  simp only [KAt] at p
  obtain ⟨t,rfl⟩:=p
  cases y with
  | int b=>simp only [KAt] at q;obtain ⟨t',rfl⟩:=q;exact EqAt.int_int a t b t'
  | str b=>simp only [KAt] at q;obtain ⟨t',rfl⟩:=q;exact EqAt.int_str a t _ t'
  | tup b=>simp only [KAt] at q;obtain ⟨c,its,rfl,t',_⟩:=q;exact EqAt.int_tuple a t t' (by omega)
  | _=>simp [KAt] at q
 | n, .str a,y,A,u,v,hn,p,q,hu=>by
  simp only [KAt] at p
  obtain ⟨t,rfl⟩:=p
  cases y with
  | int b=>simp only [KAt] at q;obtain ⟨t',rfl⟩:=q;exact EqAt.str_int _ t b t'
  | str b=>
   simp only [KAt] at q;obtain ⟨t',rfl⟩:=q
   have z:=EqAt.str_str (A:=A) (s:=s) (zaB a) t (zaB b) t'
   have e:(zaB a==zaB b)=(D.str a).same (D.str b):=by
    show _=(a==b)
    by_cases h:a=b
    ·subst h;simp
    ·rw [beq_eq_false_iff_ne.mpr h,beq_eq_false_iff_ne.mpr λz=>h (zbP z)]
   rw [e] at z
   exact z
  | tup b=>simp only [KAt] at q;obtain ⟨c,its,rfl,t',_⟩:=q;exact EqAt.str_tuple _ t t' (by omega)
  | _=>simp [KAt] at q
 | n, .tup a,y,A,u,v,hn,p,q,hu=>by
  simp only [KAt] at p
  obtain ⟨c,its,rfl,t,r⟩:=p
  cases y with
  | int b=>simp only [KAt] at q;obtain ⟨t',rfl⟩:=q;exact EqAt.tuple_int b t' t (by omega)
  | str b=>simp only [KAt] at q;obtain ⟨t',rfl⟩:=q;exact EqAt.tuple_str _ t' t (by omega)
  | tup b=>
   simp only [KAt] at q
   obtain ⟨c',its',rfl,t',r'⟩:=q
   by_cases hc:c=c'
   ·subst hc
    have e1:=zeb t t'
    subst e1
    have e2:=KAts.inj a b _ r r'
    subst e2
    exact (show D.same (.tup a) (.tup a)=true from D.same_refl _)▸EqAt.same _
   ·refine EqAt.of_refs hc ?_
    match n,hn with
    | 0,hn=>simp only [D.dep] at hn;omega
    | n + 1,hn=>
     have l1:=r.length
     have l2:=r'.length
     have z:=RcAt.tuples (A:=A) (e:=zdu a b) t t' (by omega) (λj h1 h2=>by
      have j1:j<a.length:=by rw [l1];simpa using h1
      have j2:j<b.length:=by rw [l2];simpa using h2
      obtain ⟨w,e3,k3⟩:=r.at j _ (List.getElem?_eq_getElem j1)
      obtain ⟨w',e4,k4⟩:=r'.at j _ (List.getElem?_eq_getElem j2)
      have hd:=zgj (List.getElem?_eq_getElem j1)
      have ih:=kEq n (a[j]) (b[j]) A.in1 w w' (by simp only [D.dep] at hn;omega) k3 k4 (by show A.units+1+n<cLine;omega)
      have e5:zdu a b j=(a[j]).same (b[j]):=by simp [zdu,List.getElem?_eq_getElem j1,List.getElem?_eq_getElem j2]
      rw [e5]
      have e6:its[j]=w:=by
       have:=List.getElem?_eq_some_iff.mp e3
       obtain ⟨_,e⟩:=this
       simpa using e
      have e7:its'[j]=w':=by
       obtain ⟨_,e⟩:=List.getElem?_eq_some_iff.mp e4
       simpa using e
      rw [e6,e7]
      exact ih)
     have e8:((List.range (min its.size its'.size)).all (zdu a b)&&its.size==its'.size)=D.sames a b:=by
      rw [<-zfp,l1,l2]
      simp
     rw [e8] at z
     exact z
  | _=>simp [KAt] at q
 | _,.non,_,_,_,_,_,p,_,_=>by simp only [KAt] at p
 | _,.bl _,_,_,_,_,_,p,_,_=>by simp only [KAt] at p
 | _,.lst _,_,_,_,_,_,p,_,_=>by simp only [KAt] at p
theorem za3 {s:Shared} {a:Addr} {its:Array Value} (t:s.heap.IsTuple a its):s.TypeIs (.ref a) "tuple":=let ⟨o,e,c,_⟩:=t;⟨o,e,c⟩
section
variable {prog:Program} {w:World} {E:Value->Shared->Prop}
theorem ze2:∀ (n:Nat) (x:D) (A:Around) (s:Shared) (u:Value) (Q:Int->Shared->Prop),x.dep<=n->KAt s.heap x u->A.units+n<cLine->Q (zah w x) { s with toks:=s.toks+zec x } →
  wpAny (model prog w) A (pyHash u) Q E s
 | n,.int a,A,s,u,Q,hn,p,hu,q=>by
  simp only [KAt] at p
  obtain ⟨t,rfl⟩:=p
  exact wpAny_pyHash_int q
 | n,.str a,A,s,u,Q,hn,p,hu,q=>by
  simp only [KAt] at p
  obtain ⟨t,rfl⟩:=p
  exact wpAny_pyHash_str q
 | 0,.tup a,A,s,u,Q,hn,p,hu,q=>by simp only [D.dep] at hn;omega
 | n + 1,.tup a,A,s,u,Q,hn,p,hu,q=>by
  simp only [KAt] at p
  obtain ⟨c,its,rfl,t,r⟩:=p
  have T:=za3 t
  obtain ⟨o,ho,_,m,hd⟩:=t
  have hdep:D.deps a<=n:=by simp only [D.dep] at hn;omega
  unfold pyHash
  first | unfold pyHashByItsType | skip
  first | refine wpAny_bind (wpAny_cRoomFor_or (.inr (show A.units<cLine by omega)) ?_) | skip
  refine wpAny_bind (wpAny_specialOf T F.slot_tuple_hash.lookup ?_)
  show wpAny _ _ (if (some (Value.builtin "tuple.__hash__")==some Value.none)=true then _ else _) Q E _
  rw [if_neg (by rw [beq_builtin_none];exact Bool.false_ne_true)]
  refine wpAny_bind (wpAny_specialOf T F.slot_tuple_hash.lookup ?_)
  show wpAny _ _ (callSpecialIfBoundUnlessNone? (.ref c) "__hash__" _ >>= _) Q E _
  refine wpAny_bind (wpAny_callSpecialIfBoundUnlessNone?_slot T F.slot_tuple_hash (wpAny_call_entry F.slot_tuple_hash T F.entry_tuple_hash ?_ (F.args_tuple_hash_1 _)))
  show wpAny _ A.in1 (Builtin.Tuple.tupleItemsOf (.ref c) >>= _) _ _ _
  refine wpAny_bind (wpAny_tupleItemsOf ho hd (wpAny_bind ?_))
  rw [<-Array.forIn_toList]
  refine wpAny_forIn_list _ (λrest (b:Array Int) s1=>∃ done left,a=done++left/\KAts s.heap left rest/\b.toList=kHashs w done/\s1={ s with toks:=s.toks+kDrawss done }) _ ?_ ?_ _ _ ⟨[],a,rfl,r,rfl,rfl⟩
  ·rintro v rest b s1 ⟨done,left,rfl,hl,hb,rfl⟩
   cases left with
   | nil=>simp only [KAts] at hl;cases hl
   | cons k ks=>
    simp only [KAts] at hl
    obtain ⟨v',rest',ez,k1,k2⟩:=hl
    cases ez
    have hk:k.dep<=n:=by
     have:=zgj (xs:=done++k::ks) (x:=k) (i:=done.length) (by simp)
     omega
    refine wpAny_bind (ze2 n k A.in1 _ v _ hk k1 (by show A.units+1+n<cLine;omega) ?_)
    have fin:∃ d2 l2,done++k::ks=d2++l2/\KAts s.heap l2 rest/\(b.push (zah w k)).toList=kHashs w d2/\({ s with toks:=s.toks+kDrawss done+zec k }:Shared)={ s with toks:=s.toks+kDrawss d2 }:=
     ⟨done++[k],ks,by simp,k2,by simp [hb,zd9,kHashs],by simp [zd1,kDrawss,Nat.add_assoc]⟩
    first | exact wpAny_pure fin | exact wpAny_bind (wpAny_pure (wpAny_pure fin))
  ·rintro b s1 ⟨done,left,rfl,hl,hb,rfl⟩
   cases left with
   | cons k ks=>simp only [KAts] at hl;obtain ⟨_,_,ez,_⟩:=hl;cases ez
   | nil=>
    rw [List.append_nil] at q
    show wpAny _ _ (retInt (Builtin.Tuple.tupleHashOf b.toList)) _ _ _
    rw [hb]
    refine wpAny_ret_mkInt ?_
    have q2:Q (reduceHash (Builtin.Tuple.tupleHashOf (kHashs w done))) { s with toks:=s.toks+(kDrawss done+1) }:=by
     simp only [zah,zec] at q;exact q
    clear q
    unfold reduceHash at q2
    generalize Builtin.Tuple.tupleHashOf (kHashs w done)=z at q2 ⊢
    show wpAny _ _ (if (decide (-(2:Int) ^ 63<=z)&&decide (z<2 ^ 63))=true then _ else _) Q E _
    by_cases hr:(decide (-(2:Int) ^ 63<=z)&&decide (z<2 ^ 63))=true
    ·rw [if_pos hr] at q2 ⊢
     exact wpAny_pure (by simpa [Nat.add_assoc] using q2)
    ·rw [if_neg hr] at q2 ⊢
     exact wpAny_bind (wpAny_rule (wpAny_pure (by simpa [Nat.add_assoc] using q2)))
 | _,.non,_,_,_,_,_,p,_,_=>by simp only [KAt] at p
 | _,.bl _,_,_,_,_,_,p,_,_=>by simp only [KAt] at p
 | _,.lst _,_,_,_,_,_,p,_,_=>by simp only [KAt] at p
theorem zhj:∀ (n:Nat) (x:D) (A:Around) (s:Shared) (u:Value) (Q:Bool->Shared->Prop),x.dep<=n->KAt s.heap x u->Q true s->wpAny (model prog w) A (eqIsQuiet n u) Q E s
 | n,.int a,A,s,u,Q,hn,p,q=>by
  simp only [KAt] at p
  obtain ⟨t,rfl⟩:=p
  rw [eqIsQuiet_byValue n rfl]
  exact wpAny_pure q
 | n,.str a,A,s,u,Q,hn,p,q=>by
  simp only [KAt] at p
  obtain ⟨t,rfl⟩:=p
  rw [eqIsQuiet_byValue n rfl]
  exact wpAny_pure q
 | 0,.tup a,A,s,u,Q,hn,p,q=>by simp only [D.dep] at hn;omega
 | n + 1,.tup a,A,s,u,Q,hn,p,q=>by
  simp only [KAt] at p
  obtain ⟨c,its,rfl,t,r⟩:=p
  have T:=za3 t
  obtain ⟨o,ho,_,m,hd⟩:=t
  have hdep:D.deps a<=n:=by simp only [D.dep] at hn;omega
  unfold eqIsQuiet
  refine wpAny_bind (wpAny_specialOf T F.slot_tuple_eq.lookup ?_)
  show wpAny _ _ (isInstance (.ref c) (.type "tuple") >>= _) _ _ _
  refine wpAny_bind (wpAny_isInstance T isSubtype_tuple_tuple ?_)
  simp only [Bool.not_true,Bool.false_eq_true,if_false]
  refine wpAny_bind (wpAny_seqItems ho hd (wpAny_bind ?_))
  show wpAny _ _ (forIn its _ _) _ _ _
  rw [<-Array.forIn_toList]
  refine wpAny_forIn_list _ (λrest r s1=>r.1=none/\s1=s/\∃ left,D.deps left<=n/\KAts s.heap left rest) _ ?_ ?_ _ _ ⟨rfl,rfl,a,hdep,r⟩
  ·rintro v rest r s1 ⟨hr,rfl,left,hl,hk⟩
   cases left with
   | nil=>simp only [KAts] at hk;cases hk
   | cons k ks=>
    simp only [KAts] at hk
    obtain ⟨v',rest',ez,k1,k2⟩:=hk
    cases ez
    simp only [D.deps] at hl
    refine wpAny_bind (zhj n k A _ v _ (by omega) k1 ?_)
    simp only [Bool.not_true,Bool.false_eq_true,if_false]
    exact wpAny_pure ⟨rfl,rfl,ks,by omega,k2⟩
  ·rintro ⟨r1,r2⟩ s1 ⟨hr,rfl,_⟩
   simp only at hr
   subst hr
   exact wpAny_pure q
 | _,.non,_,_,_,_,_,p,_=>by simp only [KAt] at p
 | _,.bl _,_,_,_,_,_,p,_=>by simp only [KAt] at p
 | _,.lst _,_,_,_,_,_,p,_=>by simp only [KAt] at p
end
noncomputable instance:DecidableEq D:=λx y=>if h:x.same y=true then isTrue (D.same_eq x y h) else isFalse λe=>h (e▸D.same_refl x)
theorem zca (x y:D):x.same y=decide (x=y):=by
 by_cases h:x=y
 ·subst h;rw [D.same_refl,decide_eq_true rfl]
 ·rw [zcx h,decide_eq_false h]
theorem zix {h h':Heap} {d:Addr} {o:Obj} {es:Array DictEntry} {ep:Nat} (ho:h.get? d=some o) (hd:o.data=.dict es ep) (hs:Heap.SameBut d h h') (a:Addr) (its:Array Value) (t:h.IsTuple a its):h'.IsTuple a its:=by
 obtain ⟨o',e,c,n,dt⟩:=t
 have ne:a≠d:=by
  rintro rfl
  rw [ho] at e;cases e
  rw [hd] at dt;cases dt
 exact ⟨o',(hs.2 a ne).trans e,c,n,dt⟩
noncomputable def dKind (prog:Program) (w:World):HeapKind prog w D where
 is:=λh x a=>x.dep<=8/\KAt h x (.ref a)
 hash:=zah w
 draws:=zec
 room:=λA=>A.units+8<cLine
 inj:=λhx hy=>KAt.inj _ _ _ hx.2 hy.2
 keeps:=λx ho hd hs=>⟨x.1,KAt.keep (zix ho hd hs) _ _ x.2⟩
 pyHash:=λhu hk q=>ze2 8 _ _ _ _ _ hk.1 hk.2 hu q
 eqBool:=λhu hx hy q=>kEq 8 _ _ _ _ _ hx.1 hx.2 hy.2 hu _ _ _ _ (by rw [zca];exact q)
 quiet:=λhk q=>zhj 8 _ _ _ _ _ hk.1 hk.2 q
end IT
set_option Elab.async false
set_option linter.all false
set_option maxRecDepth 100000
namespace L2
open PySem PySem.Spec PyProof.Rows
noncomputable abbrev Key:=Sum Int Str
noncomputable def zpc:Key->Value->Bool
 | .inl k,v=>Value.isInt k v
 | .inr x,v=>Value.isStrOf x v
noncomputable def keyH (w:World):Key->Int
 | .inl k=>hashInt k
 | .inr x=>hashStr w x
theorem zaw:∀ {k:Key} {v:Value},zpc k v=true->(∃ i t,k=Sum.inl i/\v=Value.int i t)\/(∃ x t,k=Sum.inr x/\v=Value.str x t)
 | .inl i,v,h=>by
  obtain ⟨t,e⟩:=Value.isInt_shape (k:=i) (v:=v) h
  exact .inl ⟨i,t,rfl,e⟩
 | .inr x,v,h=>by
  obtain ⟨t,e⟩:=Value.isStrOf_shape (x:=x) (v:=v) h
  exact .inr ⟨x,t,rfl,e⟩
theorem zo8 (a b:Int):decide ((Sum.inl a:Key)=Sum.inl b)=(a==b):=by
 by_cases e:a=b
 ·subst e;simp
 ·have h:¬ (Sum.inl a:Key)=Sum.inl b:=λq=>e (Sum.inl.inj q)
  rw [decide_eq_false h]
  exact (beq_eq_false_iff_ne.mpr e).symm
theorem zoE (a b:Str):decide ((Sum.inr a:Key)=Sum.inr b)=decide (a=b):=by
 by_cases e:a=b
 ·subst e;simp
 ·have h:¬ (Sum.inr a:Key)=Sum.inr b:=λq=>e (Sum.inr.inj q)
  rw [decide_eq_false h,decide_eq_false e]
theorem znM (a:Int) (b:Str):decide ((Sum.inl a:Key)=Sum.inr b)=false:=decide_eq_false (λq=>nomatch q)
theorem znZ (a:Str) (b:Int):decide ((Sum.inr a:Key)=Sum.inl b)=false:=decide_eq_false (λq=>nomatch q)
noncomputable def zjW (prog:Program) (w:World):PySem.KeyKind prog w Key where
 is:=zpc
 hash:=keyH w
 inj:=λv a b ha hb=>by
  rcases zaw ha with ⟨i,t,rfl,rfl⟩ | ⟨x,t,rfl,rfl⟩
  ·rcases zaw hb with ⟨j,u,rfl,e⟩ | ⟨y,u,rfl,e⟩
   ·injection e with e1 _;rw [e1]
   ·exact nomatch e
  ·rcases zaw hb with ⟨j,u,rfl,e⟩ | ⟨y,u,rfl,e⟩
   ·exact nomatch e
   ·injection e with e1 _;rw [e1]
 byValue:=λk v h=>by
  rcases zaw h with ⟨i,t,rfl,rfl⟩ | ⟨x,t,rfl,rfl⟩<;>rfl
 pyHash:=λhv h=>by
  rcases zaw hv with ⟨i,t,rfl,rfl⟩ | ⟨x,t,rfl,rfl⟩
  ·exact wpAny_pyHash_int h
  ·exact wpAny_pyHash_str h
 eqBool:=λhu hv h=>by
  rcases zaw hu with ⟨i,t,rfl,rfl⟩ | ⟨x,t,rfl,rfl⟩
  ·rcases zaw hv with ⟨j,u,rfl,rfl⟩ | ⟨y,u,rfl,rfl⟩
   ·rw [zo8] at h;exact wpAny_eqBool_int h
   ·rw [znM] at h;exact SeqAt.EqAt.int_str i t y u _ _ _ _ h
  ·rcases zaw hv with ⟨j,u,rfl,rfl⟩ | ⟨y,u,rfl,rfl⟩
   ·rw [znZ] at h;exact SeqAt.EqAt.str_int x t j u _ _ _ _ h
   ·rw [zoE] at h;exact wpAny_eqBool_str h
 «strs»:=λk x t v h=>by
  rcases zaw h with ⟨i,u,rfl,e⟩ | ⟨y,u,rfl,e⟩
  ·exact nomatch e
  ·injection e with e1 _
   subst e1
   cases v<;>rfl
end L2
namespace L2
open PySem PySem.Spec PyProof.Rows
inductive V where
 | non | bl (b:Bool) | int (i:Int) | str (x:Str) | byt (b:Array UInt8) | flt (b:UInt64) | ref (a:Addr) | ty (n:String)
 deriving DecidableEq
noncomputable def RelV:V->Value->Prop
 | .non,u=>u=Value.none
 | .bl b,u=>u=Value.bool b
 | .int i,u=>∃ t,u=Value.int i t
 | .str x,u=>∃ t,u=Value.str x t
 | .byt b,u=>∃ t,u=Value.bytes b t
 | .flt b,u=>∃ t,u=Value.float b t
 | .ref a,u=>u=Value.ref a
 | .ty n,u=>u=Value.type n
noncomputable abbrev Vals:List V->List Value->Prop:=Paired RelV
theorem Vals.length {xs:List V} {us:List Value} (r:Vals xs us):xs.length=us.length:=Paired.length r
theorem Vals.get:∀ {xs:List V} {us:List Value} {i:Nat} {x:V},Vals xs us->xs[i]?=some x->∃ u,us[i]?=some u/\RelV x u
 | _,_,_,_,.nil,e=>by simp at e
 | _,_,0,_,.cons r _,e=>by simp at e;subst e;exact ⟨_,rfl,r⟩
 | _,_,i+1,x,.cons _ t,e=>by
  obtain ⟨u,h1,h2⟩:=Vals.get (i:=i) (x:=x) t (by simpa using e)
  exact ⟨u,by simpa using h1,h2⟩
theorem Vals.set {x:V} {u:Value} (r:RelV x u):∀ {xs:List V} {us:List Value} (i:Nat),Vals xs us->Vals (xs.set i x) (us.set i u)
 | _,_,_,.nil=>.nil
 | _,_,0,.cons _ t=>.cons r t
 | _,_,i+1,.cons q t=>.cons q (Vals.set r i t)
theorem Vals.append:∀ {xs ys:List V} {us ws:List Value},Vals xs us->Vals ys ws->Vals (xs++ys) (us++ws)
 | _,_,_,_,.nil,s=>s
 | _,_,_,_,.cons r t,s=>.cons r (Vals.append t s)
theorem Vals.take:∀ {xs:List V} {us:List Value} (n:Nat),Vals xs us->Vals (xs.take n) (us.take n)
 | _,_,0,_=>.nil
 | _,_,_+1,.nil=>.nil
 | _,_,n+1,.cons r t=>.cons r (Vals.take n t)
theorem Vals.drop:∀ {xs:List V} {us:List Value} (n:Nat),Vals xs us->Vals (xs.drop n) (us.drop n)
 | _,_,0,r=>r
 | _,_,_+1,.nil=>.nil
 | _,_,n+1,.cons _ t=>Vals.drop n t
noncomputable def RelO:Option V->Option Value->Prop
 | some v,some u=>RelV v u
 | none,none=>True
 | _,_=>False
noncomputable def KV {κ:Type}:List (κ×V)->List (κ×Value)->Prop:=Paired λ(p:κ×V) (q:κ×Value)=>p.1=q.1/\RelV p.2 q.2
noncomputable def kV:Key->V
 | .inl i=>.int i
 | .inr x=>.str x
inductive HO where
 | lst (xs:List V)
 | tup (xs:List V)
 | dK (kvs:List (Key×V)) | dT (kvs:List (IT.D×Addr×V))
 | set (S:Int->Bool) (n:Nat)
 | ins (C dx:Addr) (fs:List (Str×V))
 | own (x:Addr)
 | xd (fs:List (Str×V))
 | met (f x:Addr)
 | rng (lo hi:Int)
 | frz (o:Obj) (u:HO)
 | tbl (ps:Array Value)
 | ext (φ:Heap->Prop)
noncomputable abbrev Hp:=Addr->Option HO
noncomputable def upd (H:Hp) (a:Addr) (o:HO):Hp:=λb=>if b=a then some o else H b
theorem zaj {H:Hp} {a:Addr} {o:HO}:upd H a o a=some o:=by unfold upd;rw [if_pos rfl]
theorem zak {H:Hp} {a b:Addr} {o:HO} (h:b≠a):upd H a o b=H b:=by unfold upd;rw [if_neg h]
theorem zao {H:Hp} {a b:Addr} {o:HO} (h:H a=some o) (h':H b=none):a≠b:=by
 intro e;subst e;rw [h] at h';cases h'
section
variable (P:Program) (w:World)
noncomputable def zeh (h:Heap) (a:Addr) (items:Array Value):Prop:=IsTup h a items/\∀ o,h.get? a=some o->o.dict=none
theorem zeh.new (h:Heap) (items:Array Value):zeh (h.push { cls:=.type "tuple",data:=.seq items }) h.objs.size items:=⟨IsTup.new h items,λo e=>by rw [Heap.get?_push_size _ rfl] at e;cases e;rfl⟩
noncomputable def zbh (H:Hp) (h:Heap) (a:Addr):HO->Prop
 | .lst xs=>xs.length<=sizeLine/\∃ (its:List Value) (n:Nat),Vals xs its/\h.get? a=some { cls:=.type "list",data:=.seq its.toArray n }
 | .tup xs=>xs.length<=sizeLine/\∃ its:List Value,Vals xs its/\zeh h a its.toArray
 | .dK kvs=>kvs.length<=sizeLine/\(a==sysModules)=false/\∃ vs,KV kvs vs/\h.DictOf (zjW P w) a vs
 | .dT kvs=>kvs.length<=sizeLine/\(a==sysModules)=false/\∃ xs:List (IT.D×Addr×Value),Paired (λ(p:IT.D×Addr×V) (q:IT.D×Addr×Value)=>p.1=q.1/\p.2.1=q.2.1/\RelV p.2.2 q.2.2) kvs xs ∧
   ∃ o es ep,h.get? a=some o/\o.ExactDict/\o.data=.dict es ep/\es.toList=xs.map (entryOfKey (IT.dKind P w))/\(xs.map (·.1)).Nodup
 | .set S n=>h.SetOf (intKind P w) a S n
 | .ins C dx fs=>H dx=some (.own a)/\fs.length<=1000/\dx≠a/\h.get? a=some (PySem.W.instObj C dx) ∧
   ∃ mA,h.Ns1 dx mA/\(∀ f,RelO (fs.lookup f) (mA f))/\PySem.Within mA (fs.map (·.1))
 | .own _=>∃ o,h.get? a=some o
 | .xd fs=>∃ mA,h.Ns1 a mA/\∀ f,RelO (fs.lookup f) (mA f)
 | .rng lo hi=>∃ t u v,h.get? a=some { cls:=.type "range",data:=.fields #[.int lo t,.int hi u,.int 1 v] }
 | .frz o u=>h.get? a=some o/\zbh H h a u
 | .tbl ps=>h.get? a=some { cls:=.none,data:=.fields ps }
 | .met f x=>h.get? a=some (PySem.W.methodObj (.ref f) (.ref x))
 | .ext φ=>φ h/\(∃ o,h.get? a=some o)/\∀ h1 h2:Heap,φ h1->(∀ o,h1.get? a=some o->h2.get? a=some o)->φ h2
noncomputable def HOk (H:Hp) (h:Heap):Prop:=∀ a o,H a=some o->zbh P w H h a o
end
section
variable {P:Program} {w:World} {H H':Hp} {h h':Heap} {a:Addr} {o:HO}
theorem zbh.lt (x:zbh P w H h a o):a<h.objs.size:=by
 cases o with
 | lst xs=>obtain ⟨_,_,_,_,e⟩:=x;exact Heap.lt_size e
 | tup xs=>obtain ⟨_,_,_,p⟩:=x;exact p.1.lt
 | dK kvs=>obtain ⟨_,_,_,_,o,_,_,e,_⟩:=x;exact Heap.lt_size e
 | dT kvs=>obtain ⟨_,_,_,_,o,_,_,e,_⟩:=x;exact Heap.lt_size e
 | set S n=>obtain ⟨o,_,_,_,e,_⟩:=x;exact Heap.lt_size e
 | ins C dx fs=>obtain ⟨_,_,_,e,_⟩:=x;exact Heap.lt_size e
 | own y=>obtain ⟨_,e⟩:=x;exact Heap.lt_size e
 | xd fs=>obtain ⟨_,⟨_,_,_,e,_⟩,_⟩:=x;exact Heap.lt_size e
 | rng lo hi=>obtain ⟨_,_,_,e⟩:=x;exact Heap.lt_size e
 | frz ob u=>obtain ⟨e,_⟩:=x;exact Heap.lt_size e
 | tbl ps=>exact Heap.lt_size (show h.get? a=some _ from x)
 | met f y=>exact Heap.lt_size (show h.get? a=some _ from x)
 | ext φ=>obtain ⟨_,⟨_,e⟩,_⟩:=x;exact Heap.lt_size e
theorem Paired.mapP {α β:Type} {F G:α->β->Prop}:∀ {l₁:List α} {l₂:List β},Paired F l₁ l₂->(∀ a b,F a b->G a b)->Paired G l₁ l₂
 | _,_,.nil,_=>.nil
 | _,_,.cons r t,f=>.cons (f _ _ r) (Paired.mapP t f)
theorem zbh.stay (x:zbh P w H h a o) (k:∀ b u,(b=a\/H b=some (.own a))->h.get? b=some u->h'.get? b=some u)
  (ho:∀ b,H b=some (.own a)->H' b=some (.own a)) (ht:∀ b xs,H b=some (.tup xs)->H' b=some (.tup xs)):zbh P w H' h' a o:=by
 induction o with
 | lst xs=>obtain ⟨z,its,n,r,e⟩:=x;exact ⟨z,its,n,r,k _ _ (.inl rfl) e⟩
 | tup xs=>obtain ⟨z,its,r,⟨ob,e,c⟩,dd⟩:=x;exact ⟨z,its,r,⟨ob,k _ _ (.inl rfl) e,c⟩,λo2 e2=>by rw [k _ _ (.inl rfl) e] at e2;cases e2;exact dd _ e⟩
 | dK kvs=>obtain ⟨z,y,vs,r,ob,es,ep,e,c⟩:=x;exact ⟨z,y,vs,r,ob,es,ep,k _ _ (.inl rfl) e,c⟩
 | dT kvs=>
  obtain ⟨z,y,xs,r,ob,es,ep,e,c⟩:=x
  exact ⟨z,y,xs,r,ob,es,ep,k _ _ (.inl rfl) e,c⟩
 | set S n=>obtain ⟨ob,es,ep,t,e,c⟩:=x;exact ⟨ob,es,ep,t,k _ _ (.inl rfl) e,c⟩
 | ins C dx fs=>
  obtain ⟨d,z,ne,e,mA,⟨od,es,ep,e2,c⟩,r⟩:=x
  exact ⟨ho _ d,z,ne,k _ _ (.inl rfl) e,mA,⟨od,es,ep,k _ _ (.inr d) e2,c⟩,r⟩
 | own y=>obtain ⟨ob,e⟩:=x;exact ⟨ob,k _ _ (.inl rfl) e⟩
 | xd fs=>obtain ⟨mA,⟨od,es,ep,e,c⟩,r⟩:=x;exact ⟨mA,⟨od,es,ep,k _ _ (.inl rfl) e,c⟩,r⟩
 | rng lo hi=>obtain ⟨t,u,v,e⟩:=x;exact ⟨t,u,v,k _ _ (.inl rfl) e⟩
 | frz ob u ih=>obtain ⟨e,q⟩:=x;exact ⟨k _ _ (.inl rfl) e,ih q⟩
 | tbl ps=>
  have e:h.get? a=some { cls:=.none,data:=.fields ps }:=x
  show h'.get? a=some { cls:=.none,data:=.fields ps }
  exact k a _ (.inl rfl) e
 | met f y=>
  have e:h.get? a=some (PySem.W.methodObj (.ref f) (.ref y)):=x
  show h'.get? a=some (PySem.W.methodObj (.ref f) (.ref y))
  exact k a _ (.inl rfl) e
 | ext φ=>obtain ⟨p,⟨o,e⟩,st⟩:=x;exact ⟨st _ _ p λo q=>k _ _ (.inl rfl) q,⟨o,k _ _ (.inl rfl) e⟩,st⟩
theorem HOk.lt (x:HOk P w H h) (e:H a=some o):a<h.objs.size:=(x a o e).lt
theorem HOk.fresh (x:HOk P w H h) (e:h.objs.size<=a):H a=none:=by
 cases q:H a with
 | none=>rfl
 | some u=>exact absurd (Nat.lt_of_lt_of_le (x.lt q) e) (Nat.lt_irrefl _)
theorem HOk.kept (x:HOk P w H h) (k:∀ b u,h.get? b=some u->h'.get? b=some u):HOk P w H h':=λa o e=>
 (x a o e).stay (λb u _ q=>k b u q) (λ_ q=>q) λ_ _ q=>q
theorem HOk.laid (x:HOk P w H h) (k:∀ b u,h.get? b=some u->h'.get? b=some u) (hp:h.objs.size<=a) (new:zbh P w (upd H a o) h' a o):HOk P w (upd H a o) h':=λb u e=>by
 have hn:=x.fresh hp
 by_cases hb:b=a
 ·subst hb;rw [zaj] at e;cases e;exact new
 ·rw [zak hb] at e
  exact (x b u e).stay (λc v _ q=>k c v q) (λc q=>by rw [zak (zao q hn)];exact q) λc xs q=>by rw [zak (zao q hn)];exact q
end
noncomputable def Rd (H:Hp) (a:Addr) (u:HO):Prop:=H a=some u\/∃ o,H a=some (.frz o u)
theorem Rd.of {H:Hp} {a:Addr} {u:HO} (h:H a=some u):Rd H a u:=.inl h
theorem Rd.ok {P:Program} {w:World} {H:Hp} {h:Heap} {a:Addr} {u:HO} (r:Rd H a u) (x:HOk P w H h):zbh P w H h a u:=by
 rcases r with r | ⟨o,r⟩
 ·exact x a u r
 ·obtain ⟨_,q⟩:=x a _ r
  exact q
noncomputable def Mut:Option HO->Prop
 | some (.lst _)=>True
 | some (.dK _)=>True
 | some (.dT _)=>True
 | some (.set _ _)=>True
 | some (.ins _ _ _)=>True
 | some (.ext _)=>True
 | _=>False
section
variable {P:Program} {w:World} {H:Hp} {h h':Heap} {x e:Addr} {o':HO}
theorem HOk.write (ok:HOk P w H h) (mu:Mut (H x)) (he:e=x\/H e=some (.own x)) (k:∀ b u,b≠e->h.get? b=some u->h'.get? b=some u) (heo:∃ u,h'.get? e=some u)
  (new:zbh P w (upd H x o') h' x o'):HOk P w (upd H x o') h':=λb u q=>by
 have nown:∀ c y,H c=some (.own y)->c≠x:=λc y r z=>by subst z;rw [r] at mu;exact mu
 have ntup:∀ c xs,H c=some (.tup xs)->c≠x:=λc xs r z=>by subst z;rw [r] at mu;exact mu
 by_cases hb:b=x
 ·subst hb;rw [zaj] at q;cases q;exact new
 ·rw [zak hb] at q
  by_cases hbe:b=e
  ·have q':H b=some (.own x):=by
    rcases he with z | z
    ·exact absurd (hbe.trans z) hb
    ·rw [hbe];exact z
   rw [q] at q';cases q'
   obtain ⟨v,hv⟩:=heo
   exact ⟨v,by rw [hbe];exact hv⟩
  ·refine (ok b u q).stay (λc v hc r=>k c v ?_ r) (λc r=>by rw [zak (nown c b r)];exact r) λc xs r=>by rw [zak (ntup c xs r)];exact r
   rcases hc with rfl | hc
   ·exact hbe
   ·rintro rfl
    rcases he with z | z
    ·exact nown c b hc z
    ·rw [hc] at z;cases z;exact hb rfl
end
structure Un (fs ex:List Addr) (H H':Hp) (h h':Heap):Prop where
 keep:∀ b o,h.get? b=some o->H b=none->b ∉ fs->b ∉ ex->h'.get? b=some o
 slot:∀ b o,h.get? b=some o->H b=none->b∈fs->b ∉ ex->∃ sl,h'.get? b=some { o with slots:=sl }
 free:∀ b o,h.get? b=some o->H b=none->b ∉ ex->H' b=none
 there:∀ b o,h.get? b=some o->b ∉ ex->∃ o',h'.get? b=some o'
 tups:∀ b xs,H b=some (.tup xs)->H' b=some (.tup xs)
 frzs:∀ b o u,H b=some (.frz o u)->H' b=some (.frz o u)
 tbls:∀ b ps,H b=some (.tbl ps)->∃ more,H' b=some (.tbl (ps++more))
section
variable {fs fs' ex ex':List Addr} {H H1 H2:Hp} {h h1 h2 h':Heap} {a x e:Addr} {o:HO}
theorem Un.any (u:Un fs ex H H1 h h1) {b:Addr} {ob:Obj} (q:h.get? b=some ob) (n:H b=none) (hx:b ∉ ex):∃ sl,h1.get? b=some { ob with slots:=sl }:=by
 by_cases hb:b∈fs
 ·exact u.slot b ob q n hb hx
 ·exact ⟨ob.slots,u.keep b ob q n hb hx⟩
theorem Un.trans (a:Un fs ex H H1 h h1) (b:Un fs ex H1 H2 h1 h2):Un fs ex H H2 h h2 where
 keep:=λc ob q n hc hx=>b.keep c ob (a.keep c ob q n hc hx) (a.free c ob q n hx) hc hx
 slot:=λc ob q n hc hx=>by
  obtain ⟨sl,e1⟩:=a.slot c ob q n hc hx
  obtain ⟨sl',e2⟩:=b.slot c _ e1 (a.free c ob q n hx) hc hx
  exact ⟨sl',e2⟩
 free:=λc ob q n hx=>by
  obtain ⟨o',e1⟩:=a.there c ob q hx
  exact b.free c o' e1 (a.free c ob q n hx) hx
 there:=λc ob q hx=>by
  obtain ⟨o',e1⟩:=a.there c ob q hx
  exact b.there c o' e1 hx
 tups:=λc xs q=>b.tups c xs (a.tups c xs q)
 frzs:=λc ob xs q=>b.frzs c ob xs (a.frzs c ob xs q)
 tbls:=λc ps q=>by
  obtain ⟨m1,e1⟩:=a.tbls c ps q
  obtain ⟨m2,e2⟩:=b.tbls c _ e1
  exact ⟨m1++m2,by rw [e2,Array.append_assoc]⟩
theorem Un.kept (k:∀ b u,h.get? b=some u->h'.get? b=some u):Un fs ex H H h h':=
 ⟨λb ob q _ _ _=>k b ob q,λb ob q _ _ _=>⟨ob.slots,k b ob q⟩,λ_ _ _ n _=>n,λb ob q _=>⟨ob,k b ob q⟩,λ_ _ q=>q,λ_ _ _ q=>q,λ_ ps q=>⟨#[],by rw [q];simp⟩⟩
theorem Un.refl:Un fs ex H H h h:=Un.kept λ_ _ q=>q
theorem Un.laid (k:∀ b u,h.get? b=some u->h'.get? b=some u) (hp:h.objs.size<=a) (hn:H a=none):Un fs ex H (upd H a o) h h' where
 keep:=λb u q _ _ _=>k b u q
 slot:=λb u q _ _ _=>⟨u.slots,k b u q⟩
 free:=λb u q n _=>by rw [zak (Nat.ne_of_lt (Nat.lt_of_lt_of_le (Heap.lt_size q) hp))];exact n
 there:=λb u q _=>⟨u,k b u q⟩
 tups:=λb xs q=>by rw [zak (zao q hn)];exact q
 frzs:=λb u xs q=>by rw [zak (zao q hn)];exact q
 tbls:=λb ps q=>⟨#[],by rw [zak (zao q hn),q];simp⟩
theorem Un.write (mu:Mut (H x)) (he:e=x\/H e=some (.own x)) (k:∀ b u,b≠e->h.get? b=some u->h'.get? b=some u) (heo:∃ u,h'.get? e=some u):Un fs ex H (upd H x o) h h':=by
 have hx:∀ b,H b=none->b≠x:=λb n z=>by subst z;rw [n] at mu;exact mu
 have hb:∀ b,H b=none->b≠e:=λb n z=>by
  subst z
  rcases he with r | r
  ·exact hx b n r
  ·rw [n] at r;cases r
 have hm:∀ b u,H b=some u->¬ Mut (some u)->b≠x:=λb u q nm z=>by subst z;rw [q] at mu;exact nm mu
 refine ⟨λb u q n _ _=>k b u (hb b n) q,λb u q n _ _=>⟨u.slots,k b u (hb b n) q⟩,λb u q n _=>by rw [zak (hx b n)];exact n,λb u q _=>?_,
  fun b xs q=>by rw [zak (hm b _ q λz=>z)];exact q,λb u xs q=>by rw [zak (hm b _ q λz=>z)];exact q,λb ps q=>⟨#[],by rw [zak (hm b _ q λz=>z),q];simp⟩⟩
 by_cases hbe:b=e
 ·subst hbe;exact heo
 ·exact ⟨u,k b u hbe q⟩
theorem Un.mono (u:Un fs ex H H1 h h1) (hs:∀ b∈fs,b∈fs') (hx:∀ b∈ex,b∈ex'):Un fs' ex' H H1 h h1:=
 ⟨λb ob q n hb he=>u.keep b ob q n (λz=>hb (hs b z)) λz=>he (hx b z),λ_ _ q n _ he=>u.any q n λz=>he (hx _ z),λb ob q n he=>u.free b ob q n λz=>he (hx b z),λb ob q he=>u.there b ob q λz=>he (hx b z),u.tups,u.frzs,u.tbls⟩
end
noncomputable def trk (h:Heap) (H:Hp):List Addr:=(List.range h.objs.size).filter λa=>(H a).isSome
noncomputable def hidT (h:Heap) (H:Hp):Heap:=PySem.W.hideAll h (trk h H)
theorem ziC (h:Heap) (H:Hp):(hidT h H).objs.size=h.objs.size:=PySem.W.hideAll_size _ _
theorem zlm {h:Heap} {H:Hp} {b:Addr} {o:Obj} (e:h.get? b=some o) (n:H b=none):(hidT h H).get? b=some o:=
 PySem.W.hideAll_get _ e λhm=>by
  have q:(H b).isSome=true:=(List.mem_filter.mp hm).2
  rw [n] at q;simp at q
theorem zml {h:Heap} {H:Hp} {b:Addr} {o:Obj} (e:(hidT h H).get? b=some o):h.get? b=some o/\H b=none:=by
 have e':h.get? b=some o:=PySem.W.of_hideAll (trk h H) e
 refine ⟨e',?_⟩
 cases q:H b with
 | none=>rfl
 | some x=>
  have hm:b∈trk h H:=List.mem_filter.mpr ⟨List.mem_range.mpr (Heap.lt_size e'),by simp [q]⟩
  have z:(hidT h H).get? b=none:=PySem.W.hideAll_none (trk h H) hm
  rw [z] at e;cases e
noncomputable def zmc (g h:Heap) (L:Addr):List (Addr×Obj):=(List.range h.objs.size).filterMap λa=>if a=L\/(g.get? a).isSome=true then none else (h.get? a).map λo=>(a,o)
noncomputable def rest (g h:Heap) (L d:Addr):List (Addr×Obj):=(zmc g h L).filter λp=>decide (p.1≠d)
end L2
namespace L2
open PySem PySem.Spec PyProof.Rows
structure Mod (K:PySem.W.Frag) (mg:Str->Option Value) (base:Heap):Prop where
 kin:K.In base
 glob:base.Ns mainGlobals mg
 blt:∃ mb,base.Ns builtinsNs mb/\∀ x:Str,x ≠ "__name__"->mb x=bootBuiltins x
 nolimit:base.NoLimit
structure Cx where
 prog:Program
 w:World
 K:PySem.W.Frag
 mg:Str->Option Value
 base:Heap
 A:Around
 N:List Str
 s₀:Shared
 H₀:Hp
 env:Env
 outer:List Env
 stack:List Env
 ex:List Addr
 fn:Str->Bool
 calm:Bool
 pn:List (Addr×Obj)
 xe:Value->Shared->Prop
noncomputable def frs (l:List Env):List Addr:=l.filterMap (·.frame)
noncomputable abbrev Cx.fs (X:Cx):List Addr:=frs X.outer
noncomputable def Vis (sc:Scope) (x:Str):Prop:=sc.names.lookup x=some .local\/sc.names.lookup x=some .cell\/sc.names.lookup x=some .free
noncomputable def Loc (sc:Scope) (x:Str):Prop:=sc.names.lookup x=some .local\/sc.names.lookup x=some .cell
noncomputable def Look (env:Env) (h:Heap) (m:Str->Option Value) (x:Str) (u:Value):Prop:=
 (env.kindOf x=some .local/\m x=some u)\/((env.kindOf x=some .cell\/env.kindOf x=some .free)/\∃ c,env.cells.lookup x=some c/\h.IsCell c (some u))
structure Cx.Ok (X:Cx):Prop where
 mod:Mod X.K X.mg X.base
 kind:X.env.scope.kind=.function
 glob:X.env.globals=mainGlobals
 blt:X.env.builtins=builtinsNs
 above:X.s₀.heap.objs.size<=X.env.locals
 inj:∀ x y c,X.env.cells.lookup x=some c->X.env.cells.lookup y=some c->x=y
 has:∀ x,(X.env.kindOf x=some .cell\/X.env.kindOf x=some .free)->∃ c,X.env.cells.lookup x=some c
 cab:∀ x c,X.fn x=true->X.env.cells.lookup x=some c->X.s₀.heap.objs.size<=c
 hd:X.calm=true->X.A.handled=none
 frames:X.A.frames=some X.stack
 stk:X.stack=X.outer\/(X.stack=X.env::X.outer/\X.env.frame=some X.env.locals)
 exf:∀ b∈X.ex,b≠X.env.locals/\∀ x c,X.env.cells.lookup x=some c->c≠b
 bs:∀ b o,X.base.get? b=some o->X.s₀.heap.get? b=some o/\X.H₀ b=none
 bsz:X.base.objs.size<=X.s₀.heap.objs.size
 noex:∀ b o,X.base.get? b=some o->b ∉ X.ex
 exfs:∀ b∈X.ex,b ∉ X.fs
 funs:X.s₀.heap.FunFrames X.base X.outer
 frf:∀ b∈X.fs,X.H₀ b=none
structure Inv (X:Cx) (pins:List (Addr×Obj)) (σ:List (Option V)) (H:Hp) (s:Shared):Prop where
 ok:X.Ok
 os:s.os=X.s₀.os
 bare:AllBare s.gens
 base:Un X.fs X.ex X.H₀ H X.s₀.heap s.heap
 loc:∃ m,s.heap.Ns X.env.locals m/\∀ (i:Nat) (x:Str) (v:V),X.N[i]?=some x->σ[i]?=some (some v)->Vis X.env.scope x->∃ u,RelV v u/\Look X.env s.heap m x u
 cell:∀ x c,X.env.cells.lookup x=some c->∃ v,s.heap.IsCell c v
 free:H X.env.locals=none
 freeC:∀ x c,X.env.cells.lookup x=some c->H c=none
 pin:∀ p∈X.pn++pins,s.heap.get? p.1=some p.2/\H p.1=none/\p.1≠X.env.locals/\p.1 ∉ X.fs/\∀ v,p.2.data≠.cell v
 hok:HOk X.prog X.w H s.heap
 len:σ.length=X.N.length
section
variable {X:Cx} {pins:List (Addr×Obj)} {σ:List (Option V)} {H H':Hp} {s:Shared} {h':Heap}
theorem Cx.Ok.nofr (ok:X.Ok) {b:Addr} {o:Obj} (e:X.base.get? b=some o):b ∉ X.fs:=λhb=>by
 have:=(ok.funs.mem hb).1
 rw [e] at this;cases this
theorem Inv.bs (I:Inv X pins σ H s):∀ b o,X.base.get? b=some o->s.heap.get? b=some o/\H b=none:=λb o e=>
 ⟨I.base.keep b o (I.ok.bs b o e).1 (I.ok.bs b o e).2 (I.ok.nofr e) (I.ok.noex b o e),I.base.free b o (I.ok.bs b o e).1 (I.ok.bs b o e).2 (I.ok.noex b o e)⟩
theorem Inv.bk (I:Inv X pins σ H s):∀ b o,X.base.get? b=some o->s.heap.get? b=some o:=λb o e=>(I.bs b o e).1
theorem Inv.mod (I:Inv X pins σ H s):Mod X.K X.mg X.base:=I.ok.mod
theorem Inv.kIn (I:Inv X pins σ H s):X.K.In s.heap:=I.ok.mod.kin.keeps I.bk
theorem Inv.nolimit (I:Inv X pins σ H s):s.heap.NoLimit:=I.ok.mod.nolimit.keeps I.bk
theorem Inv.lt (I:Inv X pins σ H s):X.env.locals<s.heap.objs.size:=let ⟨_,hn,_⟩:=I.loc;hn.lt
theorem Inv.sz (I:Inv X pins σ H s):X.s₀.heap.objs.size<=s.heap.objs.size:=Nat.le_trans I.ok.above (Nat.le_of_lt I.lt)
theorem Inv.nofs (I:Inv X pins σ H s) {a:Addr} (h:s.heap.objs.size<=a):a ∉ X.fs:=λhb=>by
 obtain ⟨_,o,ho,_⟩:=I.ok.funs.mem hb
 exact absurd (Nat.lt_of_lt_of_le (Heap.lt_size ho) (Nat.le_trans I.sz h)) (Nat.lt_irrefl _)
theorem Inv.cne (I:Inv X pins σ H s):∀ x c,X.env.cells.lookup x=some c->c≠X.env.locals:=λx c e z=>by
 obtain ⟨v,o,ho,hd⟩:=I.cell x c e
 obtain ⟨m,⟨o',es,ep,ho',hd',_⟩,_⟩:=I.loc
 rw [z,ho'] at ho;cases ho;rw [hd'] at hd;cases hd
theorem Inv.funs (I:Inv X pins σ H s):s.heap.FunFrames X.base X.outer:=by
 have all:∀ (l:List Env),(∀ b∈frs l,b∈X.fs)->X.s₀.heap.FunFrames X.base l->s.heap.FunFrames X.base l:=by
  intro l
  induction l with
  | nil=>intro _ _;trivial
  | cons env r ih=>
   intro hs hl
   obtain ⟨hk,⟨L,o,hf,hn,ho,hd⟩,hr⟩:=hl
   have hL:L∈X.fs:=hs L (by unfold frs;rw [List.filterMap_cons,hf];exact List.mem_cons_self)
   obtain ⟨sl,e⟩:=I.base.slot L o ho (I.ok.frf L hL) hL λz=>I.ok.exfs L z hL
   exact ⟨hk,⟨L,_,hf,hn,e,hd⟩,ih (λb hb=>hs b (by unfold frs;rw [List.filterMap_cons,hf];exact List.mem_cons_of_mem _ hb)) hr⟩
 exact all X.outer (λ_ hb=>hb) I.ok.funs
theorem Inv.stack (I:Inv X pins σ H s):s.heap.FunFrames X.base X.stack:=by
 rcases I.ok.stk with e | ⟨e,hf⟩
 ·rw [e];exact I.funs
 ·rw [e]
  obtain ⟨m,hn,_⟩:=I.loc
  refine .cons (by rw [I.ok.kind];decide) hf hn ?_ I.funs
  exact Heap.get?_none_of_le (Nat.le_trans I.ok.bsz I.ok.above)
theorem Inv.stkSub (I:Inv X pins σ H s):∀ b∈frs X.stack,b∈X.env.locals::X.fs:=λb hb=>by
 rcases I.ok.stk with e | ⟨e,hf⟩
 ·rw [e] at hb;exact List.mem_cons_of_mem _ hb
 ·rw [e] at hb
  unfold frs at hb
  rw [List.filterMap_cons,hf] at hb
  exact hb
theorem Inv.stkFree (I:Inv X pins σ H s):∀ b∈frs X.stack,H b=none:=λb hb=>by
 rcases List.mem_cons.mp (I.stkSub b hb) with e | hb
 ·rw [e];exact I.free
 ·obtain ⟨_,o,ho,_⟩:=I.ok.funs.mem hb
  exact I.base.free b o ho (I.ok.frf b hb) λz=>I.ok.exfs b z hb
theorem Inv.step {g':Array GenState} {t':Nat} {d':Drawn} {ch:List Addr} (I:Inv X pins σ H s)
  (hch:∀ b∈ch,(b∈X.ex\/X.s₀.heap.objs.size<=b)/\b≠X.env.locals/\(∀ x c,X.env.cells.lookup x=some c->c≠b)/\∀ p∈X.pn++pins,p.1≠b)
  (keep:∀ b o,b≠X.env.locals->b ∉ X.fs->b ∉ ch->s.heap.get? b=some o->H b=none->h'.get? b=some o)
  (slot:∀ b o,b≠X.env.locals->b∈X.fs->b ∉ ch->s.heap.get? b=some o->H b=none->∃ sl,h'.get? b=some { o with slots:=sl }) (free:∀ b o,b ∉ ch->s.heap.get? b=some o->H b=none->H' b=none)
  (there:∀ b o,b ∉ ch->s.heap.get? b=some o->∃ o',h'.get? b=some o')
  (tups:∀ b xs,H b=some (.tup xs)->H' b=some (.tup xs)) (frzs:∀ b o u,H b=some (.frz o u)->H' b=some (.frz o u)) (tbls:∀ b ps,H b=some (.tbl ps)->∃ more,H' b=some (.tbl (ps++more)))
  (ns:∀ m,s.heap.Ns X.env.locals m->h'.Ns X.env.locals m) (hok:HOk X.prog X.w H' h') (hg:AllBare g') :
  Inv X pins σ H' { s with heap:=h',gens:=g',drawn:=d',toks:=t' }:=by
 have neL:∀ b o,X.s₀.heap.get? b=some o->b≠X.env.locals:=λb o e=>Nat.ne_of_lt (Nat.lt_of_lt_of_le (Heap.lt_size e) I.ok.above)
 have neC:∀ b o,X.s₀.heap.get? b=some o->b ∉ X.ex->b ∉ ch:=λb o e hx hb=>by
  rcases (hch b hb).1 with z | z
  ·exact hx z
  ·exact absurd (Nat.lt_of_lt_of_le (Heap.lt_size e) z) (Nat.lt_irrefl _)
 have cellK:∀ x c,X.env.cells.lookup x=some c->∀ v,s.heap.IsCell c v->h'.IsCell c v:=λx c e v ⟨o,ho,hd⟩=>by
  have nch:c ∉ ch:=λz=>(hch c z).2.2.1 x c e rfl
  by_cases hc:c∈X.fs
  ·obtain ⟨sl,q⟩:=slot c o (I.cne x c e) hc nch ho (I.freeC x c e)
   exact ⟨_,q,hd⟩
  ·exact ⟨o,keep c o (I.cne x c e) hc nch ho (I.freeC x c e),hd⟩
 refine ⟨I.ok,I.os,hg,⟨λb o e n hb hx=>?_,λb o e n hb hx=>?_,λb o e n hx=>?_,λb o e hx=>?_,λb xs e=>tups b xs (I.base.tups b xs e),λb o xs e=>frzs b o xs (I.base.frzs b o xs e),λb ps e=>?_⟩,?_,λx c e=>?_,?_,λx c e=>?_,λp hp=>?_,hok,I.len⟩
 ·exact keep b o (neL b o e) hb (neC b o e hx) (I.base.keep b o e n hb hx) (I.base.free b o e n hx)
 ·obtain ⟨sl,e1⟩:=I.base.slot b o e n hb hx
  obtain ⟨sl',e2⟩:=slot b _ (neL b o e) hb (neC b o e hx) e1 (I.base.free b o e n hx)
  exact ⟨sl',e2⟩
 ·obtain ⟨o',e1⟩:=I.base.there b o e hx
  exact free b o' (neC b o e hx) e1 (I.base.free b o e n hx)
 ·obtain ⟨o',e1⟩:=I.base.there b o e hx
  exact there b o' (neC b o e hx) e1
 ·obtain ⟨m1,e1⟩:=I.base.tbls b ps e
  obtain ⟨m2,e2⟩:=tbls b _ e1
  exact ⟨m1++m2,by rw [e2,Array.append_assoc]⟩
 ·obtain ⟨m,hn,hl⟩:=I.loc
  refine ⟨m,ns m hn,λi x v e1 e2 e3=>?_⟩
  obtain ⟨u,r,l⟩:=hl i x v e1 e2 e3
  refine ⟨u,r,?_⟩
  rcases l with l | ⟨k,c,e,z⟩
  ·exact .inl l
  ·exact .inr ⟨k,c,e,cellK x c e _ z⟩
 ·obtain ⟨v,z⟩:=I.cell x c e
  exact ⟨v,cellK x c e v z⟩
 ·obtain ⟨m,⟨o,_,_,ho,_⟩,_⟩:=I.loc
  exact free _ o (λz=>(hch _ z).2.1 rfl) ho I.free
 ·obtain ⟨v,o,ho,hd⟩:=I.cell x c e
  exact free c o (λz=>(hch c z).2.2.1 x c e rfl) ho (I.freeC x c e)
 ·obtain ⟨e,n,ne,nf,d⟩:=I.pin p hp
  have nch:p.1 ∉ ch:=λz=>(hch p.1 z).2.2.2 p hp rfl
  exact ⟨keep p.1 p.2 ne nf nch e n,free p.1 p.2 nch e n,ne,nf,d⟩
theorem Inv.un {t':Nat} (I:Inv X pins σ H s) (u:Un X.fs [] H H' s.heap h') (hok:HOk X.prog X.w H' h'):Inv X pins σ H' { s with heap:=h',toks:=t' }:=by
 obtain ⟨m,⟨o,es,ep,ho,r⟩,_⟩:=id I.loc
 obtain ⟨sl,hL⟩:=u.any ho I.free (by simp)
 exact I.step (g':=s.gens) (d':=s.drawn) (ch:=[]) (λ_ z=>nomatch z) (λb o _ hb _ e n=>u.keep b o e n hb (by simp)) (λb o _ hb _ e n=>u.slot b o e n hb (by simp)) (λb o _ e n=>u.free b o e n (by simp)) (λb o _ e=>u.there b o e (by simp)) u.tups u.frzs u.tbls (λm' hm=>by
  obtain ⟨o',es',ep',ho',r'⟩:=hm
  rw [ho] at ho';cases ho'
  exact ⟨_,es',ep',hL,r'⟩) hok I.bare
theorem Inv.call {g':Array GenState} {t':Nat} {d':Drawn} {ch:List Addr} (I:Inv X pins σ H s) (u:Un (frs X.stack) ch H H' s.heap h') (hok:HOk X.prog X.w H' h') (hg:AllBare g')
  (hch:∀ b∈ch,(b∈X.ex\/X.s₀.heap.objs.size<=b)/\b≠X.env.locals/\(∀ x c,X.env.cells.lookup x=some c->c≠b)/\∀ p∈X.pn++pins,p.1≠b) :
  Inv X pins σ H' { s with heap:=h',gens:=g',drawn:=d',toks:=t' }:=by
 obtain ⟨m,⟨o,es,ep,ho,r⟩,_⟩:=id I.loc
 obtain ⟨sl,hL⟩:=u.any ho I.free λz=>(hch _ z).2.1 rfl
 exact I.step (ch:=ch) hch (λb o hL hb hc e n=>u.keep b o e n (λz=>(List.mem_cons.mp (I.stkSub b z)).elim hL hb) hc) (λb o _ _ hc e n=>u.any e n hc) (λb o hc e n=>u.free b o e n hc) (λb o hc e=>u.there b o e hc) u.tups u.frzs u.tbls (λm' hm=>by
  obtain ⟨o',es',ep',ho',r'⟩:=hm
  rw [ho] at ho';cases ho'
  exact ⟨_,es',ep',hL,r'⟩) hok hg
theorem Inv.turned {t':Nat} {it:Addr} (I:Inv X pins σ H s) (k:∀ b o,b≠it->s.heap.get? b=some o->h'.get? b=some o) (hn:H it=none) (hL:it≠X.env.locals)
  (h1:it∈X.ex\/X.s₀.heap.objs.size<=it) (h2:∀ x c,X.env.cells.lookup x=some c->c≠it) (h3:∀ p∈X.pn++pins,p.1≠it):Inv X pins σ H { s with heap:=h',toks:=t' }:=by
 have nit:∀ b u,H b=some u->b≠it:=λb u e z=>by rw [z,hn] at e;cases e
 refine I.step (g':=s.gens) (d':=s.drawn) (ch:=[it]) (λb hb=>?_) (λb o _ _ hc e _=>k b o (λz=>hc (by simp [z])) e) (λb o _ _ hc e _=>⟨o.slots,k b o (λz=>hc (by simp [z])) e⟩) (λ_ _ _ _ n=>n)
  (λb o hc e=>⟨o,k b o (λz=>hc (by simp [z])) e⟩) (λ_ _ e=>e) (λ_ _ _ e=>e) (λb ps e=>⟨#[],by rw [e];simp⟩) (λm hm=>?_) (λb u e=>?_) I.bare
 ·have e:b=it:=by simpa using hb
  subst e
  exact ⟨h1,hL,h2,h3⟩
 ·obtain ⟨o,es,ep,ho,r⟩:=hm
  exact ⟨o,es,ep,k _ o (Ne.symm hL) ho,r⟩
 ·refine (I.hok b u e).stay (λc v hc q=>k c v ?_ q) (λ_ q=>q) λ_ _ q=>q
  rcases hc with z | z
  ·rw [z];exact nit b u e
  ·exact nit c _ z
theorem Inv.tok (I:Inv X pins σ H s) (t:Nat):Inv X pins σ H { s with toks:=t }:=I.un (h':=s.heap) (t':=t) Un.refl I.hok
theorem Inv.kept {t':Nat} (I:Inv X pins σ H s) (k:∀ b u,s.heap.get? b=some u->h'.get? b=some u):Inv X pins σ H { s with heap:=h',toks:=t' }:=I.un (Un.kept k) (I.hok.kept k)
theorem Inv.laid {a:Addr} {o:HO} {t':Nat} (I:Inv X pins σ H s) (k:∀ b u,s.heap.get? b=some u->h'.get? b=some u) (hp:s.heap.objs.size<=a) (new:zbh X.prog X.w (upd H a o) h' a o) :
  Inv X pins σ (upd H a o) { s with heap:=h',toks:=t' }:=I.un (Un.laid k hp (I.hok.fresh hp)) (I.hok.laid k hp new)
theorem Inv.write {x e:Addr} {o:HO} {t':Nat} (I:Inv X pins σ H s) (mu:Mut (H x)) (he:e=x\/H e=some (.own x)) (k:∀ b u,b≠e->s.heap.get? b=some u->h'.get? b=some u) (heo:∃ u,h'.get? e=some u)
  (new:zbh X.prog X.w (upd H x o) h' x o):Inv X pins σ (upd H x o) { s with heap:=h',toks:=t' }:=I.un (Un.write mu he k heo) (I.hok.write mu he k heo new)
theorem Inv.pins_of {pins':List (Addr×Obj)} (I:Inv X pins σ H s) (h:∀ p∈pins',s.heap.get? p.1=some p.2/\H p.1=none/\p.1≠X.env.locals/\p.1 ∉ X.fs/\∀ v,p.2.data≠.cell v):Inv X pins' σ H s:=
 ⟨I.ok,I.os,I.bare,I.base,I.loc,I.cell,I.free,I.freeC,λp hp=>(List.mem_append.mp hp).elim (λz=>I.pin p (List.mem_append_left _ z)) (h p),I.hok,I.len⟩
theorem zgL {N:List Str} (hN:N.Nodup) {i j:Nat} {x:Str} (a:N[i]?=some x) (b:N[j]?=some x):i=j:=by
 obtain ⟨h1,e1⟩:=List.getElem?_eq_some_iff.mp a
 obtain ⟨h2,e2⟩:=List.getElem?_eq_some_iff.mp b
 exact (List.getElem_inj hN).mp (e1.trans e2.symm)
theorem ziZ {M:Model} {A:Around} {E:Value->Shared->Prop} {i:Nat} {x:Str} {v:V} {u:Value} {Q:Unit->Shared->Prop} (I:Inv X pins σ H s) (hN:X.N.Nodup) (hi:X.N[i]?=some x) (hx:Loc X.env.scope x) (r:RelV v u)
    (h:∀ s',Inv X pins (σ.set i (some v)) H s'->(∃ a,Heap.SameBut a s.heap s'.heap/\(a=X.env.locals\/X.env.cells.lookup x=some a))->Q () s') (hf:X.fn x=true\/X.env.scope.names.lookup x=some .local:=by first | exact .inl rfl | exact .inr rfl | assumption):wpAny M A (storeName X.env x u) Q E s:=by
  obtain ⟨m,hn,hl⟩:=id I.loc
  have hcls:(X.env.scope.kind==.class||(X.env.scope.kind==.module&&X.env.locals != X.env.globals))=false:=by rw [I.ok.kind];rfl
  have hiσ:i<σ.length:=by rw [I.len];exact (List.getElem?_eq_some_iff.mp hi).1
  have cne:=I.cne
  have tracked:∀ {a:Addr} {h':Heap},(∃ o,s.heap.get? a=some o/\H a=none)->Heap.SameBut a s.heap h'->HOk X.prog X.w H h':=λ{a h'} ha hs b ob e=>by
    obtain ⟨_,_,hfree⟩:=ha
    refine (I.hok b ob e).stay (λc w' hc q=>(hs.2 c ?_).trans q) (λ_ q=>q) λ_ _ q=>q
    rintro rfl
    rcases hc with rfl | hc
    · rw [hfree] at e;cases e
    · rw [hfree] at hc;cases hc
  rcases hx with hk | hk
  · refine wpAny_storeName_local hk hn (λh' hn' hs=>?_) hcls
    obtain ⟨oL,_,_,hoL,_⟩:=id hn
    refine h _ ⟨I.ok,I.os,I.bare,⟨λb o e n hb hx=>?_,λb o e n hb hx=>?_,I.base.free,λb o e hx=>?_,I.base.tups,I.base.frzs,I.base.tbls⟩,⟨_,hn',λj y v' e1 e2 e3=>?_⟩,λy c e=>?_,I.free,I.freeC,λp hp=>?_,tracked ⟨oL,hoL,I.free⟩ hs,by simpa using I.len⟩ ⟨_,hs,.inl rfl⟩
    · exact (hs.2 b (Nat.ne_of_lt (Nat.lt_of_lt_of_le (Heap.lt_size e) I.ok.above))).trans (I.base.keep b o e n hb hx)
    · obtain ⟨sl,e1⟩:=I.base.slot b o e n hb hx
      exact ⟨sl,(hs.2 b (Nat.ne_of_lt (Nat.lt_of_lt_of_le (Heap.lt_size e) I.ok.above))).trans e1⟩
    · obtain ⟨o',e1⟩:=I.base.there b o e hx
      exact ⟨o',(hs.2 b (Nat.ne_of_lt (Nat.lt_of_lt_of_le (Heap.lt_size e) I.ok.above))).trans e1⟩
    · by_cases hj:j=i
      · subst hj
        rw [hi] at e1;cases e1
        rw [List.getElem?_set_self hiσ] at e2
        cases e2
        exact ⟨u,r,.inl ⟨hk,by simp⟩⟩
      · rw [List.getElem?_set_ne (Ne.symm hj)] at e2
        obtain ⟨u',r',q⟩:=hl j y v' e1 e2 e3
        refine ⟨u',r',?_⟩
        rcases q with ⟨k,e⟩ | ⟨k,c,e,z⟩
        · refine .inl ⟨k,?_⟩
          have:y≠x:=λe=>hj (zgL hN e1 (e▸hi))
          simp [this,e]
        · exact .inr ⟨k,c,e,z.sameBut hs (cne y c e)⟩
    · obtain ⟨w',z⟩:=I.cell y c e
      exact ⟨w',z.sameBut hs (cne y c e)⟩
    · obtain ⟨e,n,ne,nf,d⟩:=I.pin p hp
      exact ⟨(hs.2 p.1 ne).trans e,n,ne,nf,d⟩
  · have hfn:X.fn x=true:=by
      rcases hf with z | z
      · exact z
      · rw [z] at hk;cases hk
    obtain ⟨c,hc⟩:=I.ok.has x (.inl hk)
    obtain ⟨w',z⟩:=I.cell x c hc
    refine wpAny_storeName_cell I.ok.kind hk hc z (λh' hc' hs=>?_)
    obtain ⟨oc,hoc,hocd⟩:=id z
    refine h { s with heap:=h' } ⟨I.ok,I.os,I.bare,⟨λb o e n hb hx=>?_,λb o e n hb hx=>?_,I.base.free,λb o e hx=>?_,I.base.tups,I.base.frzs,I.base.tbls⟩,⟨m,hn.sameBut hs (Ne.symm (cne x c hc)),λj y v' e1 e2 e3=>?_⟩,λy c' e=>?_,I.free,I.freeC,λp hp=>?_,tracked ⟨oc,hoc,I.freeC x c hc⟩ hs,by simpa using I.len⟩ ⟨c,hs,.inr hc⟩
    · exact (hs.2 b (Nat.ne_of_lt (Nat.lt_of_lt_of_le (Heap.lt_size e) (I.ok.cab x c hfn hc)))).trans (I.base.keep b o e n hb hx)
    · obtain ⟨sl,e1⟩:=I.base.slot b o e n hb hx
      exact ⟨sl,(hs.2 b (Nat.ne_of_lt (Nat.lt_of_lt_of_le (Heap.lt_size e) (I.ok.cab x c hfn hc)))).trans e1⟩
    · obtain ⟨o',e1⟩:=I.base.there b o e hx
      exact ⟨o',(hs.2 b (Nat.ne_of_lt (Nat.lt_of_lt_of_le (Heap.lt_size e) (I.ok.cab x c hfn hc)))).trans e1⟩
    · by_cases hj:j=i
      · subst hj
        rw [hi] at e1;cases e1
        rw [List.getElem?_set_self hiσ] at e2
        cases e2
        exact ⟨u,r,.inr ⟨.inl hk,c,hc,hc'⟩⟩
      · rw [List.getElem?_set_ne (Ne.symm hj)] at e2
        obtain ⟨u',r',q⟩:=hl j y v' e1 e2 e3
        refine ⟨u',r',?_⟩
        rcases q with q | ⟨k,c',e,z'⟩
        · exact .inl q
        · refine .inr ⟨k,c',e,z'.sameBut hs ?_⟩
          rintro rfl
          exact hj (zgL hN e1 (I.ok.inj _ _ _ e hc▸hi))
    · by_cases hcc:c'=c
      · subst hcc;exact ⟨_,hc'⟩
      · obtain ⟨w2,z2⟩:=I.cell y c' e
        exact ⟨w2,z2.sameBut hs hcc⟩
    · obtain ⟨e,n,ne,nf,d⟩:=I.pin p hp
      refine ⟨(hs.2 p.1 ?_).trans e,n,ne,nf,d⟩
      intro q
      rw [q,hoc] at e
      have q':oc=p.2:=Option.some.inj e
      exact d w' (by rw [<-q'];exact hocd)
theorem zkn {M:Model} {A:Around} {E:Value->Shared->Prop} {i:Nat} {x:Str} {v:V} {u:Value} {Q:Unit->Shared->Prop} (I:Inv X pins σ H s) (hN:X.N.Nodup) (hi:X.N[i]?=some x) (hx:Loc X.env.scope x) (r:RelV v u)
  (h:∀ s',Inv X pins (σ.set i (some v)) H s'->Q () s') (hf:X.fn x=true\/X.env.scope.names.lookup x=some .local:=by first | exact .inl rfl | exact .inr rfl | assumption):wpAny M A (storeName X.env x u) Q E s:=
 ziZ I hN hi hx r (λs' I' _=>h s' I') hf
theorem Inv.call' {s':Shared} {ch:List Addr} (I:Inv X pins σ H s) (ho:s'.os=s.os) (u:Un (frs X.stack) ch H H' s.heap s'.heap) (hok:HOk X.prog X.w H' s'.heap) (hg:AllBare s'.gens)
  (hch:∀ b∈ch,(b∈X.ex\/X.s₀.heap.objs.size<=b)/\b≠X.env.locals/\(∀ x c,X.env.cells.lookup x=some c->c≠b)/\∀ p∈X.pn++pins,p.1≠b):Inv X pins σ H' s':=by
 obtain ⟨h',g',d',t',o'⟩:=s'
 have e:o'=s.os:=ho
 subst e
 exact I.call (g':=g') (t':=t') (d':=d') u hok hg hch
end
noncomputable abbrev XK:=Value->Option Addr->Hp->Prop
noncomputable abbrev St:=List (Option V)
noncomputable abbrev VK:=V->Hp->Prop
noncomputable abbrev TE:=St->Hp->VK->Prop
noncomputable abbrev TT:=St->Hp->(Bool->Hp->Prop)->Prop
noncomputable abbrev TA:=St->Hp->(List V->Hp->Prop)->Prop
structure Ends where
 nx:St->Hp->Prop
 rt:VK
 bk:St->Hp->Prop:=λ_ _=>False
 ct:St->Hp->Prop:=λ_ _=>False
noncomputable abbrev TS:=Ends->St->Hp->Prop
inductive EP (X:Cx) (pins:List (Addr×Obj)) (σ:St) (Q:VK) (u:Value) (s':Shared):Prop where
 | mk (v:V) (H':Hp) (I:Inv X pins σ H' s') (r:RelV v u) (q:Q v H')
inductive TP (X:Cx) (pins:List (Addr×Obj)) (σ:St) (Q:Bool->Hp->Prop) (b:Bool) (s':Shared):Prop where
 | mk (H':Hp) (I:Inv X pins σ H' s') (q:Q b H')
inductive AP (X:Cx) (pins:List (Addr×Obj)) (σ:St) (Q:List V->Hp->Prop) (us:List Value) (s':Shared):Prop where
 | mk (vs:List V) (H':Hp) (I:Inv X pins σ H' s') (r:Vals vs us) (q:Q vs H')
noncomputable def SP (X:Cx) (pins:List (Addr×Obj)) (D:Ends) (f:Flow) (s':Shared):Prop:=
 match f with
 | .next=>∃ σ' H',Inv X pins σ' H' s'/\D.nx σ' H'
 | .brk=>∃ σ' H',Inv X pins σ' H' s'/\D.bk σ' H'
 | .cont=>∃ σ' H',Inv X pins σ' H' s'/\D.ct σ' H'
 | .ret u=>∃ v σ' H',Inv X pins σ' H' s'/\RelV v u/\D.rt v H'
noncomputable def PE (X:Cx) (e:Expr) (t:TE):Prop:=
 ∀ (pins:List (Addr×Obj)) (s:Shared) (σ:St) (H:Hp) (Q:VK),Inv X pins σ H s->t σ H Q->wpAny (model X.prog X.w) X.A (eval e X.env) (EP X pins σ Q) X.xe s
noncomputable def PT (X:Cx) (e:Expr) (t:TT):Prop:=
 ∀ (pins:List (Addr×Obj)) (s:Shared) (σ:St) (H:Hp) (Q:Bool->Hp->Prop),Inv X pins σ H s->t σ H Q->wpAny (model X.prog X.w) X.A (isTrue e X.env (eval e X.env)) (TP X pins σ Q) X.xe s
noncomputable def PW (X:Cx) (e:Expr) (t:TT):Prop:=
 ∀ (whole:Sem Value) (pins:List (Addr×Obj)) (s:Shared) (σ:St) (H:Hp) (Q:Bool->Hp->Prop),Inv X pins σ H s->t σ H Q->wpAny (model X.prog X.w) X.A (isTrue e X.env whole) (TP X pins σ Q) X.xe s
theorem PW.pt {X:Cx} {e:Expr} {t:TT} (h:PW X e t):PT X e t:=h _
noncomputable def PA (X:Cx) (es:List Expr) (t:TA):Prop:=
 ∀ (pos:Pos) (pins:List (Addr×Obj)) (s:Shared) (σ:St) (H:Hp) (Q:List V->Hp->Prop),Inv X pins σ H s->t σ H Q->wpAny (model X.prog X.w) X.A (spliced (backTo pos (starEach es X.env))) (AP X pins σ Q) X.xe s
noncomputable def PS (X:Cx) (st:Stmt) (t:TS):Prop:=
 ∀ (pins:List (Addr×Obj)) (s:Shared) (σ:St) (H:Hp) (D:Ends),Inv X pins σ H s->t D σ H->wpAny (model X.prog X.w) X.A (exec st X.env) (SP X pins D) X.xe s
noncomputable def PSs (X:Cx) (st:List Stmt) (t:TS):Prop:=
 ∀ (pins:List (Addr×Obj)) (s:Shared) (σ:St) (H:Hp) (D:Ends),Inv X pins σ H s->t D σ H->wpAny (model X.prog X.w) X.A (execs st X.env) (SP X pins D) X.xe s
theorem thn {α:Type} {t:Sem α} {Q Q':α->Shared->Prop} {M:Model} {A:Around} {E:Value->Shared->Prop} {s:Shared} (h:wpAny M A t Q E s) (hQ:∀ a s,Q a s->Q' a s):wpAny M A t Q' E s:=wpAny_mono h hQ λ_ _ x=>x
end L2
namespace L2
open PySem PySem.Spec PyProof.Rows
section
variable {X:Cx}
theorem bin {a b:Expr} {ta tb:TE} (ha:PE X a ta) (hb:PE X b tb) {pins:List (Addr×Obj)} {s:Shared} {σ:St} {H:Hp} {R:V->V->Hp->Prop} (I:Inv X pins σ H s) (h:ta σ H λx H1=>tb σ H1 λy H2=>R x y H2)
  {α:Type} {Q:α->Shared->Prop} {f:Value->Value->Sem α}
  (hf:∀ v u s2 x y H2,Inv X pins σ H2 s2->RelV x v->RelV y u->R x y H2->wpAny (model X.prog X.w) X.A (f v u) Q X.xe s2) :
  wpAny (model X.prog X.w) X.A (eval a X.env) (λv s₁=>wpAny (model X.prog X.w) X.A (eval b X.env) (λu s₂=>wpAny (model X.prog X.w) X.A (f v u) Q X.xe s₂) X.xe s₁) X.xe s:=by
 refine thn (ha pins s σ H _ I h) λv s1 ⟨x,H1,I1,r1,q1⟩=>?_
 refine thn (hb pins s1 σ H1 _ I1 q1) λu s2 ⟨y,H2,I2,r2,q2⟩=>?_
 exact hf v u s2 x y H2 I2 r1 r2 q2
noncomputable def tVar (i:Nat):TE:=λσ H Q=>∃ v,σ[i]?=some (some v)/\Q v H
noncomputable def tC (v:V):TE:=λ_ H Q=>Q v H
theorem zoG {i:Nat} {x:Str} {pos:Pos} (hN:X.N[i]?=some x) (hv:Vis X.env.scope x) (hd:(x==("__debug__":Str))=false:=by decide) (hcd:(x==("__classdict__":Str))=false:=by decide):PE X (.Name x pos) (tVar i):=by
 intro pins s σ H Q I h
 obtain ⟨v,e,h⟩:=h
 obtain ⟨m,hn,hl⟩:=I.loc
 obtain ⟨u,r,l⟩:=hl i x v hN e hv
 have fin:EP X pins σ Q u s:=⟨v,H,I,r,h⟩
 rcases l with ⟨hk,hm⟩ | ⟨hk,c,hc,hcell⟩
 ·exact wpAny_Name (wpAny_loadName_local I.ok.kind hk hn hm fin) hd
 ·rcases hk with hk | hk
  ·exact wpAny_Name (wpAny_loadName_cell I.ok.kind hk hc hcell fin) hd
  ·exact wpAny_Name (wpAny_loadName_free I.ok.kind hk hc hcell fin hcd) hd
theorem zlB {i j pos}:PE X (.Constant (.int i) j pos) (tC (.int i)):=λ_ _ _ H _ I h=>wpAny_Constant_int ⟨.int i,H,I.tok _,⟨_,rfl⟩,h⟩
theorem zpz {b j pos}:PE X (.Constant (.bool b) j pos) (tC (.bl b)):=λ_ _ _ H _ I h=>Constant_bool ⟨.bl b,H,I,rfl,h⟩
theorem zoO {j pos}:PE X (.Constant .none j pos) (tC .non):=λ_ _ _ H _ I h=>Constant_none ⟨.non,H,I,rfl,h⟩
theorem znJ {x j pos}:PE X (.Constant (.str x) j pos) (tC (.str x)):=λ_ _ _ H _ I h=>Calls.Constant_str ⟨.str x,H,I.tok _,⟨_,rfl⟩,h⟩
noncomputable def Gl (X:Cx) (x:Str):Prop:=X.env.kindOf x=some .globalImplicit
theorem zjT {E:Value->Shared->Prop} {pins:List (Addr×Obj)} {s:Shared} {σ:St} {H:Hp} {x:Str} {u:Value} {pos:Pos} {Q:Value->Shared->Prop} (I:Inv X pins σ H s) (hg:Gl X x) (hm:X.mg x=some u) (h:Q u s)
  (hd:(x==("__debug__":Str))=false:=by decide):wpAny (model X.prog X.w) X.A (eval (.Name x pos) X.env) Q E s:=
 Calls.Name_function_global I.ok.kind hg (Calls.loadGlobal_global (by rw [I.ok.glob];exact I.mod.glob.keeps I.bk) hm h) hd
theorem zhk {E:Value->Shared->Prop} {pins:List (Addr×Obj)} {s:Shared} {σ:St} {H:Hp} {x:Str} {u:Value} {pos:Pos} {Q:Value->Shared->Prop} (I:Inv X pins σ H s) (hg:Gl X x) (hm:X.mg x=none) (hv:bootBuiltins x=some u) (h:Q u s)
  (hn:x ≠ "__name__":=by decide) (hd:(x==("__debug__":Str))=false:=by decide):wpAny (model X.prog X.w) X.A (eval (.Name x pos) X.env) Q E s:=by
 obtain ⟨mb,h1,h2⟩:=I.mod.blt
 exact Calls.Name_function_global I.ok.kind hg (Calls.loadGlobal_builtin (by rw [I.ok.glob];exact I.mod.glob.keeps I.bk) hm (by rw [I.ok.blt];exact h1.keeps I.bk) ((h2 x hn).trans hv) h) hd
theorem zmV {x:Str} {v:V} {u:Value} {pos:Pos} (hg:Gl X x) (hm:X.mg x=some u) (r:RelV v u) (hd:(x==("__debug__":Str))=false:=by decide):PE X (.Name x pos) (tC v):=
 fun _ _ _ H _ I h=>zjT I hg hm ⟨v,H,I,r,h⟩ hd
theorem zmR {x:Str} {v:V} {u:Value} {pos:Pos} (hg:Gl X x) (hm:X.mg x=none) (hv:bootBuiltins x=some u) (r:RelV v u) (hn:x ≠ "__name__":=by decide) (hd:(x==("__debug__":Str))=false:=by decide):PE X (.Name x pos) (tC v):=
 fun _ _ _ H _ I h=>zhk I hg hm hv ⟨v,H,I,r,h⟩ hn hd
noncomputable def t2I (ta tb:TE) (k:Int->Int->Hp->Prop):St->Hp->Prop:=λσ H=>ta σ H λx H1=>tb σ H1 λy H2=>∃ i j,x=.int i/\y=.int j/\k i j H2
variable {a b:Expr} {ta tb:TE} {pos:Pos}
noncomputable def tCmp (p:Int->Int->Bool) (ta tb:TE):TE:=λσ H Q=>t2I ta tb (λi j H2=>Q (.bl (p i j)) H2) σ H
noncomputable abbrev tGe:TE->TE->TE:=tCmp λi j=>decide (j<=i)
variable {tA tB':TT} {rest:List Expr}
noncomputable def tAnd (t u:TT):TT:=λσ H Q=>t σ H λc H1=>if c=true then u σ H1 Q else Q false H1
noncomputable def tOr (t u:TT):TT:=λσ H Q=>t σ H λc H1=>if c=true then Q true H1 else u σ H1 Q
noncomputable def tNot (t:TT):TT:=λσ H Q=>t σ H λc H1=>Q (!c) H1
theorem zno (ha:PT X a tA):PW X (.BoolOp .And [a] pos) tA:=by
 intro wh pins s σ H Q I h
 refine isTrue_and (thn (ha pins s σ H Q I h) λc s1 e=>?_)
 cases c with
 | true=>exact isTrue_and_nil e
 | false=>exact e
theorem znL (ha:PT X a tA):PW X (.BoolOp .Or [a] pos) tA:=by
 intro wh pins s σ H Q I h
 refine isTrue_or (thn (ha pins s σ H Q I h) λc s1 e=>?_)
 cases c with
 | false=>exact isTrue_or_nil e
 | true=>exact e
theorem zom (ha:PT X a tA) (hb:PW X (.BoolOp .And (b::rest) pos) tB'):PW X (.BoolOp .And (a::b::rest) pos) (tAnd tA tB'):=by
 intro wh pins s σ H Q I h
 refine isTrue_and (thn (ha pins s σ H _ I h) λc s1 ⟨H1,I1,q1⟩=>?_)
 cases c with
 | true=>exact hb wh pins s1 σ H1 Q I1 q1
 | false=>exact ⟨H1,I1,q1⟩
theorem zpT (ha:PT X a tA) (hb:PW X (.BoolOp .Or (b::rest) pos) tB'):PW X (.BoolOp .Or (a::b::rest) pos) (tOr tA tB'):=by
 intro wh pins s σ H Q I h
 refine isTrue_or (thn (ha pins s σ H _ I h) λc s1 ⟨H1,I1,q1⟩=>?_)
 cases c with
 | true=>exact ⟨H1,I1,q1⟩
 | false=>exact hb wh pins s1 σ H1 Q I1 q1
theorem znK (ha:PT X a tA):PT X (.UnaryOp .Not a pos) (tNot tA):=by
 intro pins s σ H Q I h
 exact isTrue_not (thn (ha pins s σ H (λc H1=>Q (!c) H1) I h) λ_ _ ⟨H1,I1,q1⟩=>⟨H1,I1,q1⟩)
noncomputable def zps (ta tb:TE):TE:=λσ H Q=>ta σ H λx H1=>∃ c,x=.bl c/\if c=true then tb σ H1 Q else Q (.bl false) H1
noncomputable def tOrV (ta tb:TE):TE:=λσ H Q=>ta σ H λx H1=>∃ c,x=.bl c/\if c=true then Q (.bl true) H1 else tb σ H1 Q
theorem zlI {op} {t:TE} (h:PE X a t):PE X (.BoolOp op [a] pos) t:=λpins s σ H Q I hw=>BoolOp_one (h pins s σ H Q I hw)
theorem zoQ (ha:PE X a ta) (hb:PE X (.BoolOp .And (b::rest) pos) tb):PE X (.BoolOp .And (a::b::rest) pos) (zps ta tb):=by
 intro pins s σ H Q I h
 refine BoolOp_and (thn (ha pins s σ H _ I h) λv s1 ⟨x,H1,I1,r1,q1⟩=>?_)
 obtain ⟨c,rfl,q1⟩:=q1
 cases r1
 refine wpAny_truthy_bool ?_
 cases c with
 | true=>exact hb pins s1 σ H1 Q I1 q1
 | false=>exact ⟨.bl false,H1,I1,rfl,q1⟩
theorem zpR (ha:PE X a ta) (hb:PE X (.BoolOp .Or (b::rest) pos) tb):PE X (.BoolOp .Or (a::b::rest) pos) (tOrV ta tb):=by
 intro pins s σ H Q I h
 refine BoolOp_or (thn (ha pins s σ H _ I h) λv s1 ⟨x,H1,I1,r1,q1⟩=>?_)
 obtain ⟨c,rfl,q1⟩:=q1
 cases r1
 refine wpAny_truthy_bool ?_
 cases c with
 | false=>exact hb pins s1 σ H1 Q I1 q1
 | true=>exact ⟨.bl true,H1,I1,rfl,q1⟩
noncomputable def tIf (t:TT) (ta tb:TE):TE:=λσ H Q=>t σ H λc H1=>if c=true then ta σ H1 Q else tb σ H1 Q
theorem zld {c:Expr} (hc:PT X c tA) (ha:PE X a ta) (hb:PE X b tb):PE X (.IfExp c a b pos) (tIf tA ta tb):=by
 intro pins s σ H Q I h
 refine wpAny_IfExp (thn (hc pins s σ H _ I h) λd s1 ⟨H1,I1,q1⟩=>?_)
 cases d with
 | true=>exact ha pins s1 σ H1 Q I1 q1
 | false=>exact hb pins s1 σ H1 Q I1 q1
end
end L2
namespace L2
open PySem PySem.Spec PyProof.Rows
noncomputable def SqL (K:PySem.W.Frag) (H:Hp) (a:Addr) (xs:List V):Prop:=
 Rd H a (.lst xs) ∨
  ∃ (o:Obj) (its:Array Value) (n:Nat),K.lookup a=some o/\o.cls=.type "list"/\o.dict=none/\o.data=.seq its n/\its.size<=sizeLine/\Vals xs its.toList
noncomputable def SqT (K:PySem.W.Frag) (H:Hp) (a:Addr) (xs:List V):Prop:=
 Rd H a (.tup xs) ∨
  ∃ (o:Obj) (its:Array Value) (n:Nat),K.lookup a=some o/\o.cls=.type "tuple"/\o.dict=none/\o.data=.seq its n/\its.size<=sizeLine/\Vals xs its.toList
noncomputable def absV:Value->Option V
 | .none=>some .non
 | .bool b=>some (.bl b)
 | .int i _=>some (.int i)
 | .str x _=>some (.str x)
 | .bytes b _=>some (.byt b)
 | .float b _=>some (.flt b)
 | .ref a=>some (.ref a)
 | .type n=>some (.ty n)
 | _=>none
theorem RelV.abs {x:V} {u:Value} (r:RelV x u):absV u=some x:=by
 cases x with
 | non=>cases r;rfl
 | bl _=>cases r;rfl
 | int _=>obtain ⟨t,rfl⟩:=r;rfl
 | str _=>obtain ⟨t,rfl⟩:=r;rfl
 | byt _=>obtain ⟨t,rfl⟩:=r;rfl
 | flt _=>obtain ⟨t,rfl⟩:=r;rfl
 | ref _=>cases r;rfl
 | ty _=>cases r;rfl
theorem RelV.inj {x y:V} {u:Value} (r:RelV x u) (q:RelV y u):x=y:=Option.some.inj (r.abs.symm.trans q.abs)
theorem Vals.inj:∀ {xs ys:List V} {us:List Value},Vals xs us->Vals ys us->xs=ys
 | _,_,_,.nil,.nil=>rfl
 | _,_,_,.cons r t,.cons r' t'=>by rw [r.inj r',Vals.inj t t']
section
variable {X:Cx} {pins:List (Addr×Obj)} {σ:St} {H:Hp} {s:Shared} {a:Addr} {xs ys:List V}
theorem SqL.of {K:PySem.W.Frag} (h:H a=some (.lst xs)):SqL K H a xs:=.inl (.inl h)
theorem SqT.of {K:PySem.W.Frag} (h:H a=some (.tup xs)):SqT K H a xs:=.inl (.inl h)
theorem Inv.list (I:Inv X pins σ H s) (h:SqL X.K H a xs):∃ its:List Value,Vals xs its/\PlainL s.heap a its.toArray/\xs.length<=sizeLine:=by
 rcases h with h | ⟨o,its,n,hk,hc,hd,hs,hz,r⟩
 ·obtain ⟨z,its,n,r,e⟩:=h.ok I.hok
  exact ⟨its,r,⟨_,n,e,rfl,rfl,rfl⟩,z⟩
 ·refine ⟨its.toList,r,⟨o,n,I.kIn a o hk,hc,hd,by simpa using hs⟩,?_⟩
  have e:=r.length
  simp only [Array.length_toList] at e
  omega
theorem Inv.tuple (I:Inv X pins σ H s) (h:SqT X.K H a xs):∃ its:List Value,Vals xs its/\IsTup s.heap a its.toArray/\xs.length<=sizeLine:=by
 rcases h with h | ⟨o,its,n,hk,hc,_,hs,hz,r⟩
 ·obtain ⟨z,its,r,p⟩:=h.ok I.hok
  exact ⟨its,r,p.1,z⟩
 ·refine ⟨its.toList,r,⟨o,I.kIn a o hk,hc,n,by simpa using hs⟩,?_⟩
  have e:=r.length
  simp only [Array.length_toList] at e
  omega
theorem Inv.tupleB (I:Inv X pins σ H s) (h:SqT X.K H a xs):∀ o,s.heap.get? a=some o->o.dict=none:=by
 rcases h with h | ⟨o,its,n,hk,hc,hd,hs,hz,r⟩
 ·obtain ⟨z,its,r,p⟩:=h.ok I.hok
  exact p.2
 ·intro o2 e2
  rw [I.kIn a o hk] at e2
  cases e2
  exact hd
theorem Inv.list_inj (I:Inv X pins σ H s) (h:SqL X.K H a xs) (h':SqL X.K H a ys):xs=ys:=by
 obtain ⟨its,r,⟨o,n,e,_,_,d⟩,_⟩:=I.list h
 obtain ⟨its',r',⟨o',n',e',_,_,d'⟩,_⟩:=I.list h'
 rw [e] at e';cases e'
 rw [d] at d'
 injection d' with d1 _
 have:its=its':=by simpa using congrArg Array.toList d1
 subst this
 exact r.inj r'
theorem Inv.tuple_inj (I:Inv X pins σ H s) (h:SqT X.K H a xs) (h':SqT X.K H a ys):xs=ys:=by
 obtain ⟨its,r,⟨o,e,_,n,d⟩,_⟩:=I.tuple h
 obtain ⟨its',r',⟨o',e',_,n',d'⟩,_⟩:=I.tuple h'
 rw [e] at e';cases e'
 rw [d] at d'
 injection d' with d1 _
 have:its=its':=by simpa using congrArg Array.toList d1
 subst this
 exact r.inj r'
end
noncomputable abbrev Cx.wish (X:Cx) (E:Value->Shared->Prop):Cx:={ X with xe:=E }
noncomputable abbrev Cx.nox (X:Cx):Cx:=X.wish λ_ _=>False
theorem Cx.Ok.wish {X:Cx} (ok:X.Ok) (E:Value->Shared->Prop):(X.wish E).Ok:=
 ⟨ok.mod,ok.kind,ok.glob,ok.blt,ok.above,ok.inj,ok.has,ok.cab,ok.hd,ok.frames,ok.stk,ok.exf,ok.bs,ok.bsz,ok.noex,ok.exfs,ok.funs,ok.frf⟩
theorem Cx.Ok.unwish {X:Cx} {E:Value->Shared->Prop} (ok:(X.wish E).Ok):X.Ok:=
 ⟨ok.mod,ok.kind,ok.glob,ok.blt,ok.above,ok.inj,ok.has,ok.cab,ok.hd,ok.frames,ok.stk,ok.exf,ok.bs,ok.bsz,ok.noex,ok.exfs,ok.funs,ok.frf⟩
section
variable {X:Cx} {pins:List (Addr×Obj)} {σ:St} {H:Hp} {s:Shared} {E:Value->Shared->Prop}
theorem Inv.wish (I:Inv X pins σ H s) (E:Value->Shared->Prop):Inv (X.wish E) pins σ H s:=⟨I.ok.wish E,I.os,I.bare,I.base,I.loc,I.cell,I.free,I.freeC,I.pin,I.hok,I.len⟩
theorem Inv.unwish (I:Inv (X.wish E) pins σ H s):Inv X pins σ H s:=⟨I.ok.unwish,I.os,I.bare,I.base,I.loc,I.cell,I.free,I.freeC,I.pin,I.hok,I.len⟩
theorem SP.unwish {D:Ends} {f:Flow} {s':Shared} (h:SP (X.wish E) pins D f s'):SP X pins D f s':=by
 cases f with
 | next=>obtain ⟨σ',H',I,q⟩:=h;exact ⟨σ',H',I.unwish,q⟩
 | brk=>obtain ⟨σ',H',I,q⟩:=h;exact ⟨σ',H',I.unwish,q⟩
 | cont=>obtain ⟨σ',H',I,q⟩:=h;exact ⟨σ',H',I.unwish,q⟩
 | ret u=>obtain ⟨v,σ',H',I,r,q⟩:=h;exact ⟨v,σ',H',I.unwish,r,q⟩
theorem PE.nox {e:Expr} {t:TE} (h:PE X.nox e t):PE X e t:=λpins s σ H Q I hw=>
 wpAny_mono (h pins s σ H Q (I.wish _) hw) (λ_ _ ⟨v,H',I',r,q⟩=>⟨v,H',I'.unwish,r,q⟩) λ_ _ z=>False.elim z
theorem PT.nox {e:Expr} {t:TT} (h:PT X.nox e t):PT X e t:=λpins s σ H Q I hw=>
 wpAny_mono (h pins s σ H Q (I.wish _) hw) (λ_ _ ⟨H',I',q⟩=>⟨H',I'.unwish,q⟩) λ_ _ z=>False.elim z
theorem PSs.nox {st:List Stmt} {t:TS} (h:PSs X.nox st t):PSs X st t:=λpins s σ H D I hw=>
 wpAny_mono (h pins s σ H D (I.wish _) hw) (λ_ _ q=>q.unwish) λ_ _ z=>False.elim z
end
section
variable {X:Cx} {st:Stmt} {rest:List Stmt} {t u:TS} {e:Expr} {te:TE} {pos:Pos}
noncomputable def zpI:TS:=λD σ H=>D.nx σ H
noncomputable def tSeq (t u:TS):TS:=λD σ H=>t { D with nx:=u D } σ H
theorem zmC:PSs X [] zpI:=λ_ _ σ H _ I h=>wpAny_execs_nil ⟨σ,H,I,h⟩
theorem zka (h1:PS X st t) (h2:PSs X rest u):PSs X (st::rest) (tSeq t u):=by
 intro pins s σ H D I h
 refine wpAny_execs_cons (thn (h1 pins s σ H { D with nx:=u D } I h) λf s1 q=>?_)
 cases f with
 | next=>
  obtain ⟨σ',H',I',q⟩:=q
  exact h2 pins s1 σ' H' D I' q
 | ret v=>exact q
 | brk=>exact q
 | cont=>exact q
theorem Inv.quiet {pins:List (Addr×Obj)} {σ:St} {H:Hp} {s:Shared} (I:Inv X pins σ H s):interactive X.env=false:=by simp [interactive,I.ok.kind]
noncomputable def zqe (te:TE):TS:=λD σ H=>te σ H λ_ H1=>D.nx σ H1
theorem zmT (he:PE X e te) (hs:swapsWith e none pos.line X.env=pure false:=by rfl):PS X (.Expr e pos) (zqe te):=by
 intro pins s σ H D I h
 exact wpAny_Expr_any (thn (he pins s σ H _ I h) λv s1 ⟨x,H1,I1,r1,q1⟩=>⟨σ,H1,I1,q1⟩) I.quiet hs
noncomputable def tRet (te:TE):TS:=λD σ H=>te σ H D.rt
theorem zoZ (he:PE X e te):PS X (.Return (some e) pos) (tRet te):=by
 intro pins s σ H D I h
 exact wpAny_Return_some (thn (he pins s σ H _ I h) λv s1 ⟨x,H1,I1,r1,q1⟩=>⟨x,σ,H1,I1,r1,q1⟩)
noncomputable def tIfS (c:TT) (t u:TS):TS:=λD σ H=>c σ H λb H1=>if b=true then t D σ H1 else u D σ H1
theorem zp3 {c:Expr} {a b:List Stmt} {tc:TT} (hc:PT X c tc) (ha:PSs X a t) (hb:PSs X b u):PS X (.If c a b pos) (tIfS tc t u):=by
 intro pins s σ H D I h
 refine wpAny_If (thn (hc pins s σ H _ I h) λd s1 ⟨H1,I1,q1⟩=>?_)
 cases d with
 | true=>exact ha pins s1 σ H1 D I1 q1
 | false=>exact hb pins s1 σ H1 D I1 q1
end
noncomputable abbrev TG:=V->St->Hp->(St->Hp->Prop)->Prop
noncomputable abbrev TGs:=List V->St->Hp->(St->Hp->Prop)->Prop
noncomputable def PG (X:Cx) (target:Expr) (t:TG):Prop:=
 ∀ (pins:List (Addr×Obj)) (s:Shared) (σ:St) (H:Hp) (v:V) (u:Value) (Q:St->Hp->Prop),Inv X pins σ H s->RelV v u->t v σ H Q →
  wpAny (model X.prog X.w) X.A (assign target X.env u) (λ_ s'=>∃ σ' H',Inv X pins σ' H' s'/\Q σ' H') X.xe s
noncomputable def PGs (X:Cx) (ts:List Expr) (t:TGs):Prop:=
 ∀ (pins:List (Addr×Obj)) (s:Shared) (σ:St) (H:Hp) (vs:List V) (us:List Value) (Q:St->Hp->Prop),Inv X pins σ H s->Vals vs us->t vs σ H Q →
  wpAny (model X.prog X.w) X.A (assignInOrder ((assignEach ts X.env).map (·.2)) us) (λ_ s'=>∃ σ' H',Inv X pins σ' H' s'/\Q σ' H') X.xe s
noncomputable abbrev TSet:=V->V->V->Hp->(Hp->Prop)->Prop
noncomputable def PSet (X:Cx) (t:TSet):Prop:=
 ∀ (pins:List (Addr×Obj)) (s:Shared) (σ:St) (H:Hp) (o i v:V) (ov iv u:Value) (Q:Hp->Prop),Inv X pins σ H s->RelV o ov->RelV i iv->RelV v u->t o i v H Q →
  wpAny (model X.prog X.w) X.A (setItem ov iv u) (λ_ s'=>∃ H',Inv X pins σ H' s'/\Q H') X.xe s
section
variable {X:Cx} {pos:Pos}
noncomputable def zkR (i:Nat):TG:=λv σ H Q=>Q (σ.set i (some v)) H
theorem zjY {i:Nat} {x:Str} (hN:X.N.Nodup) (hi:X.N[i]?=some x) (hx:Loc X.env.scope x) (hf:X.fn x=true\/X.env.scope.names.lookup x=some .local:=by first | exact .inl rfl | exact .inr rfl | assumption):PG X (.Name x pos) (zkR i):=by
 intro pins s σ H v u Q I r h
 exact wpAny_assign_Name (zkn I hN hi hx r (λs' I'=>⟨_,H,I',h⟩) hf)
noncomputable def gNil:TGs:=λvs σ H Q=>vs=[]/\Q σ H
noncomputable def zpP (t:TG) (u:TGs):TGs:=λvs σ H Q=>∃ v r,vs=v::r/\t v σ H λσ' H'=>u r σ' H' Q
theorem zir:PGs X [] gNil:=by
 intro pins s σ H vs us Q I r h
 obtain ⟨e,h⟩:=h
 subst e
 cases r
 exact assignInOrder_nil ⟨σ,H,I,h⟩
theorem ze5 {e:Expr} {es:List Expr} {t:TG} {u:TGs} (h1:PG X e t) (h2:PGs X es u)
  (hs:(assignEach (e::es) X.env).map (·.2)=assign e X.env::(assignEach es X.env).map (·.2):=by rfl):PGs X (e::es) (zpP t u):=by
 intro pins s σ H vs us Q I r h
 obtain ⟨v,vr,e1,h⟩:=h
 subst e1
 cases r with
 | cons r rr=>
  rw [hs]
  refine assignInOrder_cons (thn (h1 pins s σ H _ _ _ I r h) λ_ s1 ⟨σ1,H1,I1,q1⟩=>?_)
  exact h2 pins s1 σ1 H1 _ _ Q I1 rr q1
noncomputable def gTup (K:PySem.W.Frag) (n:Nat) (t:TGs):TG:=λv σ H Q=>∃ a xs,v=.ref a/\SqT K H a xs/\xs.length=n/\t xs σ H Q
theorem zlH {es:List Expr} {k:Nat} {t:TGs} {n:Nat} (hc:X.calm=true) (h:PGs X es t)
  (hn:(assignEach es X.env).length=n:=by rfl) (hst:(assignEach es X.env).findIdx? (·.1)=none:=by rfl):PG X (.Tuple es k pos) (gTup X.K n t):=by
 intro pins s σ H v u Q I r hw
 obtain ⟨a,xs,e1,hq,hl,hw⟩:=hw
 subst e1
 cases r
 obtain ⟨its,rv,ht,hz⟩:=I.tuple hq
 refine assign_Tuple_tuple (I.ok.hd hc) ht (by simp [hn,<-hl,rv.length]) hst λh' hx=>?_
 have I1:Inv X pins σ H { s with heap:=h' }:=I.kept (t':=s.toks) λb o e=>hx b o (Nat.ne_of_lt (Heap.lt_size e)) e
 exact h pins _ σ H xs _ Q I1 (by simpa using rv) hw
noncomputable def gSub (to ti:TE) (t:TSet):TG:=λv σ H Q=>to σ H λo H1=>ti σ H1 λi H2=>t o i v H2 λH3=>Q σ H3
theorem zoU {o i:Expr} {to ti:TE} {t:TSet} (ho:PE X o to) (hi:PE X i ti) (hs:PSet X t)
  (ha:∀ v,assign (.Subscript o i pos) X.env v=(do
   let ov<-holding [v] (eval o X.env)
   let iv<-holding [v,ov] (eval i X.env)
   standAt pos
   holding [v,ov,iv] (setItem ov iv v)
   release [v,ov,iv] []):=by intro _;rfl):PG X (.Subscript o i pos) (gSub to ti t):=by
 intro pins s σ H v u Q I r h
 rw [ha]
 refine wpAny_bind (wpAny_holding (thn (ho pins s σ H _ I h) λov s1 ⟨x,H1,I1,r1,q1⟩=>?_))
 refine wpAny_bind (wpAny_holding (thn (hi pins s1 σ H1 _ I1 q1) λiv s2 ⟨y,H2,I2,r2,q2⟩=>?_))
 refine wpAny_bind (wpAny_standAt (wpAny_bind (wpAny_holding (thn (hs pins s2 σ H2 x y v ov iv u _ I2 r1 r2 r q2) λ_ s3 ⟨H3,I3,q3⟩=>?_))))
 exact wpAny_release ⟨σ,H3,I3,q3⟩
noncomputable def tAsg (te:TE) (g:TG):TS:=λD σ H=>te σ H λx H1=>g x σ H1 D.nx
theorem ziH {tg e:Expr} {te:TE} {g:TG} (he:PE X e te) (hg:PG X tg g) (hs:swapsWithSole [tg] e pos.line X.env=pure false:=by rfl) (hw:swappedStores [tg] e X.env=pure none:=by rfl)
  (h1:(assignEach [tg] X.env).map (·.2)=[assign tg X.env]:=by rfl):PS X (.Assign [tg] e pos) (tAsg te g):=by
 intro pins s σ H D I h
 refine wpAny_Assign_stores (thn (he pins s σ H _ I h) λv s1 ⟨x,H1,I1,r1,q1⟩=>?_) hs hw
 rw [h1]
 exact thn (hg pins s1 σ H1 x v _ I1 r1 q1) λ_ s2 q=>q
end
section
variable {X:Cx} {pos:Pos}
end
structure It where
 go:Nat->Hp->Prop
 yld:Nat->Hp->V->Hp->Prop
 stop:Nat->Hp->Prop
noncomputable def FpOk (X:Cx) (pins:List (Addr×Obj)) (H:Hp) (b:Addr):Prop:=
 H b=none/\b≠X.env.locals/\b ∉ X.fs/\(b∈X.ex\/X.s₀.heap.objs.size<=b)/\(∀ x c,X.env.cells.lookup x=some c->c≠b)/\∀ p∈X.pn++pins,p.1≠b
theorem Inv.fpOk {X:Cx} {pins:List (Addr×Obj)} {σ:St} {H H':Hp} {s:Shared} {b:Addr} (I:Inv X pins σ H s) (hb:s.heap.objs.size<=b) (hn:H' b=none):FpOk X pins H' b:=by
 refine ⟨hn,Nat.ne_of_gt (Nat.lt_of_lt_of_le I.lt hb),I.nofs hb,.inr (Nat.le_trans I.sz hb),λx c e z=>?_,λp hp z=>?_⟩
 ·obtain ⟨v,q⟩:=I.cell x c e
  exact absurd (Nat.lt_of_lt_of_le q.lt (by rw [z];exact hb)) (Nat.lt_irrefl _)
 ·exact absurd (Nat.lt_of_lt_of_le (Heap.lt_size (I.pin p hp).1) (by rw [z];exact hb)) (Nat.lt_irrefl _)
structure Turn (P:Program) (w:World) (K:PySem.W.Frag) (tg:Expr) (J:It) (fp:List Addr) (it:Addr) (tn:Nat->Heap->Prop):Prop where
 mem:it∈fp
 obj:∀ i h,tn i h->∀ b∈fp,∃ o,h.get? b=some o/\∀ v,o.data≠.cell v
 keep:∀ i h h',tn i h->(∀ b∈fp,∀ o,h.get? b=some o->h'.get? b=some o)->tn i h'
 item:∀ (X:Cx),X.prog=P->X.w=w->X.K=K->X.calm=true->∀ (i:Nat) (pins:List (Addr×Obj)) (s:Shared) (σ:St) (H:Hp) (E:Value->Shared->Prop),Inv X pins σ H s->(∀ b∈fp,FpOk X pins H b)->tn i s.heap->J.go i H →
  wpAny (model P w) X.A (pyNext (.ref it)) (λr s1=>∃ u,r=some u ∧
   wpAny (model P w) X.A (letOwnedTupleGo tg (.ref it) u) (λ_ s2=>∃ x H',Inv X pins σ H' s2/\RelV x u/\J.yld i H x H'/\tn (i+1) s2.heap/\∀ b∈fp,H' b=none) E s1) E s
 done:∀ (X:Cx),X.prog=P->X.w=w->X.K=K->X.calm=true->∀ (i:Nat) (pins:List (Addr×Obj)) (s:Shared) (σ:St) (H:Hp) (E:Value->Shared->Prop),Inv X pins σ H s->(∀ b∈fp,FpOk X pins H b)->tn i s.heap->J.stop i H →
  wpAny (model P w) X.A (pyNext (.ref it)) (λr s1=>r=none/\Inv X pins σ H s1) E s
 self:∀ (A:Around) (i:Nat) (s:Shared) (Q:Value->Shared->Prop) (E:Value->Shared->Prop),tn i s.heap->Q (.ref it) s->wpAny (model P w) A (pyIter (.ref it)) Q E s
noncomputable abbrev TI:=St->Hp->(It->Hp->Prop)->Prop
noncomputable def PIE (X:Cx) (pins:List (Addr×Obj)) (σ:St) (tg:Expr) (R:It->Hp->Prop) (itv:Value) (s2:Shared):Prop:=
 ∃ (it:Addr) (fp:List Addr) (tn:Nat->Heap->Prop) (J:It) (H':Hp),itv=.ref it/\Inv X pins σ H' s2/\Turn X.prog X.w X.K tg J fp it tn/\tn 0 s2.heap/\(∀ b∈fp,FpOk X pins H' b)/\R J H'
noncomputable def PI (X:Cx) (tg iter:Expr) (wi:TI):Prop:=
 ∀ (pins:List (Addr×Obj)) (s:Shared) (σ:St) (H:Hp) (R:It->Hp->Prop),Inv X pins σ H s->wi σ H R →
  wpAny (model X.prog X.w) X.A (eval iter X.env) (λv s1=>wpAny (model X.prog X.w) X.A (pyIter v) (PIE X pins σ tg R) X.xe s1) X.xe s
theorem zky {M:Model} {A:Around} {E:Value->Shared->Prop} {s:Shared} {tg:Expr} {it:Addr} {u:Value} {o:Obj} {n:String} {vs:Array Value} {Q:Unit->Shared->Prop} (ho:s.heap.get? it=some o) (hc:o.cls=.type n) (hd:o.data=.fields vs)
    (hn:["enumerate", "zip", "dict_itemiterator", "dict_reverseitemiterator", "odict_iterator", "itertools.zip_longest", "itertools.pairwise"].contains n=false) (hQ:Q () s):wpAny M A (letOwnedTupleGo tg (.ref it) u) Q E s:=by
  unfold letOwnedTupleGo
  cases tg <;> first
    | exact wpAny_pure hQ
    | (cases u<;>first
        | exact wpAny_pure hQ
        | (refine wpAny_bind (wpAny_load ho ?_)
           rw [hc,hd]
           show wpAny M A (if (["enumerate", "zip", "dict_itemiterator", "dict_reverseitemiterator", "odict_iterator", "itertools.zip_longest", "itertools.pairwise"].contains n&&vs[0]?==some (rawInt _))=true then _ else _) Q E s
           rw [if_neg (by intro h;rw [hn,Bool.false_and] at h;cases h)]
           exact wpAny_pure hQ))
noncomputable def Itl (K:PySem.W.Frag) (a:Addr):It:=
 ⟨λi H=>∃ xs x,SqL K H a xs/\xs[i]?=some x,λi H x H'=>H'=H/\∀ xs,SqL K H a xs->xs[i]?=some x,λi H=>∃ xs,SqL K H a xs/\xs.length<=i⟩
noncomputable def Itt (K:PySem.W.Frag) (a:Addr):It:=
 ⟨λi H=>∃ xs x,SqT K H a xs/\xs[i]?=some x,λi H x H'=>H'=H/\∀ xs,SqT K H a xs->xs[i]?=some x,λi H=>∃ xs,SqT K H a xs/\xs.length<=i⟩
noncomputable def Itr (lo:Int) (n:Nat):It:=⟨λi _=>i<n,λi H x H'=>H'=H/\x=.int (lo+i),λi _=>n<=i⟩
theorem zjI {P:Program} {w:World} {K:PySem.W.Frag} {tg:Expr} (a it:Addr):Turn P w K tg (Itl K a) [it] it (λi h=>h.IsListIter it a i) where
 mem:=by simp
 obj:=λi h st b hb=>by
  have e:b=it:=by simpa using hb
  subst e
  obtain ⟨o,e,c,d⟩:=st
  exact ⟨o,e,λv z=>by rw [d] at z;cases z⟩
 keep:=λi h h' st k=>st.at λo e=>k it (by simp) o e
 item:=by
  intro X hP hw hK hc i pins s σ H E I hf st hg
  subst hP hw hK
  obtain ⟨xs,x,hq,hx⟩:=hg
  obtain ⟨its,rv,p,hz⟩:=I.list hq
  obtain ⟨u,hu,ru⟩:=rv.get hx
  obtain ⟨f0,f1,f2,f3,f4,f5⟩:=hf it (by simp)
  refine wpAny_pyNext_list_item st p.isList (x:=u) (by simpa using hu) λh' st' sb=>?_
  have I1:Inv X pins σ H { s with heap:=h' }:=I.turned (t':=s.toks) (λb o hb e=>(sb.2 b hb).trans e) f0 f1 f3 f4 f5
  obtain ⟨o,e,c,d⟩:=id st'
  exact ⟨u,rfl,zky (s:={ s with heap:=h' }) e c d (by decide) ⟨x,H,I1,ru,⟨rfl,λys hy=>by rw [I.list_inj hy hq];exact hx⟩,st',λb hb=>(hf b hb).1⟩⟩
 done:=by
  intro X hP hw hK hc i pins s σ H E I hf st hg
  subst hP hw hK
  obtain ⟨xs,hq,hx⟩:=hg
  obtain ⟨its,rv,p,hz⟩:=I.list hq
  obtain ⟨f0,f1,f2,f3,f4,f5⟩:=hf it (by simp)
  have hl:=rv.length
  exact wpAny_pyNext_list_end (I.ok.hd hc) st p.isList (by simp;omega) λh' eb=>⟨rfl,I.turned (t':=s.toks) (λb o hb e=>eb b o hb e) f0 f1 f3 f4 f5⟩
 self:=λ_ _ _ _ _ st h=>wpAny_pyIter_listiter st h
theorem zhw {P:Program} {w:World} {K:PySem.W.Frag} {tg:Expr} (a it:Addr):Turn P w K tg (Itt K a) [it] it (λi h=>h.IsTupleIter it a i) where
 mem:=by simp
 obj:=λi h st b hb=>by
  have e:b=it:=by simpa using hb
  subst e
  obtain ⟨o,e,c,d⟩:=st
  exact ⟨o,e,λv z=>by rw [d] at z;cases z⟩
 keep:=λi h h' st k=>st.at λo e=>k it (by simp) o e
 item:=by
  intro X hP hw hK hc i pins s σ H E I hf st hg
  subst hP hw hK
  obtain ⟨xs,x,hq,hx⟩:=hg
  obtain ⟨its,rv,p,hz⟩:=I.tuple hq
  obtain ⟨u,hu,ru⟩:=rv.get hx
  obtain ⟨f0,f1,f2,f3,f4,f5⟩:=hf it (by simp)
  refine wpAny_pyNext_tuple_item st (show s.heap.IsTuple a its.toArray from p) (x:=u) (by simpa using hu) λh' st' sb=>?_
  have I1:Inv X pins σ H { s with heap:=h' }:=I.turned (t':=s.toks) (λb o hb e=>(sb.2 b hb).trans e) f0 f1 f3 f4 f5
  obtain ⟨o,e,c,d⟩:=id st'
  exact ⟨u,rfl,zky (s:={ s with heap:=h' }) e c d (by decide) ⟨x,H,I1,ru,⟨rfl,λys hy=>by rw [I.tuple_inj hy hq];exact hx⟩,st',λb hb=>(hf b hb).1⟩⟩
 done:=by
  intro X hP hw hK hc i pins s σ H E I hf st hg
  subst hP hw hK
  obtain ⟨xs,hq,hx⟩:=hg
  obtain ⟨its,rv,p,hz⟩:=I.tuple hq
  obtain ⟨f0,f1,f2,f3,f4,f5⟩:=hf it (by simp)
  have hl:=rv.length
  exact wpAny_pyNext_tuple_end (I.ok.hd hc) st (show s.heap.IsTuple a its.toArray from p) (by simp;omega) λh' eb=>⟨rfl,I.turned (t':=s.toks) (λb o hb e=>eb b o hb e) f0 f1 f3 f4 f5⟩
 self:=λ_ _ _ _ _ st h=>wpAny_pyIter_tupleiter st h
theorem zhD {P:Program} {w:World} {K:PySem.W.Frag} {tg:Expr} (it:Addr) (lo:Int) (n:Nat):Turn P w K tg (Itr lo n) [it] it (λi h=>IsRangeIter h it (lo+(i:Nat)*1) ((n:Int)-(i:Nat)) 1) where
 mem:=by simp
 obj:=λi h st b hb=>by
  have e:b=it:=by simpa using hb
  subst e
  exact ⟨_,st,λv z=>by
   have z':Data.fields _=Data.cell v:=z
   cases z'⟩
 keep:=λi h h' st k=>k it (by simp) _ st
 item:=by
  intro X hP hw hK hc i pins s σ H E I hf st hg
  subst hP hw hK
  obtain ⟨f0,f1,f2,f3,f4,f5⟩:=hf it (by simp)
  have W:=Walks.range (prog:=X.prog) (w:=X.w) (I.ok.hd hc) it lo 1 n
  refine W.item i s _ _ hg st λv h' tk hv st' kk=>?_
  obtain ⟨t,rfl⟩:=hv
  have I1:Inv X pins σ H { s with heap:=h',toks:=tk }:=I.turned (λb o hb e=>kk b o (by simpa using hb) e) f0 f1 f3 f4 f5
  refine ⟨_,rfl,zky (s:={ s with heap:=h',toks:=tk }) (n:="range_iterator") st' rfl rfl (by decide) ⟨.int (lo+i),H,I1,⟨t,?_⟩,⟨rfl,rfl⟩,st',λb hb=>(hf b hb).1⟩⟩
  rw [Int.mul_one]
 done:=by
  intro X hP hw hK hc i pins s σ H E I hf st hg
  subst hP hw hK
  obtain ⟨f0,f1,f2,f3,f4,f5⟩:=hf it (by simp)
  exact wpAny_pyNext_range_end (I.ok.hd hc) st (by have:n<=i:=hg;omega) λh' eb=>⟨rfl,I.turned (t':=s.toks) (λb o hb e=>eb b o hb e) f0 f1 f3 f4 f5⟩
 self:=λ_ _ _ _ _ st h=>wpAny_pyIter_rangeiter st h
end L2
namespace L2
open PySem PySem.Spec PyProof.Rows
section
variable {X:Cx} {tg:Expr}
theorem zkd {pins:List (Addr×Obj)} {σ:St} {H:Hp} {s:Shared} {R:It->Hp->Prop} {E:Value->Shared->Prop} {lo hi:Int} {t u v:Tok} {tk:Nat} (I:Inv X pins σ H s) (h1:-(2 ^ 62)<=lo) (h2:lo<2 ^ 62) (h3:-(2 ^ 62)<=hi) (h4:hi<2 ^ 62)
  (q:R (Itr lo (hi-lo).toNat) H):wpAny (model X.prog X.w) X.A (pyIter (.ref s.heap.objs.size)) (PIE X pins σ tg R) E { s with heap:=s.heap.push { cls:=.type "range",data:=.fields #[.int lo t,.int hi u,.int 1 v] },toks:=tk }:=by
 refine wpAny_pyIter_range (IsRange.new ..) (small_one h1 h2 h3 h4) ?_
 have I1:Inv X pins σ H { s with heap:=s.heap.push { cls:=.type "range",data:=.fields #[.int lo t,.int hi u,.int 1 v] },toks:=tk }:=I.kept λb o e=>Heap.get?_push_of_some _ e
 refine ⟨(s.heap.push { cls:=.type "range",data:=.fields #[.int lo t,.int hi u,.int 1 v] }).objs.size,[(s.heap.push { cls:=.type "range",data:=.fields #[.int lo t,.int hi u,.int 1 v] }).objs.size],_,_,H,rfl,
  I1.kept (t':=tk) λb o e=>Heap.get?_push_of_some _ e,zhD _ lo (hi-lo).toNat,?_,λb hb=>?_,q⟩
 ·have e1:lo+((0:Nat):Int)*1=lo:=by simp
  have e2:(((hi-lo).toNat:Nat):Int)-((0:Nat):Int)=Builtin.Range.rangeSize lo hi 1:=by rw [rangeSize_one];split<;>omega
  show IsRangeIter _ _ (lo+((0:Nat):Int)*1) ((((hi-lo).toNat:Nat):Int)-((0:Nat):Int)) 1
  rw [e1,e2]
  exact Heap.get?_push_size _ rfl
 ·have e:b=(s.heap.push { cls:=.type "range",data:=.fields #[.int lo t,.int hi u,.int 1 v] }).objs.size:=by simpa using hb
  subst e
  exact I1.fpOk (Nat.le_refl _) (I1.hok.fresh (Nat.le_refl _))
noncomputable def zqn (ta:TA):TI:=λσ H R=>ta σ H λvs H1=>∃ j:Int,vs=[.int j]/\-(2 ^ 62)<=j/\j<2 ^ 62/\R (Itr 0 j.toNat) H1
theorem zjV {a:Expr} {ta:TA} {p pos:Pos} (hg:Gl X "range") (hm:X.mg "range"=none) (ha:PA X [a] ta) (hs:starEach [a] X.env=[(false,eval a X.env)]:=by rfl):PI X tg (.Call (.Name "range" p) [a] [] pos) (zqn ta):=by
 intro pins s σ H R I h
 refine Call_ (zhk I hg hm boot_range (PyProof.Rows.callWith_type1 (thn (ha pos pins s σ H _ I h) λus s1 ⟨vs,H1,I1,r1,q1⟩=>?_) hs rfl))
 obtain ⟨j,e,q1,q2,q⟩:=q1
 subst e
 cases r1 with
 | cons r rr=>
  cases rr
  obtain ⟨t,rfl⟩:=r
  exact call_range_1 (zkd I1 (by omega) (by omega) q1 q2 (by simpa using q))
noncomputable def tFor (wi:TI) (g:TG) (tb:TS):TS:=λD σ H=>wi σ H λJ H1=>∃ W:Nat->Nat->St->Hp->Prop,(∃ m,W 0 m σ H1)/\∀ i m σ H,W i m σ H →
 (J.stop i H/\D.nx σ H)\/(J.go i H/\∃ N:St->Hp->Prop,(∀ σ' H',N σ' H'->∃ m',m'<m/\W (i+1) m' σ' H')/\∀ x H',J.yld i H x H'->g x σ H' λσ2 H2=>tb { D with nx:=N,ct:=N,bk:=D.nx } σ2 H2)
noncomputable def zf0 (fp:List Addr) (h:Heap):List (Addr×Obj):=fp.filterMap λb=>(h.get? b).map λo=>(b,o)
theorem zbY {fp:List Addr} {h:Heap} {b:Addr} {o:Obj} (hb:b∈fp) (e:h.get? b=some o):(b,o)∈zf0 fp h:=List.mem_filterMap.mpr ⟨b,hb,by rw [e];rfl⟩
theorem zjN {fp:List Addr} {h:Heap} {p:Addr×Obj} (hp:p∈zf0 fp h):p.1∈fp/\h.get? p.1=some p.2:=by
 obtain ⟨b,hb,e⟩:=List.mem_filterMap.mp hp
 cases q:h.get? b with
 | none=>rw [q] at e;cases e
 | some o=>
  rw [q] at e
  have e':(b,o)=p:=Option.some.inj e
  subst e'
  exact ⟨hb,q⟩
theorem Inv.pinned {pins:List (Addr×Obj)} {σ:St} {H:Hp} {s:Shared} {fp:List Addr} (I:Inv X pins σ H s) (hf:∀ b∈fp,FpOk X pins H b) (ho:∀ b∈fp,∃ o,s.heap.get? b=some o/\∀ v,o.data≠.cell v):Inv X (pins++zf0 fp s.heap) σ H s:=
 I.pins_of λp hp=>(List.mem_append.mp hp).elim (λz=>I.pin p (List.mem_append_right _ z)) λz=>by
  obtain ⟨hb,e⟩:=zjN z
  obtain ⟨f0,f1,f2,_⟩:=hf p.1 hb
  obtain ⟨o,e',d⟩:=ho p.1 hb
  rw [e] at e';cases e'
  exact ⟨e,f0,f1,f2,d⟩
theorem Inv.unpinned {pins pl:List (Addr×Obj)} {σ:St} {H:Hp} {s:Shared} (I:Inv X (pins++pl) σ H s):Inv X pins σ H s:=I.pins_of λp hp=>I.pin p (List.mem_append_right _ (List.mem_append_left _ hp))
theorem zos {iter:Expr} {body:List Stmt} {wi:TI} {g:TG} {tb:TS} {pos:Pos} (hp:PassesOwn (model X.prog X.w) X.A X.env X.xe) (hc:X.calm=true) (hi:PI X tg iter wi) (hg:PG X tg g) (hb:PSs X body tb)
  (hs:∀ x,foldedSetIterable iter X.env x=pure x:=by intro _;rfl):PS X (.For tg iter body [] pos) (tFor wi g tb):=by
 intro pins s σ H D I h
 refine wpAny_For (thn (hi pins s σ H _ I h) λv s1 h1=>thn h1 λitv s2 h2=>?_) hs
 obtain ⟨it,fp,tn,J,H2,e,I2,T,st2,f2,W,⟨m0,w0⟩,turn⟩:=h2
 subst e
 have stat:∀ {H':Hp},(∀ b∈fp,H' b=none)->∀ b∈fp,FpOk X pins H' b:=λhn b hb=>⟨hn b hb,(f2 b hb).2⟩
 refine codeAny_forLoop_any (λn s'=>∃ i σ' H',Inv X pins σ' H' s'/\tn i s'.heap/\(∀ b∈fp,H' b=none)/\W i n σ' H') ?_ m0 ⟨0,σ,H2,I2,st2,λb hb=>(f2 b hb).1,w0⟩
 rintro n s3 ⟨i,σ3,H3,I3,st3,fr3,w3⟩
 rcases turn i n σ3 H3 w3 with ⟨stop,qn⟩ | ⟨go,N,hN,step⟩
 ·refine wpAny_passesOwn hp (thn (T.done X rfl rfl rfl hc i pins s3 σ3 H3 X.xe I3 (stat fr3) st3 stop) λr s4 ⟨hr,I4⟩=>?_)
  subst hr
  exact wpAny_execs_nil ⟨σ3,H3,I4,qn⟩
 ·refine wpAny_passesOwn hp (thn (T.item X rfl rfl rfl hc i pins s3 σ3 H3 X.xe I3 (stat fr3) st3 go) λr s4 ⟨u,hr,h4⟩=>?_)
  subst hr
  refine wpAny_passesOwn hp (thn h4 λ_ s5 ⟨x,H5,I5,r5,y5,st5,fr5⟩=>?_)
  have I5':=I5.pinned (stat fr5) (T.obj _ _ st5)
  refine wpAny_passesOwn hp (thn (hg _ s5 σ3 H5 x u _ I5' r5 (step x H5 y5)) λ_ s6 ⟨σ6,H6,I6,q6⟩=>?_)
  refine wpAny_passesOwn hp (thn (hb _ s6 σ6 H6 _ I6 q6) λf s7 q7=>?_)
  have again:∀ {σ7:St} {H7:Hp},Inv X (pins++zf0 fp s5.heap) σ7 H7 s7->N σ7 H7->∃ m,m<n/\∃ i σ' H',Inv X pins σ' H' s7/\tn i s7.heap/\(∀ b∈fp,H' b=none)/\W i m σ' H':=λ{σ7 H7} I7 n7=>by
   obtain ⟨m',hm,w7⟩:=hN σ7 H7 n7
   refine ⟨m',hm,i+1,σ7,H7,I7.unpinned,T.keep _ _ _ st5 λb hb o e=>(I7.pin (b,o) (List.mem_append_right _ (List.mem_append_right _ (zbY hb e)))).1,λb hb=>?_,w7⟩
   obtain ⟨o,e,d⟩:=T.obj _ _ st5 b hb
   exact (I7.pin (b,o) (List.mem_append_right _ (List.mem_append_right _ (zbY hb e)))).2.1
  cases f with
  | next=>obtain ⟨σ7,H7,I7,n7⟩:=q7;exact again I7 n7
  | cont=>obtain ⟨σ7,H7,I7,n7⟩:=q7;exact again I7 n7
  | brk=>obtain ⟨σ7,H7,I7,q7⟩:=q7;exact ⟨σ7,H7,I7.unpinned,q7⟩
  | ret v=>obtain ⟨x7,σ7,H7,I7,r7,q7⟩:=q7;exact ⟨x7,σ7,H7,I7.unpinned,r7,q7⟩
end
end L2
namespace L2
open PySem PySem.Spec PyProof.Rows
noncomputable abbrev R2:=V->V->Hp->VK->Prop
noncomputable def OpR (X:Cx) (f:Value->Value->Sem Value) (r:R2):Prop:=
 ∀ (pins:List (Addr×Obj)) (s:Shared) (σ:St) (H:Hp) (x y:V) (v u:Value) (Q:VK),Inv X pins σ H s->RelV x v->RelV y u->r x y H Q →
  wpAny (model X.prog X.w) X.A (f v u) (EP X pins σ Q) X.xe s
noncomputable def UnR (X:Cx) (f:Value->Sem Value) (r:V->Hp->VK->Prop):Prop:=
 ∀ (pins:List (Addr×Obj)) (s:Shared) (σ:St) (H:Hp) (x:V) (v:Value) (Q:VK),Inv X pins σ H s->RelV x v->r x H Q →
  wpAny (model X.prog X.w) X.A (f v) (EP X pins σ Q) X.xe s
noncomputable def zb7 (X:Cx) (f:Value) (r:List V->Hp->VK->Prop):Prop:=
 ∀ (pins:List (Addr×Obj)) (s:Shared) (σ:St) (H:Hp) (xs:List V) (us:List Value) (Q:VK),Inv X pins σ H s->Vals xs us->r xs H Q →
  wpAny (model X.prog X.w) X.A (call f us) (EP X pins σ Q) X.xe s
noncomputable def TruR (X:Cx) (r:V->Hp->(Bool->Hp->Prop)->Prop):Prop:=
 ∀ (pins:List (Addr×Obj)) (s:Shared) (σ:St) (H:Hp) (x:V) (v:Value) (Q:Bool->Hp->Prop),Inv X pins σ H s->RelV x v->r x H Q →
  wpAny (model X.prog X.w) X.A (truthy v) (TP X pins σ Q) X.xe s
noncomputable def tOp (r:R2) (ta tb:TE):TE:=λσ H Q=>ta σ H λx H1=>tb σ H1 λy H2=>r x y H2 Q
noncomputable def tUn (r:V->Hp->VK->Prop) (ta:TE):TE:=λσ H Q=>ta σ H λx H1=>r x H1 Q
noncomputable def rI (C:Int->Int->Prop) (g:Int->Int->V):R2:=λx y H Q=>∃ i j,x=.int i/\y=.int j/\C i j/\Q (g i j) H
noncomputable def rI0 (g:Int->Int->V):R2:=λx y H Q=>∃ i j,x=.int i/\y=.int j/\Q (g i j) H
noncomputable def rU (g:Int->V):V->Hp->VK->Prop:=λx H Q=>∃ i,x=.int i/\Q (g i) H
section
variable {X:Cx} {a b c:Expr} {ta tb tc:TE} {pos:Pos}
theorem binT (ha:PE X a ta) (hb:PE X b tb) {pins:List (Addr×Obj)} {s:Shared} {σ:St} {H:Hp} {R:V->V->Hp->Prop} (I:Inv X pins σ H s)
  (h:ta σ H λx H1=>tb σ H1 λy H2=>R x y H2) {Q:Value->Shared->Prop} {f:Value->Value->Sem Value}
  (hf:∀ v u s2 x y H2,Inv X pins σ H2 s2->RelV x v->RelV y u->R x y H2->wpAny (model X.prog X.w) X.A (f v u) Q X.xe s2) :
  wpAny (model X.prog X.w) X.A (eval a X.env) (λv s₁=>wpAny (model X.prog X.w) X.A (eval b X.env) (λu s₂=>wpAny (model X.prog X.w) X.A (f v u) Q X.xe s₂) X.xe s₁) X.xe s:=by
 refine thn (ha pins s σ H _ I h) λv s1 ⟨x,H1,I1,r1,q1⟩=>?_
 refine thn (hb pins s1 σ H1 _ I1 q1) λu s2 ⟨y,H2,I2,r2,q2⟩=>?_
 exact hf v u s2 x y H2 I2 r1 r2 q2
theorem zp0 {op:Operator} {r:R2} (ho:OpR X (binaryOp op) r) (ha:PE X a ta) (hb:PE X b tb):PE X (.BinOp a op b pos) (tOp r ta tb):=by
 intro pins s σ H Q I h
 exact wpAny_BinOp (binT ha hb I h λv u s2 x y H2 I2 rx ry q=>ho pins s2 σ H2 x y v u Q I2 rx ry q)
theorem zpX {op:UnaryOp} {r:V->Hp->VK->Prop} (ho:UnR X (unaryOp op) r) (ha:PE X a ta):PE X (.UnaryOp op a pos) (tUn r ta):=by
 intro pins s σ H Q I h
 exact UnaryOp_ (thn (ha pins s σ H _ I h) λv s1 ⟨x,H1,I1,r1,q1⟩=>ho pins s1 σ H1 x v Q I1 r1 q1)
theorem opI {f:Value->Value->Sem Value} {C:Int->Int->Prop} {g:Int->Int->Int}
  (rule:∀ (i j:Int) (t u:Tok) (s:Shared) (Q:Value->Shared->Prop) (E:Value->Shared->Prop),C i j->Q (.int (g i j) s.toks) { s with toks:=s.toks+1 }->wpAny (model X.prog X.w) X.A (f (.int i t) (.int j u)) Q E s) :
  OpR X f (rI C λi j=>.int (g i j)):=by
 intro pins s σ H x y v u Q I rx ry h
 obtain ⟨i,j,rfl,rfl,hc,q⟩:=h
 obtain ⟨t,rfl⟩:=rx
 obtain ⟨t',rfl⟩:=ry
 exact rule i j t t' s _ _ hc ⟨.int (g i j),H,I.tok _,⟨_,rfl⟩,q⟩
theorem opI0 {f:Value->Value->Sem Value} {g:Int->Int->Int}
  (rule:∀ (i j:Int) (t u:Tok) (s:Shared) (Q:Value->Shared->Prop) (E:Value->Shared->Prop),Q (.int (g i j) s.toks) { s with toks:=s.toks+1 }->wpAny (model X.prog X.w) X.A (f (.int i t) (.int j u)) Q E s) :
  OpR X f (rI0 λi j=>.int (g i j)):=by
 intro pins s σ H x y v u Q I rx ry h
 obtain ⟨i,j,rfl,rfl,q⟩:=h
 obtain ⟨t,rfl⟩:=rx
 obtain ⟨t',rfl⟩:=ry
 exact rule i j t t' s _ _ ⟨.int (g i j),H,I.tok _,⟨_,rfl⟩,q⟩
theorem opB0 {f:Value->Value->Sem Value} {g:Int->Int->Bool}
  (rule:∀ (i j:Int) (t u:Tok) (s:Shared) (Q:Value->Shared->Prop) (E:Value->Shared->Prop),Q (.bool (g i j)) s->wpAny (model X.prog X.w) X.A (f (.int i t) (.int j u)) Q E s) :
  OpR X f (rI0 λi j=>.bl (g i j)):=by
 intro pins s σ H x y v u Q I rx ry h
 obtain ⟨i,j,rfl,rfl,q⟩:=h
 obtain ⟨t,rfl⟩:=rx
 obtain ⟨t',rfl⟩:=ry
 exact rule i j t t' s _ _ ⟨.bl (g i j),H,I,rfl,q⟩
noncomputable def CMul (i j:Int):Prop:=(-(2 ^ 64)<i/\i<2 ^ 64)\/(-(2 ^ 64)<j/\j<2 ^ 64)
theorem CMul.ok {i j:Int} (h:CMul i j):IntMulOk i j:=by
 rcases h with ⟨h1,h2⟩ | ⟨h1,h2⟩
 ·exact .of_left (intBits_le_64 h1 h2)
 ·exact .of_right (intBits_le_64 h1 h2)
theorem znB:OpR X (binaryOp .Add) (rI0 λi j=>.int (i+j)):=opI0 λ_ _ _ _ _ _ _ q=>add_int q
theorem znC:OpR X (binaryOp .Mult) (rI CMul λi j=>.int (i*j)):=opI λ_ _ _ _ _ _ _ hc q=>mul_int q hc.ok
theorem zo7:OpR X (binaryOp .Mod) (rI (λ_ j=>0<j) λi j=>.int (i % j)):=opI λi j _ _ _ _ _ hc q=>by
 have h1:(0:Int)<j:=hc
 exact mod_int' (by omega) (by rw [Int.fmod_eq_emod_of_nonneg i (by omega)];exact q)
theorem unI {f:Value->Sem Value} {g:Int->Int}
  (rule:∀ (i:Int) (t:Tok) (s:Shared) (Q:Value->Shared->Prop) (E:Value->Shared->Prop),Q (.int (g i) s.toks) { s with toks:=s.toks+1 }->wpAny (model X.prog X.w) X.A (f (.int i t)) Q E s) :
  UnR X f (rU λi=>.int (g i)):=by
 intro pins s σ H x v Q I rx h
 obtain ⟨i,rfl,q⟩:=h
 obtain ⟨t,rfl⟩:=rx
 exact rule i t s _ _ ⟨.int (g i),H,I.tok _,⟨_,rfl⟩,q⟩
theorem zoW:UnR X (unaryOp .USub) (rU λi=>.int (-i)):=unI λ_ _ _ _ _ q=>neg_int q
end
section
variable {X:Cx} {a b c:Expr} {ta tb tc:TE} {pos:Pos}
theorem zol {pins:List (Addr×Obj)} {σ:St} {H:Hp} {s:Shared} {Q:VK} {k k':Bool} (I:Inv X pins σ H s) (q:Q (.bl k) H) (e:k=k'):EP X pins σ Q (.bool k') s:=by
 subst e
 exact ⟨.bl k,H,I,rfl,q⟩
theorem zpB:OpR X (compareOp .Lt) (rI0 λi j=>.bl (decide (i<j))):=opB0 λ_ _ _ _ _ _ _ q=>lt_int q
theorem zpy:OpR X (compareOp .Gt) (rI0 λi j=>.bl (decide (j<i))):=opB0 λ_ _ _ _ _ _ _ q=>gt_int q
theorem znG:OpR X (compareOp .Is) (λx y H Q=>y=.non/\Q (.bl (decide (x=.non))) H):=by
 intro pins s σ H x y v u Q I rx ry h
 obtain ⟨rfl,q⟩:=h
 cases ry
 refine is_none_gen (zol I q ?_)
 cases x<;>first
  | (cases rx;rfl)
  | (obtain ⟨t,rfl⟩:=rx;rfl)
theorem OpR.or {f:Value->Value->Sem Value} {r r':R2} (h:OpR X f r) (h':OpR X f r'):OpR X f (λx y H Q=>r x y H Q\/r' x y H Q):=by
 intro pins s σ H x y v u Q I rx ry q
 rcases q with q | q
 ·exact h pins s σ H x y v u Q I rx ry q
 ·exact h' pins s σ H x y v u Q I rx ry q
theorem zqp (b:Expr) {op:CmpOp} (h:op≠.In:=by decide) (h2:op≠.NotIn:=by decide):behindInMarks op b=false:=by
 have e1:(op==CmpOp.In)=false:=by cases op<;>first | rfl | exact absurd rfl h
 have e2:(op==CmpOp.NotIn)=false:=by cases op<;>first | rfl | exact absurd rfl h2
 cases b<;>simp [behindInMarks,e1,e2]
theorem zm1 {op:CmpOp} {r:R2} (ho:OpR X (compareOp op) r) (ha:PE X a ta) (hb:PE X b tb) (hm:behindInMarks op b=false):PE X (.Compare a [op] [b] pos) (tOp r ta tb):=by
 intro pins s σ H Q I h
 exact wpAny_Compare1 (binT ha hb I h λv u s2 x y H2 I2 rx ry q=>ho pins s2 σ H2 x y v u Q I2 rx ry q) hm
noncomputable def zpt (t:TE):TT:=λσ H Q=>t σ H λx H'=>∃ k,x=.bl k/\Q k H'
theorem zna {op:CmpOp} {r:R2} (ho:OpR X (compareOp op) r) (ha:PE X a ta) (hb:PE X b tb) (hm:behindInMarks op b=false):PT X (.Compare a [op] [b] pos) (zpt (tOp r ta tb)):=by
 intro pins s σ H Q I h
 refine wpAny_isTrue_Compare1 (thn (ha pins s σ H _ I h) λv s1 ⟨x,H1,I1,r1,q1⟩=>thn (hb pins s1 σ H1 _ I1 q1) λu s2 ⟨y,H2,I2,r2,q2⟩=>
  thn (ho pins s2 σ H2 x y v u _ I2 r1 r2 q2) λc s3 ⟨z,H3,I3,r3,k,e,q3⟩=>?_) hm
 subst e
 cases r3
 exact wpAny_truthy_bool ⟨H3,I3,q3⟩
noncomputable def TruV (K:PySem.W.Frag) (x:V) (H:Hp) (k:Bool):Prop:=
 match x with
 | .non=>k=false
 | .bl b=>k=b
 | .int i=>k=(i != 0)
 | .str y=>y.length<=sizeLine/\k=((y.length:Int) != 0)
 | .byt y=>y.size<=sizeLine/\k=((y.size:Int) != 0)
 | .ref p=>(∃ xs,SqL K H p xs/\k=!xs.isEmpty)\/(∃ xs,SqT K H p xs/\k=!xs.isEmpty)\/∃ kvs,H p=some (.dK kvs)/\k=!kvs.isEmpty
 | _=>False
theorem zhO {κ:Type} {kvs:List (κ×V)} {vs:List (κ×Value)} (r:KV kvs vs):(!vs.isEmpty)=!kvs.isEmpty:=by
 cases r<;>rfl
theorem zb3 {xs:List V} {its:List Value} (r:Vals xs its):(!its.toArray.isEmpty)=!xs.isEmpty:=by
 cases r<;>simp
theorem zfm:(sizeLine:Nat)<2 ^ 63:=by rw [sizeLine_eq];decide
theorem zpn:TruR X (λx H Q=>∃ k,TruV X.K x H k/\Q k H):=by
 intro pins s σ H x v Q I rx h
 obtain ⟨k,e,q⟩:=h
 have hl:=zfm
 have hs:sizeLine=16777216:=sizeLine_eq
 cases x with
 | non=>
  cases rx
  have e':k=false:=e
  subst e'
  exact truthy_none ⟨H,I,q⟩
 | bl b=>
  cases rx
  have e':k=b:=e
  subst e'
  exact wpAny_truthy_bool ⟨H,I,q⟩
 | int i=>
  obtain ⟨t,rfl⟩:=rx
  have e':k=(i != 0):=e
  subst e'
  exact PySem.P.truthy_int ⟨H,I,q⟩
 | str y=>
  obtain ⟨t,rfl⟩:=rx
  obtain ⟨hy,e'⟩:y.length<=sizeLine/\k=((y.length:Int) != 0):=e
  subst e'
  exact PySem.P.truthy_str (by omega) ⟨H,I.tok _,q⟩
 | byt y=>
  obtain ⟨t,rfl⟩:=rx
  obtain ⟨hy,e'⟩:y.size<=sizeLine/\k=((y.size:Int) != 0):=e
  subst e'
  exact PySem.W.truthy_bytes (by omega) ⟨H,I.tok _,q⟩
 | ref p=>
  cases rx
  have e':(∃ xs,SqL X.K H p xs/\k=!xs.isEmpty)\/(∃ xs,SqT X.K H p xs/\k=!xs.isEmpty)\/∃ kvs,H p=some (.dK kvs)/\k=!kvs.isEmpty:=e
  rcases e' with ⟨xs,hx,e'⟩ | ⟨xs,hx,e'⟩ | ⟨kvs,hx,e'⟩
  ·subst e'
   obtain ⟨its,r,pl,hz⟩:=I.list hx
   have hlen:=r.length
   exact wpAny_truthy_list pl.isList (by simp only [List.size_toArray];omega) ⟨H,I.tok _,by rw [zb3 r];exact q⟩
  ·subst e'
   obtain ⟨its,r,pl,hz⟩:=I.tuple hx
   have hlen:=r.length
   exact truthy_tuple pl (by simp only [List.size_toArray];omega) ⟨H,I.tok _,by rw [zb3 r];exact q⟩
  ·subst e'
   obtain ⟨hz,hS,vs,r,m⟩:kvs.length<=sizeLine/\(p==sysModules)=false/\∃ vs,KV kvs vs/\s.heap.DictOf (zjW X.prog X.w) p vs:=I.hok p _ hx
   have hlen:kvs.length=vs.length:=Paired.length r
   exact wpAny_truthy_dict hS m (by omega) ⟨H,I.tok _,by rw [zhO r];exact q⟩
 | _=>exact (show False from e).elim
theorem zko (ha:PE X a ta) (he:∀ whole,isTrue a X.env whole=(do let v<-whole;standAt a.pos;holding [v] (truthy v))) :
  PT X a (λσ H Q=>ta σ H λx H'=>∃ k,TruV X.K x H' k/\Q k H'):=by
 intro pins s σ H Q I h
 exact isTrue_plain (thn (ha pins s σ H _ I h) λv s1 ⟨x,H1,I1,r1,q1⟩=>zpn pins s1 σ H1 x v Q I1 r1 q1) (he _)
theorem zhy {x:V} {us:List Value} (r:Vals [x] us):∃ u,us=[u]/\RelV x u:=by
 cases r with
 | cons r1 r2=>cases r2;exact ⟨_,rfl,r1⟩
theorem zpD {x y:V} {us:List Value} (r:Vals [x,y] us):∃ u w',us=[u,w']/\RelV x u/\RelV y w':=by
 cases r with
 | cons r1 r2=>
  cases r2 with
  | cons r3 r4=>cases r4;exact ⟨_,_,rfl,r1,r3⟩
theorem zi2:zb7 X (.type "int") (λxs H Q=>(∃ i,xs=[.int i]/\Q (.int i) H)\/∃ k,xs=[.bl k]/\Q (.int (if k then 1 else 0)) H):=by
 intro pins s σ H xs us Q I r h
 rcases h with ⟨i,rfl,q⟩ | ⟨k,rfl,q⟩
 ·obtain ⟨u,rfl,t,rfl⟩:=zhy r
  exact call_int_int ⟨.int i,H,I,⟨_,rfl⟩,q⟩
 ·obtain ⟨u,rfl,r1⟩:=zhy r
  cases r1
  exact call_int_bool ⟨.int (if k then 1 else 0),H,I.tok _,⟨_,rfl⟩,q⟩
noncomputable def LenV (K:PySem.W.Frag) (x:V) (H:Hp) (n:Nat):Prop:=
 match x with
 | .str y=>y.length<=sizeLine/\n=y.length
 | .byt y=>y.size<=sizeLine/\n=y.size
 | .ref p=>(∃ xs,SqL K H p xs/\n=xs.length)\/∃ xs,SqT K H p xs/\n=xs.length
 | _=>False
theorem zhc:zb7 X (.builtin "len") (λxs H Q=>∃ x n,xs=[x]/\LenV X.K x H n/\Q (.int n) H):=by
 intro pins s σ H xs us Q I r h
 obtain ⟨x,n,rfl,e,q⟩:=h
 obtain ⟨u,rfl,rx⟩:=zhy r
 have hl:=zfm
 have hs:sizeLine=16777216:=sizeLine_eq
 cases x with
 | str y=>
  obtain ⟨t,rfl⟩:=rx
  obtain ⟨hy,e'⟩:y.length<=sizeLine/\n=y.length:=e
  subst e'
  exact len_str (by omega) ⟨.int _,H,I.tok _,⟨_,rfl⟩,q⟩
 | byt y=>
  obtain ⟨t,rfl⟩:=rx
  obtain ⟨hy,e'⟩:y.size<=sizeLine/\n=y.size:=e
  subst e'
  exact PySem.W.len_bytes (by omega) ⟨.int _,H,I.tok _,⟨_,rfl⟩,q⟩
 | ref p=>
  cases rx
  have e':(∃ xs,SqL X.K H p xs/\n=xs.length)\/∃ xs,SqT X.K H p xs/\n=xs.length:=e
  rcases e' with ⟨xs,hx,e'⟩ | ⟨xs,hx,e'⟩
  ·subst e'
   obtain ⟨its,r',pl,hz⟩:=I.list hx
   have hlen:=r'.length
   exact Calls.call_len_list pl.isList (by simp only [List.size_toArray];omega) ⟨.int xs.length,H,I.tok _,⟨_,by simp only [List.size_toArray];rw [hlen]⟩,q⟩
  ·subst e'
   obtain ⟨its,r',pl,hz⟩:=I.tuple hx
   have hlen:=r'.length
   exact len_tuple pl (by simp only [List.size_toArray];omega) ⟨.int xs.length,H,I.tok _,⟨_,by simp only [List.size_toArray];rw [hlen]⟩,q⟩
 | _=>exact (show False from e).elim
end
end L2
namespace L2
open PySem PySem.Spec PyProof.Rows
structure ObjM (h:Heap) (x dx C:Addr) (mA:Str->Option Value):Prop where
 obj:h.get? x=some (PySem.W.instObj C dx)
 ns:h.Ns1 dx mA
 ne:dx≠x
theorem ziE {h:Heap} {dx:Addr} {mA:Str->Option Value} (n:h.Ns1 dx mA):∃ od,h.get? dx=some od/\∀ name,PySem.W.lookIn name od=some (mA name):=by
 obtain ⟨o,es,ep,ho,hd,hk,_,hm⟩:=n
 refine ⟨o,ho,λname=>?_⟩
 have e:=hm name
 unfold nsFind findBy at e
 rw [<-Array.find?_toList] at e
 unfold PySem.W.lookIn
 rw [hd]
 dsimp only
 split
 ·rename_i y q
  rw [q] at e
  exact congrArg some e
 ·rename_i q
  rw [q] at e
  have a:es.toList.any (·.refKey)=false:=by
   rw [List.any_eq_false]
   intro y hy
   obtain ⟨z,t,hkey⟩:=hk y (Array.mem_toList_iff.mp hy)
   simp [DictEntry.refKey,hkey]
  have a':¬ es.toList.any (·.refKey)=true:=by rw [a];exact Bool.false_ne_true
  rw [if_neg a']
  exact congrArg some e
theorem ObjM.look {h:Heap} {x dx C:Addr} {mA:Str->Option Value} (I:ObjM h x dx C mA):∃ od,PySem.W.InstAt h x (PySem.W.instObj C dx) C (some od)/\∀ name,PySem.W.lookIn name od=some (mA name):=
 let ⟨od,ho,hl⟩:=ziE I.ns
 ⟨od,⟨I.obj,rfl,rfl,ho⟩,hl⟩
section
variable {prog:Program} {w:World} {A:Around} {E:Value->Shared->Prop} {s:Shared} {K:PySem.W.Frag} {x dx C f:Addr} {mA:Str->Option Value} {name:Str} {v:Value}
end
section
variable {P:Program} {w:World} {H H':Hp} {h h':Heap} {a C dx:Addr} {fs fs':List (Str×V)}
end
structure Cls (K:PySem.W.Frag) (C:Addr):Prop where
 pg:PySem.W.plainGet K C Str.empty=true
 hd:PySem.W.hasDictIn K C=true
 po:PySem.W.plainOver K C=true
 sa:PySem.W.findIn K (.ref C) "__setattr__"=some (some (.builtin "object.__setattr__"))
theorem Cls.get {K:PySem.W.Frag} {C:Addr} (c:Cls K C) (f:Str):PySem.W.plainGet K C f=true:=c.pg
noncomputable def zje (K:PySem.W.Frag) (C:Addr) (f:Str):Prop:=PySem.W.findIn K (.ref C) f=some none
structure Con (K:PySem.W.Frag) (C:Addr) (f:Str) (v:V) (u:Value):Prop where
 at_:PySem.W.findIn K (.ref C) f=some (some u)
 rel:RelV v u
 get:PySem.W.specialIn K u "__get__"=some none
 cp:PySem.W.copiedNames.contains f=false
structure Meth (K:PySem.W.Frag) (C:Addr) (m:Str) (f:Addr):Prop where
 at_:PySem.W.findIn K (.ref C) m=some (some (.ref f))
 fn:PySem.W.isFn K (.ref f)=true
 kp:PySem.W.keepIn K (.ref f)=true
section
variable {X:Cx} {pins:List (Addr×Obj)} {σ:St} {H:Hp} {s:Shared} {a C dx:Addr} {fs:List (Str×V)} {f:Str} {v:V} {A:Around} {E:Value->Shared->Prop}
theorem Inv.made (I:Inv X pins σ H s):Inv X pins σ (upd (upd H s.heap.objs.size (.own (s.heap.objs.size+1))) (s.heap.objs.size+1) (.ins C s.heap.objs.size []))
  { s with heap:=(s.heap.push PySem.W.emptyDict).push (PySem.W.instObj C s.heap.objs.size) }:=by
 have e1:(s.heap.push PySem.W.emptyDict).get? s.heap.objs.size=some PySem.W.emptyDict:=Heap.get?_push_size s.heap rfl
 have e2:((s.heap.push PySem.W.emptyDict).push (PySem.W.instObj C s.heap.objs.size)).get? (s.heap.objs.size+1)=some (PySem.W.instObj C s.heap.objs.size):=by
  have:=Heap.get?_push_size (s.heap.push PySem.W.emptyDict) (o:=PySem.W.instObj C s.heap.objs.size) rfl
  rwa [Heap.size_push] at this
 have e3:(s.heap.push PySem.W.emptyDict).Ns s.heap.objs.size (λ_=>none):=⟨PySem.W.emptyDict,#[],_,e1,rfl,(λe he=>absurd he (by simp)),λ_=>rfl⟩
 have I1:=I.laid (a:=s.heap.objs.size) (o:=.own (s.heap.objs.size+1)) (h':=s.heap.push PySem.W.emptyDict) (t':=s.toks) (λb u q=>Heap.get?_push_of_some _ q) (Nat.le_refl _) ⟨_,e1⟩
 refine I1.laid (a:=s.heap.objs.size+1) (o:=.ins C s.heap.objs.size []) (t':=s.toks) (λb u q=>Heap.get?_push_of_some _ q) (Nat.le_of_eq (Heap.size_push _ _)) ?_
 have ne:s.heap.objs.size≠s.heap.objs.size+1:=Nat.ne_of_lt (Nat.lt_succ_self _)
 refine ⟨by rw [zak ne,zaj],Nat.zero_le _,ne,e2,λ_=>none,(Heap.Ns1.of_empty e3).at λo q=>Heap.get?_push_of_some _ q,λ_=>True.intro,λy hy=>absurd rfl hy⟩
end
section
variable {X:Cx} {o e value:Expr} {f:Str} {pos pos' tpos:Pos} {ta tv:TE}
end
section
variable {X:Cx} {pins:List (Addr×Obj)} {σ:St} {H:Hp} {s:Shared} {A:Around} {E:Value->Shared->Prop} {Q:Value->Shared->Prop} {c:Value} {b:Bool}
inductive TyOf (K:PySem.W.Frag) (H:Hp):V->Value->Prop where
 | non:TyOf K H .non (.type "NoneType")
 | bl (x:Bool):TyOf K H (.bl x) (.type "bool")
 | int (i:Int):TyOf K H (.int i) (.type "int")
 | str (x:Str):TyOf K H (.str x) (.type "str")
 | flt (x:UInt64):TyOf K H (.flt x) (.type "float")
 | lst {a:Addr} {xs:List V} (e:H a=some (.lst xs)):TyOf K H (.ref a) (.type "list")
 | frz {a:Addr} {o:Obj} {xs:List V} (e:H a=some (.frz o (.lst xs))):TyOf K H (.ref a) (.type "list")
 | tup {a:Addr} {xs:List V} (e:H a=some (.tup xs)):TyOf K H (.ref a) (.type "tuple")
 | dK {a:Addr} {kvs:List (Key×V)} (e:H a=some (.dK kvs)):TyOf K H (.ref a) (.type "dict")
 | dT {a:Addr} {kvs:List (IT.D×Addr×V)} (e:H a=some (.dT kvs)):TyOf K H (.ref a) (.type "dict")
 | ins {a C dx:Addr} {fs:List (Str×V)} (e:H a=some (.ins C dx fs)) (cl:Cls K C) (ha:PySem.W.findIn K (.ref C) "__class__"=some (some (.builtin "object.__class__")))
   (hn:PySem.W.specialIn K (.builtin "object.__class__") "__get__"=some (some (.builtin "getset_descriptor.__get__"))) (htk:PySem.W.takesIn K (.builtin "object.__class__")=some true)
   (hm:PySem.W.mroIn K C (.type "object")=some true):TyOf K H (.ref a) (.ref C)
end
end L2
namespace L2
open PySem PySem.Spec PyProof.Rows
structure Room (k:Nat) (A:Around):Prop where
 hd:A.handled=none
 dp:A.depth+3*k+5<recursionLimit
 un:A.units+16*k+200<cLine
theorem Room.mono {j k:Nat} {A:Around} (r:Room k A) (h:j<=k):Room j A:=⟨r.hd,by have:=r.dp;omega,by have:=r.un;omega⟩
theorem Room.deeper {k:Nat} {A:Around} (r:Room (k+1) A) (env:Env):Room k (A.deeper env):=
 ⟨r.hd,by have:=r.dp;show A.depth+1+3*k+5<_;omega,by have:=r.un;show A.units+3+16*k+200<_;omega⟩
theorem Room.in1 {k:Nat} {A:Around} (r:Room (k+1) A):Room k A.in1:=
 ⟨r.hd,by have:=r.dp;show A.depth+3*k+5<_;omega,by have:=r.un;show A.units+1+16*k+200<_;omega⟩
theorem zhH {A:Around} {C:Addr} {us:List Value} {kw:List (Str×Value)}:(A.under (.builtin "type.__call__" ⟨.ref C::us,kw⟩)).depth=A.depth+1:=by
 first | rfl | simp [Around.under,Code.weight,Code.isCreation,Code.isGuard,Code.isCaller,Code.frames,Code.isFrame,guardIds]
theorem zhA {A:Around} {C:Addr} {us:List Value} {kw:List (Str×Value)}:(A.under (.builtin "type.__call__" ⟨.ref C::us,kw⟩)).units=A.units+1:=by
 first | rfl | simp [Around.under,Code.cUnits,Code.frames,Code.isFrame]
theorem Room.make {k:Nat} {A:Around} (r:Room (k+1) A) (C:Addr) (us:List Value) (kw:List (Str×Value)):Room k (A.under (.builtin "type.__call__" ⟨.ref C::us,kw⟩)):=
 ⟨r.hd,by have:=r.dp;rw [zhH];omega,by have:=r.un;rw [zhA];omega⟩
theorem Room.depth {k:Nat} {A:Around} (r:Room k A):A.depth<recursionLimit:=by have:=r.dp;omega
theorem Room.units {k:Nat} {A:Around} (r:Room k A):A.units+64<cLine:=by have:=r.un;omega
noncomputable def tNil:TA:=λ_ H Q=>Q [] H
noncomputable def zpQ (ta:TE) (tr:TA):TA:=λσ H Q=>ta σ H λx H1=>tr σ H1 λxs H2=>Q (x::xs) H2
section
variable {X:Cx} {e:Expr} {es:List Expr} {te:TE} {t:TA} {pos:Pos}
theorem zbI:PA X [] tNil:=λ_ _ _ _ H Q I h=>Calls.spliced_nil ⟨[],H,I,.nil,h⟩
theorem zaY (ha:PE X e te) (hr:PA X es t) (hs:starEach (e::es) X.env=(false,eval e X.env)::starEach es X.env:=by rfl):PA X (e::es) (zpQ te t):=by
 intro pos pins s σ H Q I h
 rw [hs]
 show wpAny _ _ (spliced ((false,eval e X.env)::backTo pos (starEach es X.env))) _ _ s
 refine Calls.spliced_cons (thn (ha pins s σ H _ I h) λu s1 ⟨x,H1,I1,r1,q1⟩=>?_)
 exact thn (hr pos pins s1 σ H1 _ I1 q1) λus s2 ⟨xs,H2,I2,r2,q2⟩=>⟨x::xs,H2,I2,.cons r1 r2,q2⟩
noncomputable def tTup (t:TA):TE:=λσ H Q=>t σ H λxs H1=>xs.length<=sizeLine/\∀ p,H1 p=none->Q (.ref p) (upd H1 p (.tup xs))
noncomputable def tLst (t:TA):TE:=λσ H Q=>t σ H λxs H1=>xs.length<=sizeLine/\∀ p,H1 p=none->Q (.ref p) (upd H1 p (.lst xs))
theorem zn4 {x1} (h:PA X es t):PE X (.Tuple es x1 pos) (tTup t):=by
 intro pins s σ H Q I hq
 refine wpAny_Tuple_spliced (thn (h pos pins s σ H _ I hq) λus s1 ⟨xs,H1,I1,r,z,q⟩=>⟨by rw [<-r.length];exact z,?_⟩)
 have hf:H1 s1.heap.objs.size=none:=I1.hok.fresh (Nat.le_refl _)
 refine ⟨.ref s1.heap.objs.size,upd H1 s1.heap.objs.size (.tup xs),I1.laid (t':=s1.toks) (λb u e=>Heap.get?_push_of_some _ e) (Nat.le_refl _) ?_,rfl,q _ hf⟩
 exact ⟨z,us,r,zeh.new _ _⟩
theorem znR (h:PA X es t):PE X (.List es pos) (tLst t):=by
 intro pins s σ H Q I hq
 refine wpAny_List_spliced (thn (h pos pins s σ H _ I hq) λus s1 ⟨xs,H1,I1,r,z,q⟩=>⟨by rw [<-r.length];exact z,?_⟩)
 have hf:H1 s1.heap.objs.size=none:=I1.hok.fresh (Nat.le_refl _)
 refine ⟨.ref s1.heap.objs.size,upd H1 s1.heap.objs.size (.lst xs),I1.laid (t':=s1.toks) (λb u e=>Heap.get?_push_of_some _ e) (Nat.le_refl _) ?_,rfl,q _ hf⟩
 exact ⟨z,us,0,r,Heap.get?_push_size _ rfl⟩
end
noncomputable abbrev Sp:=List V->Hp->VK->XK->Prop
noncomputable abbrev CXT:=List Env->Hp->Shared->XK->Value->Shared->Prop
structure Env0 (P:Program) (w:World) (K:PySem.W.Frag) (mg:Str->Option Value) (base:Heap) (A:Around) (outer:List Env) (s:Shared) (H:Hp):Prop where
 frames:A.frames=some outer
 mod:Mod K mg base
 bs:∀ b o,base.get? b=some o->s.heap.get? b=some o/\H b=none
 bsz:base.objs.size<=s.heap.objs.size
 funs:s.heap.FunFrames base outer
 frf:∀ b∈frs outer,H b=none
 hok:HOk P w H s.heap
 bare:AllBare s.gens
noncomputable def CE (outer:List Env) (P:Program) (w:World) (H:Hp) (s:Shared) (Q:VK) (u:Value) (s':Shared):Prop:=
 ∃ v H',s'.os=s.os/\AllBare s'.gens/\Un (frs outer) [] H H' s.heap s'.heap/\HOk P w H' s'.heap/\RelV v u/\Q v H'
noncomputable def CR (CX:CXT) (outer:List Env) (P:Program) (w:World) (H:Hp) (s:Shared) (Q:VK) (E:XK) (r:Result) (s':Shared):Prop:=
 match r with
 | .ok (.ret u)=>CE outer P w H s Q u s'
 | .ok _=>False
 | .error e=>CX outer H s E e s'
structure FnOk (P:Program) (w:World) (K:PySem.W.Frag) (mg:Str->Option Value) (base:Heap) (CX:CXT) (k:Nat) (f:Addr) (fd:FuncData) (ps:List Str) (sp:Sp):Prop where
 len:∀ vs H Q E,sp vs H Q E->vs.length=ps.length
 run:∀ (A:Around) (outer:List Env) (s:Shared) (H:Hp) (args:Args) (us:List Value) (vs:List V) (Q:VK) (E:XK),Room k A->Env0 P w K mg base A outer s H->BindsTo s fd args (ps.zip us)->Vals vs us->sp vs H Q E →
  codeAny (model P w) A (.call (.ref f) args) (CR CX outer P w H s Q E) s
theorem FnOk.mono {P:Program} {w:World} {K:PySem.W.Frag} {mg:Str->Option Value} {base:Heap} {CX:CXT} {j k:Nat} {f:Addr} {fd:FuncData} {ps:List Str} {sp:Sp} (F:FnOk P w K mg base CX j f fd ps sp) (h:j<=k) :
  FnOk P w K mg base CX k f fd ps sp:=⟨F.len,λA outer s H args us vs Q E hr=>F.run A outer s H args us vs Q E (hr.mono h)⟩
theorem FnOk.imp {P:Program} {w:World} {K:PySem.W.Frag} {mg:Str->Option Value} {base:Heap} {CX:CXT} {k:Nat} {f:Addr} {fd:FuncData} {ps:List Str} {sp sp':Sp} (F:FnOk P w K mg base CX k f fd ps sp)
  (h:∀ vs H Q E,sp' vs H Q E->sp vs H Q E):FnOk P w K mg base CX k f fd ps sp':=
 ⟨λvs H Q E q=>F.len vs H Q E (h _ _ _ _ q),λA outer s H args us vs Q E hr he hb hv hs=>F.run A outer s H args us vs Q E hr he hb hv (h _ _ _ _ hs)⟩
theorem Env0.make {P:Program} {w:World} {K:PySem.W.Frag} {mg:Str->Option Value} {base:Heap} {A:Around} {outer:List Env} {s:Shared} {H:Hp} (e:Env0 P w K mg base A outer s H) (C:Addr) (us:List Value) (kw:List (Str×Value)) :
    Env0 P w K mg base (A.under (.builtin "type.__call__" ⟨.ref C::us,kw⟩)) outer s H:=⟨by first | exact e.frames | (simpa [Around.under,Code.envs,Code.isFrame,pushEnvs] using e.frames),e.mod,e.bs,e.bsz,e.funs,e.frf,e.hok,e.bare⟩
theorem Env0.in1 {P:Program} {w:World} {K:PySem.W.Frag} {mg:Str->Option Value} {base:Heap} {A:Around} {outer:List Env} {s:Shared} {H:Hp} (e:Env0 P w K mg base A outer s H) :
  Env0 P w K mg base A.in1 outer s H:=⟨e.frames,e.mod,e.bs,e.bsz,e.funs,e.frf,e.hok,e.bare⟩
section
variable {X:Cx} {pins:List (Addr×Obj)} {σ:St} {H:Hp} {s s':Shared}
theorem Inv.env0 (I:Inv X pins σ H s):Env0 X.prog X.w X.K X.mg X.base X.A X.stack s H:=
 ⟨I.ok.frames,I.ok.mod,I.bs,Nat.le_trans I.ok.bsz I.sz,I.stack,I.stkFree,I.hok,I.bare⟩
theorem Inv.after {Q:VK} {u:Value} (I:Inv X pins σ H s) (h:CE X.stack X.prog X.w H s Q u s'):EP X pins σ Q u s':=by
 obtain ⟨v,H',os,bare,un,hok,r,q⟩:=h
 obtain ⟨hh,g,d,t,os'⟩:=s'
 obtain rfl:os'=s.os:=os
 exact ⟨v,H',I.call (h':=hh) (g':=g) (d':=d) (t':=t) (ch:=[]) un hok bare (λb z=>absurd z (by simp)),r,q⟩
end
noncomputable def zp8 (sp:Sp) (dvs:List V) (E:XK) (t:TA):TE:=λσ H Q=>t σ H λvs H1=>sp (vs++dvs) H1 Q E
noncomputable def zaL (K:PySem.W.Frag) (fd:FuncData) (ps:List Str) (ds:List Value):Prop:=
 ∀ (s:Shared) (us:List Value),K.In s.heap->(us++ds).length=ps.length->BindsTo s fd ⟨us,[]⟩ (ps.zip (us++ds))
theorem zaL.all {K:PySem.W.Frag} {fd:FuncData} {ps:List Str} (h:∀ us:List Value,us.length=ps.length->bindArgs fd ⟨us,[]⟩=pure (ps.zip us)):zaL K fd ps []:=λs us _ hl=>by
 rw [List.append_nil] at hl ⊢
 exact .of_eq (h us hl)
noncomputable def zi6 (CX:CXT) (X:Cx) (E:XK):Prop:=∀ (pins:List (Addr×Obj)) (σ:St) (H:Hp) (s:Shared) (e:Value) (s':Shared),Inv X pins σ H s->CX X.stack H s E e s'->X.xe e s'
section
variable {X:Cx} {CX:CXT} {k:Nat} {f C:Addr} {fd:FuncData} {ps:List Str} {sp:Sp} {dvs:List V} {ds:List Value} {E:XK} {x m:Str} {p pos apos:Pos} {e o:Expr} {es:List Expr} {ta:TE} {t:TA}
theorem zoP {pins:List (Addr×Obj)} {σ:St} {H:Hp} {s:Shared} {Q:VK} {us:List Value} {vs:List V} (F:FnOk X.prog X.w X.K X.mg X.base CX k f fd ps sp) (hr:Room k X.A) (hb:zaL X.K fd ps ds) (hd:Vals dvs ds) (hx:zi6 CX X E)
  (I:Inv X pins σ H s) (r:Vals vs us) (h:sp (vs++dvs) H Q E):wpAny (model X.prog X.w) X.A (call (.ref f) us) (EP X pins σ Q) X.xe s:=by
 have r2:Vals (vs++dvs) (us++ds):=r.append hd
 have hl:(us++ds).length=ps.length:=by rw [<-r2.length];exact F.len _ _ _ _ h
 refine wpAny_call (codeAny_mono (F.run X.A X.stack s H ⟨us,[]⟩ (us++ds) (vs++dvs) Q E hr I.env0 (hb s us I.kIn hl) r2 h) λr s' hq=>?_)
 cases r with
 | error e=>exact hx pins σ H s e s' I hq
 | ok fl=>
  cases fl with
  | ret u=>exact I.after hq
  | next=>exact False.elim hq
  | brk=>exact False.elim hq
  | cont=>exact False.elim hq
theorem zjD (F:FnOk X.prog X.w X.K X.mg X.base CX k f fd ps sp) (hr:Room k X.A) (hg:Gl X x) (hm:X.mg x=some (.ref f)) (hk:PySem.W.keepIn X.K (.ref f)=true) (hb:zaL X.K fd ps ds) (hd:Vals dvs ds) (hx:zi6 CX X E)
  (ha:PA X (e::es) t) (hdb:(x==("__debug__":Str))=false:=by decide) (he:starEach (e::es) X.env=(false,eval e X.env)::starEach es X.env:=by rfl) (hpl:(backTo pos (starEach es X.env)).any (·.1)=false:=by rfl) :
  PE X (.Call (.Name x p) (e::es) [] pos) (zp8 sp dvs E t):=by
 intro pins s σ H Q I h
 refine wpAny_Call_Name_kw (zjT I hg hm ?_ hdb)
 refine PySem.W.callWith_K (h₀:=X.base) I.ok.mod.kin hk (thn (ha pos pins s σ H _ I h) λus s1 ⟨vs,H1,I1,r,q⟩=>⟨I1.kIn,?_⟩) he hpl
 exact zoP F hr hb hd hx I1 r q
structure Mk (K:PySem.W.Frag) (C f:Addr):Prop where
 makes:PySem.W.makesIn K C=true
 init:PySem.W.findIn K (.ref C) "__init__"=some (some (.ref f))
 fn:PySem.W.isFn K (.ref f)=true
 kp:PySem.W.keepIn K (.ref C)=true
end
section
variable {X:Cx} {CX:CXT} {k:Nat} {f C:Addr} {fd:FuncData} {ps ks:List Str} {sp:Sp} {E:XK} {x m:Str} {p pos apos kpos:Pos} {e o:Expr} {es:List Expr} {kws:List Keyword} {te ta:TE} {t tk:TA} {nm:Option Str}
structure zqo (K:PySem.W.Frag) (fd:FuncData) (ps ks:List Str) (g:List Value->List Value->List Value) (gV:List V->List V->List V):Prop where
 to:∀ (s:Shared) (us ws:List Value),K.In s.heap->(g us ws).length=ps.length->BindsTo s fd ⟨us,ks.zip ws⟩ (ps.zip (g us ws))
 rel:∀ {vs:List V} {us:List Value} {zs:List V} {ws:List Value},Vals vs us->Vals zs ws->Vals (gV vs zs) (g us ws)
variable {g:List Value->List Value->List Value} {gV:List V->List V->List V}
end
structure zam (N P:List Str) (sc:Scope):Prop where
 kind:sc.kind=.function
 co:sc.isCoroutine=false
 gen:sc.isGenerator=false
 nd:N.Nodup
 pre:N.take P.length=P
 par:∀ x∈P,sc.names.lookup x=some .local\/sc.names.lookup x=some .cell
 nofree:∀ y∈sc.names,y.2≠.free
theorem zfF {kindOf:Str->Option NameKind} {x:Str}:∀ {binds:List (Str×Value)} {m:Str->Option Value},(∀ v,(x,v) ∉ binds)->bindL kindOf binds m x=m x
  | [],_,_=>rfl
  | (n, v)::r,m,h=>by
    unfold bindL
    rw [zfF λw hw=>h w (List.mem_cons_of_mem _ hw)]
    split
    · have:x≠n:=by rintro rfl;exact h v List.mem_cons_self
      simp [this]
    · rfl
theorem zfQ {kindOf:Str->Option NameKind} {x:Str}:∀ {binds:List (Str×Value)} {m:Str->Option Value},(∀ v,(x,v) ∉ binds)->bindC kindOf binds m x=m x
  | [],_,_=>rfl
  | (n, v)::r,m,h=>by
    unfold bindC
    rw [zfQ λw hw=>h w (List.mem_cons_of_mem _ hw)]
    split
    · rfl
    · have:x≠n:=by rintro rfl;exact h v List.mem_cons_self
      simp [this]
theorem zfq {kindOf:Str->Option NameKind} {x:Str} {v:Value}:∀ {P:List Str} {vs:List Value} {i:Nat} {m:Str->Option Value},P.Nodup->P[i]?=some x->vs[i]?=some v->kindOf x=some .local →
  bindL kindOf (P.zip vs) m x=some v
 | [],_,_,_,_,h,_,_=>by simp at h
 | _::_,[],_,_,_,_,h,_=>by simp at h
 | p::P,w::vs,0,m,nd,h1,h2,hk=>by
  simp at h1 h2;subst h1;subst h2
  show bindL kindOf ((p,w)::P.zip vs) m p=_
  unfold bindL
  rw [zfF λv hv=>(List.nodup_cons.mp nd).1 (List.of_mem_zip hv).1,if_pos hk]
  simp
 | p::P,w::vs,i+1,m,nd,h1,h2,hk=>by
  show bindL kindOf ((p,w)::P.zip vs) m x=_
  unfold bindL
  exact zfq (i:=i) (List.nodup_cons.mp nd).2 (by simpa using h1) (by simpa using h2) hk
theorem zfZ {kindOf:Str->Option NameKind} {x:Str} {v:Value}:∀ {P:List Str} {vs:List Value} {i:Nat} {m:Str->Option Value},P.Nodup->P[i]?=some x->vs[i]?=some v->kindOf x≠some .local →
  bindC kindOf (P.zip vs) m x=some v
 | [],_,_,_,_,h,_,_=>by simp at h
 | _::_,[],_,_,_,_,h,_=>by simp at h
 | p::P,w::vs,0,m,nd,h1,h2,hk=>by
  simp at h1 h2;subst h1;subst h2
  show bindC kindOf ((p,w)::P.zip vs) m p=_
  unfold bindC
  rw [zfQ λv hv=>(List.nodup_cons.mp nd).1 (List.of_mem_zip hv).1,if_neg hk]
  simp
 | p::P,w::vs,i+1,m,nd,h1,h2,hk=>by
  show bindC kindOf ((p,w)::P.zip vs) m x=_
  unfold bindC
  exact zfZ (i:=i) (List.nodup_cons.mp nd).2 (by simpa using h1) (by simpa using h2) hk
noncomputable def start (N:List Str) (vs:List V):St:=vs.map some++List.replicate (N.length-vs.length) none
noncomputable def cxOf (CX:CXT) (P:Program) (w:World) (K:PySem.W.Frag) (mg:Str->Option Value) (base:Heap) (N:List Str) (qual:Str) (scope:Scope) (f:Addr) (cd:Value) (A:Around) (outer:List Env) (s:Shared) (H:Hp) (E:XK):Cx where
 prog:=P
 w:=w
 K:=K
 mg:=mg
 base:=base
 A:=A.deeper (envOfC qual scope s.heap.objs.size f cd)
 N:=N
 s₀:=s
 H₀:=H
 env:=envOfC qual scope s.heap.objs.size f cd
 outer:=outer
 stack:=envOfC qual scope s.heap.objs.size f cd::outer
 ex:=[]
 calm:=true
 fn:=λ_=>true
 pn:=[]
 xe:=λe s'=>wpAny (model P w) (A.deeper (envOfC qual scope s.heap.objs.size f cd)) (leaving (envOfC qual scope s.heap.objs.size f cd) e) (λ_ s''=>CX outer H s E e s'') (λe' s''=>CX outer H s E e' s'') s'
theorem zhq {sc:Scope} {n:Nat} {x:Str} (h:sc.names.lookup x=some .cell):∃ c,(cellsFrom n sc.names []).lookup x=some c:=by
 have q:=PySem.W.cellsFrom_some sc.names n [] (.inl h)
 exact Option.isSome_iff_exists.mp q
theorem zj2 {CX:CXT} {P:Program} {w:World} {K:PySem.W.Frag} {mg:Str->Option Value} {base:Heap} {N ps:List Str} {qual:Str} {scope:Scope} {f:Addr} {cd:Value} {A:Around} {outer:List Env} {s s1:Shared} {H:Hp} {E:XK} {us:List Value} {vs:List V}
  (S:zam N ps scope) (hd:A.handled=none) (e0:Env0 P w K mg base A outer s H) (hl:vs.length=ps.length) (r:Vals vs us)
  (x:InCallC s s.heap.objs.size (bindL (envOfC qual scope s.heap.objs.size f cd).kindOf (ps.zip us) λ_=>none) (cellsFrom (s.heap.objs.size+1) scope.names []) (bindC (envOfC qual scope s.heap.objs.size f cd).kindOf (ps.zip us) λ_=>none) s1) :
  Inv (cxOf CX P w K mg base N qual scope f cd A outer s H E) [] (start N vs) H s1:=by
 have hpl:ps.length<=N.length:=by have:=congrArg List.length S.pre;rw [List.length_take] at this;omega
 obtain ⟨h1,tk,rfl,hk⟩:=x.done
 have noA:∀ b:Addr,b ∉ (cxOf CX P w K mg base N qual scope f cd A outer s H E).ex:=λb z=>absurd (show b∈([]:List Addr) from z) (by simp)
 refine ⟨⟨e0.mod,S.kind,rfl,rfl,Nat.le_refl _,λy z c h1 h2=>?_,λy hy=>?_,λy c _ h=>?_,λ_=>hd,Around.frames_deeper e0.frames,.inr ⟨rfl,rfl⟩,λb z=>absurd z (noA b),e0.bs,e0.bsz,λb _ _=>noA b,λb z=>absurd z (noA b),e0.funs,e0.frf⟩,
  rfl,e0.bare,Un.kept hk,⟨_,x.toInCall.ns,λi y v h1 h2 h3=>?_⟩,λy c h=>⟨_,x.cell y c h⟩,e0.hok.fresh (Nat.le_refl _),λy c h=>?_,λp hp=>absurd (show p∈([]:List (Addr×Obj)) from hp) (by simp),e0.hok.kept hk,?_⟩
 ·exact name_of_addr x.apart (PySem.mem_of_lookup h1) (PySem.mem_of_lookup h2)
 ·have hy:scope.names.lookup y=some .cell\/scope.names.lookup y=some .free:=hy
  rcases hy with hy | hy
  ·exact zhq hy
  ·exact absurd rfl (S.nofree _ (PySem.mem_of_lookup hy))
 ·exact Nat.le_of_lt (x.above y c (PySem.mem_of_lookup h))
 ·have hi:i<vs.length:=by
   unfold start at h2
   by_cases hi:i<vs.length
   ·exact hi
   ·rw [List.getElem?_append_right (by simpa using hi)] at h2
    rw [List.getElem?_replicate] at h2
    split at h2<;>cases h2
  have ha:vs[i]?=some v:=by
   unfold start at h2
   rw [List.getElem?_append_left (by simpa using hi),List.getElem?_map] at h2
   cases e:vs[i]? with
   | none=>rw [e] at h2;cases h2
   | some a=>rw [e] at h2;cases h2;rfl
  obtain ⟨u,hu,rv⟩:=r.get ha
  have hp:ps[i]?=some y:=by
   rw [<-S.pre,List.getElem?_take_of_lt (by omega)];exact h1
  have ndP:ps.Nodup:=by rw [<-S.pre];exact S.nd.sublist (List.take_sublist _ _)
  refine ⟨u,rv,?_⟩
  rcases S.par y (List.mem_of_getElem? hp) with k | k
  ·exact .inl ⟨k,zfq ndP hp hu k⟩
  ·obtain ⟨c,e⟩:=zhq (n:=s.heap.objs.size+1) k
   refine .inr ⟨.inl k,c,e,?_⟩
   have q:=x.cell y c e
   rw [zfZ ndP hp hu (by show scope.names.lookup y≠_;rw [k];decide)] at q
   exact q
 ·exact e0.hok.fresh (Nat.le_of_lt (x.above y c (PySem.mem_of_lookup h)))
 ·unfold start
  show _=N.length
  rw [List.length_append,List.length_map,List.length_replicate]
  omega
theorem znU {CX:CXT} {P:Program} {w:World} {K:PySem.W.Frag} {mg:Str->Option Value} {base:Heap} {k:Nat} {f:Addr} {name qual:Str} {params:Arguments} {body:List Stmt} {scope:Scope} {dV kV doc pm cdv ct oc:Value} {an od:Option Addr}
  {osl:Array (Option Value)} {N ps:List Str} {sp:Sp} (lk:K.lookup f=some ⟨oc,od,.func (PySem.W.fnOf name qual params body scope dV kV doc pm an cdv ct),osl⟩) (hcd:PySem.W.codeIn K cdv qual=true) (S:zam N ps scope)
  (len:∀ vs H Q E,sp vs H Q E->vs.length=ps.length)
  (hbody:∀ (A:Around) (outer:List Env) (s:Shared) (H:Hp) (vs:List V) (Q:VK) (E:XK),Room k (A.deeper (envOfC qual scope s.heap.objs.size f cdv))->sp vs H Q E →
   ∃ t,PSs (cxOf CX P w K mg base N qual scope f cdv A outer s H E) body t/\t { nx:=λ_ H'=>Q .non H',rt:=Q } (start N vs) H) :
  FnOk P w K mg base CX (k+1) f (PySem.W.fnOf name qual params body scope dV kV doc pm an cdv ct) ps sp:=by
 refine ⟨len,λA outer s H args us vs Q E hr e0 hb r hsp=>?_⟩
 have hl:=len _ _ _ _ hsp
 have KX:K.In s.heap:=e0.mod.kin.keeps λb o e=>(e0.bs b o e).1
 have lim:s.heap.NoLimit:=e0.mod.nolimit.keeps λb o e=>(e0.bs b o e).1
 have hkind:∀ y∈ps.zip us,scope.names.lookup y.1=some .local\/(scope.names.lookup y.1=some .cell/\((cellsFrom (s.heap.objs.size+1) scope.names []).lookup y.1).isSome=true):=λ⟨n,v⟩ hy=>by
  rcases S.par n (List.of_mem_zip hy).1 with q | q
  ·exact .inl q
  ·exact .inr ⟨q,PySem.W.cellsFrom_some _ _ _ (.inl q)⟩
 refine codeAny_call_function hr.depth (KX _ _ lk) rfl S.co S.gen rfl (PySem.W.codeRec_of KX hcd) (hb _ _ _ _ ?_)
 refine wpAny_newFunctionEnv_cells S.kind hkind λenv he s1 x=>?_
 subst he
 refine ⟨lim.keeps x.toInCall.keep,codeAny_func ?_⟩
 obtain ⟨t,ht,hq⟩:=hbody A outer s H vs Q E (hr.deeper _) hsp
 have I:Inv (cxOf CX P w K mg base N qual scope f cdv A outer s H E) [] (start N vs) H s1:=zj2 S hr.hd e0 hl r x
 refine wpAny_mono (ht [] s1 (start N vs) H _ I hq) (λfl s' hs=>?_) λe s' hs=>hs
 have fin:∀ {σ':St} {H':Hp} {v:V} {u:Value},Inv (cxOf CX P w K mg base N qual scope f cdv A outer s H E) [] σ' H' s'->RelV v u->Q v H'->CE outer P w H s Q u s':=
  fun {σ' H' v u} J rv q=>⟨v,H',J.os,J.bare,J.base,J.hok,rv,q⟩
 cases fl with
 | ret u=>
  obtain ⟨v,σ',H',J,rv,q⟩:=hs
  exact fin J rv q
 | next=>
  obtain ⟨σ',H',J,q⟩:=hs
  exact fin (v:=V.non) (u:=Value.none) J rfl q
 | brk=>
  obtain ⟨_,_,_,q⟩:=hs
  exact False.elim q
 | cont=>
  obtain ⟨_,_,_,q⟩:=hs
  exact False.elim q
end L2
namespace L2
open PySem PySem.Spec PyProof.Rows
section
variable {X:Cx} {x:Str} {p pos:Pos} {e:Expr} {es:List Expr} {t:TA} {id T:String} {r:List V->Hp->VK->Prop}
noncomputable def tCB (r:List V->Hp->VK->Prop) (t:TA):TE:=λσ H Q=>t σ H λvs H1=>r vs H1 Q
theorem zcj (hc:zb7 X (.builtin id) r) (hg:Gl X x) (hm:X.mg x=none) (hv:bootBuiltins x=some (.builtin id)) (ha:PA X (e::es) t) (hn:x ≠ "__name__":=by decide) (hdb:(x==("__debug__":Str))=false:=by decide)
  (he:starEach (e::es) X.env=(false,eval e X.env)::starEach es X.env:=by rfl) (hpl:(backTo pos (starEach es X.env)).any (·.1)=false:=by rfl):PE X (.Call (.Name x p) (e::es) [] pos) (tCB r t):=by
 intro pins s σ H Q I h
 refine wpAny_Call_Name_kw (zhk I hg hm hv ?_ hn hdb)
 exact PyProof.Rows.callWith_builtin1 (thn (ha pos pins s σ H _ I h) λus s1 ⟨vs,H1,I1,r1,q1⟩=>hc pins s1 σ H1 vs us Q I1 r1 q1) he hpl
theorem zbR (hc:zb7 X (.type T) r) (hg:Gl X x) (hm:X.mg x=none) (hv:bootBuiltins x=some (.type T)) (ha:PA X (e::es) t) (hn:x ≠ "__name__":=by decide) (hdb:(x==("__debug__":Str))=false:=by decide)
  (he:starEach (e::es) X.env=(false,eval e X.env)::starEach es X.env:=by rfl) (hpl:(backTo pos (starEach es X.env)).any (·.1)=false:=by rfl):PE X (.Call (.Name x p) (e::es) [] pos) (tCB r t):=by
 intro pins s σ H Q I h
 refine wpAny_Call_Name_kw (zhk I hg hm hv ?_ hn hdb)
 exact PyProof.Rows.callWith_type1 (thn (ha pos pins s σ H _ I h) λus s1 ⟨vs,H1,I1,r1,q1⟩=>hc pins s1 σ H1 vs us Q I1 r1 q1) he hpl
end
end L2
namespace HT
open PySem PyProof.Rows
section
open PySem.SeqAt
open PySem.AutoSeq1 (wpAny_loadPart')
open PySem.MeetsSeq PySem.MeetsSeq2 PySem.MeetsSeq3
end
section
variable {prog:Program} {w:World} {A:Around} {E:Value->Shared->Prop} {s:Shared}
noncomputable def sIx (n d:Nat):Option Int->Nat
 | none=>d
 | some v=>if v<0 then (v+(n:Int)).toNat else min v.toNat n
theorem zpp (n d:Nat) (hd:d<=n) (o:Option Int):sIx n d o<=n:=by
 cases o with
 | none=>exact hd
 | some v=>
  show (if v<0 then (v+(n:Int)).toNat else min v.toNat n)<=n
  by_cases hv:v<0
  ·rw [if_pos hv];omega
  ·rw [if_neg hv];exact Nat.min_le_right _ _
theorem ziP (v:Int) (n d:Nat):(if v<0 then max (v+(n:Int)) 0 else min v (n:Int))=((sIx n d (some v):Nat):Int):=by
 show (if v<0 then max (v+(n:Int)) 0 else min v (n:Int))=(((if v<0 then (v+(n:Int)).toNat else min v.toNat n):Nat):Int)
 by_cases hv:v<0
 ·simp only [if_pos hv];omega
 ·simp only [if_neg hv];omega
theorem zhX (lo hi:Option Int) (n:Nat):Builtin.Slice.sliceAdjust lo hi 1 (n:Int)=(((sIx n 0 lo:Nat):Int),((sIx n n hi:Nat):Int)):=by
 have h1:¬ ((1:Int)<0):=by omega
 unfold Builtin.Slice.sliceAdjust
 simp only [h1,if_false]
 refine Prod.ext ?_ ?_
 ·cases lo with
  | none=>rfl
  | some v=>exact ziP v n 0
 ·cases hi with
  | none=>rfl
  | some v=>exact ziP v n n
theorem zhL (i j:Nat):Builtin.Slice.slicePlaces (i:Int) (j:Int) 1=j-i:=by
 unfold Builtin.Slice.slicePlaces
 have h1:(1:Int)>0:=by omega
 simp only [h1,if_true,Int.ediv_one]
 split<;>omega
theorem zd6 {v:Value} {o:Option Int} {Q:Option Int->Shared->Prop} (p:IsPart v o) (h:Q o s):wpAny (model prog w) A (Builtin.Slice.slicePartIndex v) Q E s:=by
 cases p with
 | none=>exact slicePart_none h
 | int i t=>exact slicePart_int h
theorem zbD {sl:Addr} {vl vu:Value} {lo hi:Option Int} {n:Nat} {Q:Int×Int×Nat->Shared->Prop} (hs:s.heap.IsSliceOf sl vl vu .none) (pl:IsPart vl lo) (pu:IsPart vu hi)
    (h:Q (((sIx n 0 lo:Nat):Int),1,sIx n n hi-sIx n 0 lo) s):wpAny (model prog w) A (Builtin.Slice.sliceApplied (.ref sl) (pure (n:Int))) Q E s:=by
  obtain ⟨os,hos,hcs,hds⟩:=id hs
  unfold Builtin.Slice.sliceApplied Builtin.Slice.sliceFields
  refine wpAny_bind (wpAny_bind (wpAny_field hos hds (x:=vl) rfl (wpAny_bind (wpAny_field hos hds (x:=vu) rfl (wpAny_bind (wpAny_field hos hds (x:=.none) rfl (wpAny_pure ?_)))))))
  refine wpAny_bind (slicePart_none ?_)
  show wpAny _ _ (if ((1:Int)==0)=true then _ else _) _ _ s
  rw [if_neg (by decide)]
  refine wpAny_bind (zd6 pl (wpAny_bind (zd6 pu (wpAny_bind (wpAny_pure ?_)))))
  show wpAny _ _ (match Builtin.Slice.sliceAdjust lo hi 1 (n:Int) with | (lo,hi)=>pure (lo,(1:Int),Builtin.Slice.slicePlaces lo hi 1)) _ _ s
  rw [zhX lo hi n]
  show wpAny _ _ (pure (((sIx n 0 lo:Nat):Int),(1:Int),Builtin.Slice.slicePlaces ((sIx n 0 lo:Nat):Int) ((sIx n n hi:Nat):Int) 1)) _ _ s
  rw [zhL]
  exact wpAny_pure h
theorem zkO (xs:Array Value) (i k:Nat):((List.range k).filterMap λ(m:Nat)=>xs[((i:Int)+(m:Int)*1).toNat]?).toArray=((xs.toList.drop i).take k).toArray:=by
 have e:(λ(m:Nat)=>xs[((i:Int)+(m:Int)*1).toNat]?)=λm=>xs[i+m]?:=by
  funext m
  have:((i:Int)+(m:Int)*1).toNat=i+m:=by omega
  rw [this]
 rw [e]
 have:=pick_run xs i k
 rw [List.filterMap_map] at this
 have e2:((λx=>xs[x]?)∘λx=>i+x)=λm=>xs[i+m]?:=rfl
 rw [e2] at this
 rw [this]
theorem getItem_tuple_cut {t sl:Addr} {items:Array Value} {vl vu:Value} {lo hi:Option Int} {Q:Value->Shared->Prop} (ht:IsTup s.heap t items) (hs:s.heap.IsSliceOf sl vl vu .none) (pl:IsPart vl lo) (pu:IsPart vu hi)
  (hw:¬ (sIx items.size 0 lo=0/\sIx items.size items.size hi=items.size))
  (h:Q (.ref s.heap.objs.size) { s with heap:=s.heap.push { cls:=.type "tuple",data:=.seq ((items.toList.drop (sIx items.size 0 lo)).take (sIx items.size items.size hi-sIx items.size 0 lo)).toArray } })
  (hsz:items.size<=sizeLine):wpAny (model prog w) A (getItem (.ref t) (.ref sl)) Q E s:=by
 have htake:sizeOk (.seq ((items.toList.drop (sIx items.size 0 lo)).take (sIx items.size items.size hi-sIx items.size 0 lo)).toArray):=by
  show ((items.toList.drop (sIx items.size 0 lo)).take (sIx items.size items.size hi-sIx items.size 0 lo)).toArray.size<=sizeLine
  rw [List.size_toArray,List.length_take,List.length_drop,Array.length_toList]
  omega
 have hj:sIx items.size items.size hi<=items.size:=zpp _ _ (Nat.le_refl _) hi
 obtain ⟨os,hos,hcs,hds⟩:=id hs
 have hTs:s.TypeIs (.ref sl) "slice":=⟨os,hos,hcs⟩
 unfold getItem
 try with_reducible refine wpAny_holding ?_
 first | refine wpAny_bind (wpAny_pure ?_) | skip
 refine wpAny_bind (wpAny_sequenceKey ht.typeIs (by decide) ?_)
 refine wpAny_bind (wpAny_callSpecial?_slot (name:=Str.ofString "__getitem__") ht.typeIs PyProof.Rows.slot_tuple_getitem
  (wpAny_call_entry PyProof.Rows.slot_tuple_getitem ht.typeIs entry_tuple_getitem ?_ (args_tuple_getitem _ _)))
 show wpAny _ _ (Builtin.Tuple.tupleItemsOf (.ref t) >>= _) _ _ s
 refine wpAny_bind (tupleItemsOf_ ht ?_)
 refine wpAny_bind (wpAny_typeOf hTs ?_)
 rw [if_pos (by decide)]
 refine wpAny_bind (zbD hs pl pu ?_)
 have hno:¬ ((((sIx items.size 0 lo:Nat):Int)==0&&(1:Int)==1&&(sIx items.size items.size hi-sIx items.size 0 lo)==items.size)=true):=by
  intro q
  rw [Bool.and_eq_true,Bool.and_eq_true] at q
  have q1:((sIx items.size 0 lo:Nat):Int)=0:=eq_of_beq q.1.1
  have q2:sIx items.size items.size hi-sIx items.size 0 lo=items.size:=eq_of_beq q.2
  exact hw ⟨by omega,by omega⟩
 show wpAny _ _ (if (((sIx items.size 0 lo:Nat):Int)==0&&(1:Int)==1&&(sIx items.size items.size hi-sIx items.size 0 lo)==items.size)=true then _ else _) _ _ s
 rw [if_neg hno,zkO]
 first
  | exact wpAny_bind (m:=Builtin.Tuple.tupleExact _) (wpAny_newObj_type (wpAny_pure ⟨_,rfl,wpAny_pure h⟩) htake)
  | exact wpAny_bind (m:=Builtin.Tuple.tupleExact _) (wpAny_newObj_type (wpAny_bind (wpAny_pure (wpAny_pure ⟨_,rfl,wpAny_pure h⟩))) htake)
  | exact wpAny_bind (wpAny_bind (m:=Builtin.Tuple.tupleExact _) (wpAny_newObj_type (wpAny_pure (wpAny_pure ⟨_,rfl,wpAny_pure h⟩)) htake))
  | exact wpAny_bind (wpAny_bind (m:=Builtin.Tuple.tupleExact _) (wpAny_newObj_type (wpAny_pure ⟨_,rfl,wpAny_pure h⟩) htake))
end
end HT
namespace L2
open PySem PySem.Spec PyProof.Rows
noncomputable abbrev TO:=St->Hp->(Option Int->Hp->Prop)->Prop
noncomputable def PO (X:Cx) (e:Option Expr) (t:TO):Prop:=
 ∀ (pins:List (Addr×Obj)) (s:Shared) (σ:St) (H:Hp) (Q:Option Int->Hp->Prop),Inv X pins σ H s->t σ H Q →
  wpAny (model X.prog X.w) X.A (evalPart e X.env) (λu s'=>∃ o H',Inv X pins σ H' s'/\IsPart u o/\Q o H') X.xe s
noncomputable def zm9:TO:=λ_ H Q=>Q none H
section
variable {X:Cx} {e:Expr} {te:TE} {lo hi:Option Expr} {tl th:TO} {pos p2:Pos}
theorem zmq:PO X none zm9:=by
 intro pins s σ H Q I h
 rw [evalPart_none]
 exact wpAny_pure ⟨none,H,I,.none,h⟩
noncomputable def SlR (X:Cx) (r:V->Option Int->Option Int->Hp->VK->Prop):Prop:=
 ∀ (pins:List (Addr×Obj)) (s:Shared) (σ:St) (H:Hp) (x:V) (v vl vu:Value) (lo hi:Option Int) (sl:Addr) (Q:VK),Inv X pins σ H s->RelV x v->s.heap.IsSliceOf sl vl vu .none->IsPart vl lo->IsPart vu hi->r x lo hi H Q →
  ∃ T id,typeLookup (.type T) "__getitem__"=pure (some (.builtin id))/\s.TypeIs v T/\wpAny (model X.prog X.w) X.A (getItem v (.ref sl)) (EP X pins σ Q) X.xe s
theorem SlR.or {r r':V->Option Int->Option Int->Hp->VK->Prop} (h:SlR X r) (h':SlR X r'):SlR X (λx lo hi H Q=>r x lo hi H Q\/r' x lo hi H Q):=by
 intro pins s σ H x v vl vu lo hi sl Q I rx hs pl pu q
 rcases q with q | q
 ·exact h pins s σ H x v vl vu lo hi sl Q I rx hs pl pu q
 ·exact h' pins s σ H x v vl vu lo hi sl Q I rx hs pl pu q
noncomputable def tSl (r:V->Option Int->Option Int->Hp->VK->Prop) (te:TE) (tl th:TO):TE:=λσ H Q=>te σ H λx H1=>tl σ H1 λl H2=>th σ H2 λu H3=>r x l u H3 Q
theorem zkj {r:V->Option Int->Option Int->Hp->VK->Prop} (hr:SlR X r) (he:PE X e te) (hl:PO X lo tl) (hu:PO X hi th):PE X (.Subscript e (.Slice lo hi none p2) pos) (tSl r te tl th):=by
 intro pins s σ H Q I h
 refine Subscript_ (thn (he pins s σ H _ I h) λv s1 ⟨x,H1,I1,r1,q1⟩=>?_)
 refine wpAny_Slice (thn (hl pins s1 σ H1 _ I1 q1) λvl s2 ⟨l,H2,I2,pl,q2⟩=>thn (hu pins s2 σ H2 _ I2 q2) λvu s3 ⟨u,H3,I3,pu,q3⟩=>?_)
 rw [evalPart_none]
 refine wpAny_pure ?_
 have I4:Inv X pins σ H3 { s3 with heap:=s3.heap.push { cls:=.type "slice",data:=.fields #[vl,vu,.none] } }:=I3.kept (t':=s3.toks) λb ob q=>Heap.get?_push_of_some _ q
 obtain ⟨T,id,hT,ht,hg⟩:=hr pins { s3 with heap:=s3.heap.push { cls:=.type "slice",data:=.fields #[vl,vu,.none] } } σ H3 x v vl vu l u s3.heap.objs.size Q I4 r1 (Heap.IsSliceOf.new ..) pl pu q3
 show wpAny (model X.prog X.w) X.A (subscriptTail e (.Slice lo hi none p2) v (.ref s3.heap.objs.size)) (EP X pins σ Q) X.xe { s3 with heap:=s3.heap.push { cls:=.type "slice",data:=.fields #[vl,vu,.none] } }
 exact tail_any (ops:=[.ref s3.heap.objs.size,v]) ht hT hg (by with_unfolding_all rfl)
noncomputable def cutV (xs:List V) (lo hi:Option Int):List V:=(xs.drop (HT.sIx xs.length 0 lo)).take (HT.sIx xs.length xs.length hi-HT.sIx xs.length 0 lo)
theorem zgo (xs:List V) (lo hi:Option Int):(cutV xs lo hi).length<=xs.length:=by
 unfold cutV
 rw [List.length_take,List.length_drop]
 omega
noncomputable def rSlT (K:PySem.W.Frag):V->Option Int->Option Int->Hp->VK->Prop:=λx lo hi H Q=>∃ a xs,x=.ref a/\SqT K H a xs ∧
 ¬ (HT.sIx xs.length 0 lo=0/\HT.sIx xs.length xs.length hi=xs.length)/\∀ p,H p=none->Q (.ref p) (upd H p (.tup (cutV xs lo hi)))
theorem zn5:SlR X (rSlT X.K):=by
 intro pins s σ H x v vl vu lo hi sl Q I rx hs pl pu h
 obtain ⟨a,xs,rfl,hx,hw,q⟩:=h
 cases rx
 obtain ⟨its,r,ht,hz⟩:=I.tuple hx
 have hlen:its.toArray.size=xs.length:=by rw [List.size_toArray];exact r.length.symm
 refine ⟨"tuple",_,PyProof.Rows.slot_tuple_getitem.lookup,ht.typeIs,?_⟩
 refine HT.getItem_tuple_cut ht hs pl pu (by rw [hlen];exact hw) ?_ (by rw [hlen];exact hz)
 rw [hlen]
 refine ⟨.ref s.heap.objs.size,_,I.laid (t':=s.toks) (o:=.tup (cutV xs lo hi)) (λb ob q=>Heap.get?_push_of_some _ q) (Nat.le_refl _) ?_,rfl,q _ (I.hok.fresh (Nat.le_refl _))⟩
 exact ⟨Nat.le_trans (zgo xs lo hi) hz,_,(r.drop (HT.sIx xs.length 0 lo)).take (HT.sIx xs.length xs.length hi-HT.sIx xs.length 0 lo),zeh.new _ _⟩
end
end L2
namespace L2
open PySem PySem.Spec PyProof.Rows
noncomputable def ixN (n:Nat) (i:Int):Option Nat:=if 0<=i then (if i<n then some i.toNat else none) else if -(n:Int)<=i then some (i+n).toNat else none
noncomputable def atI {α:Type} (xs:List α) (i:Int):Option α:=(ixN xs.length i).bind λj=>xs[j]?
theorem zmo {n:Nat} {i:Int} {j:Nat} (h:ixN n i=some j):seqIndex? i n=some j/\j<n/\-(n:Int)<=i/\i<n:=by
 unfold ixN at h
 by_cases h0:0<=i
 ·rw [if_pos h0] at h
  by_cases h1:i<n
  ·rw [if_pos h1] at h
   have e:i.toNat=j:=Option.some.inj h
   exact ⟨by rw [seqIndex_of h0 h1,e],by omega,by omega,h1⟩
  ·rw [if_neg h1] at h;cases h
 ·rw [if_neg h0] at h
  by_cases h1:-(n:Int)<=i
  ·rw [if_pos h1] at h
   have e:(i+n).toNat=j:=Option.some.inj h
   exact ⟨by rw [seqIndex_neg (by omega) h1,e],by omega,h1,by omega⟩
  ·rw [if_neg h1] at h;cases h
theorem zim {α:Type} {xs:List α} {i:Int} {v:α} (h:atI xs i=some v):∃ j,seqIndex? i xs.length=some j/\xs[j]?=some v/\j<xs.length/\-(xs.length:Int)<=i/\i<xs.length:=by
 unfold atI at h
 cases e:ixN xs.length i with
 | none=>rw [e] at h;cases h
 | some j=>
  rw [e] at h
  obtain ⟨h1,h2,h3,h4⟩:=zmo e
  exact ⟨j,h1,h,h2,h3,h4⟩
noncomputable def zds (b:Expr):Prop:=∀ o i,subscripted b false o i=operate [o,i] (getItem o i)
noncomputable def IxR (X:Cx) (r:R2):Prop:=
 ∀ (value slice:Expr) (pins:List (Addr×Obj)) (s:Shared) (σ:St) (H:Hp) (x y:V) (v u:Value) (Q:VK),Inv X pins σ H s->RelV x v->RelV y u->r x y H Q →
  subscripted slice false v u=operate [v,u] (getItem v u)->wpAny (model X.prog X.w) X.A (subscriptTail value slice v u) (EP X pins σ Q) X.xe s
noncomputable def MtR (X:Cx) (id:String) (r:V->List V->Hp->VK->Prop):Prop:=
 ∀ (pins:List (Addr×Obj)) (s:Shared) (σ:St) (H:Hp) (x:V) (xs:List V) (v:Value) (us:List Value) (Q:VK),Inv X pins σ H s->RelV x v->Vals xs us->r x xs H Q →
  wpAny (model X.prog X.w) X.A (call (.builtin id) (v::us)) (EP X pins σ Q) X.xe s
section
variable {X:Cx} {a b:Expr} {ta tb:TE} {pos:Pos}
theorem IxR.or {r r':R2} (h:IxR X r) (h':IxR X r'):IxR X (λx y H Q=>r x y H Q\/r' x y H Q):=by
 intro value slice pins s σ H x y v u Q I rx ry q hs
 rcases q with q | q
 ·exact h value slice pins s σ H x y v u Q I rx ry q hs
 ·exact h' value slice pins s σ H x y v u Q I rx ry q hs
theorem MtR.or {id:String} {r r':V->List V->Hp->VK->Prop} (h:MtR X id r) (h':MtR X id r'):MtR X id (λx xs H Q=>r x xs H Q\/r' x xs H Q):=by
 intro pins s σ H x xs v us Q I rx rs q
 rcases q with q | q
 ·exact h pins s σ H x xs v us Q I rx rs q
 ·exact h' pins s σ H x xs v us Q I rx rs q
theorem zmp {r:R2} (hr:IxR X r) (ha:PE X a ta) (hb:PE X b tb) (hs:zds b):PE X (.Subscript a b pos) (tOp r ta tb):=by
 intro pins s σ H Q I h
 exact Subscript_ (binT ha hb I h λv u s2 x y H2 I2 rx ry q=>hr a b pins s2 σ H2 x y v u Q I2 rx ry q (hs _ _))
noncomputable def rIxL (K:PySem.W.Frag):R2:=λx y H Q=>∃ p xs i v,x=.ref p/\y=.int i/\SqL K H p xs/\atI xs i=some v/\Q v H
noncomputable def rIxT (K:PySem.W.Frag):R2:=λx y H Q=>∃ p xs i v,x=.ref p/\y=.int i/\SqT K H p xs/\atI xs i=some v/\Q v H
theorem zmF:IxR X (rIxL X.K):=by
 intro value slice pins s σ H x y v u Q I rx ry h hs
 obtain ⟨p,xs,i,z,rfl,rfl,hq,he,q⟩:=h
 cases rx
 obtain ⟨t,rfl⟩:=ry
 obtain ⟨its,r,pl,hz⟩:=I.list hq
 obtain ⟨j,h1,h2,h3,h4,h5⟩:=zim he
 obtain ⟨w,ew,rw'⟩:=r.get h2
 have hl:=r.length
 have hn:=zfm
 have fin:EP X pins σ Q w s:=⟨z,H,I,rw',q⟩
 by_cases h0:0<=i
 ·have hj:i.toNat=j:=by
   rw [seqIndex_of h0 h5] at h1
   exact Option.some.inj h1
  exact item_listR pl.isList h0 (by omega) (by rw [hj];simpa using ew) fin hs
 ·have hj:(i+(its.toArray.size:Int)).toNat=j:=by
   rw [seqIndex_neg (by omega) h4] at h1
   rw [List.size_toArray,<-hl]
   exact Option.some.inj h1
  exact subscriptTail_builtinR (x:=w) pl.isList.typeIs slot_list_getitem.lookup
   (wpAny_getItem_list_neg (Q:=λr s'=>r=w/\EP X pins σ Q r s') pl.isList (by omega) (by rw [List.size_toArray]<;>omega) (by omega) (by rw [hj];simpa using ew) ⟨rfl,fin⟩) hs
theorem zpi:IxR X (rIxT X.K):=by
 intro value slice pins s σ H x y v u Q I rx ry h hs
 obtain ⟨p,xs,i,z,rfl,rfl,hq,he,q⟩:=h
 cases rx
 obtain ⟨t,rfl⟩:=ry
 obtain ⟨its,r,pl,hz⟩:=I.tuple hq
 obtain ⟨j,h1,h2,h3,h4,h5⟩:=zim he
 obtain ⟨w,ew,rw'⟩:=r.get h2
 have hl:=r.length
 have hn:=zfm
 have fin:EP X pins σ Q w s:=⟨z,H,I,rw',q⟩
 exact subscriptTail_builtinR (x:=w) pl.typeIs slot_tuple_getitem.lookup
  (getItem_tuple (j:=j) (Q:=λr s'=>r=w/\EP X pins σ Q r s') pl (by omega) (by omega) (by rw [List.size_toArray,<-hl];exact h1) (by simpa using ew) ⟨rfl,fin⟩) hs
theorem Inv.lst {pins:List (Addr×Obj)} {σ:St} {H:Hp} {s:Shared} {p:Addr} {xs:List V} (I:Inv X pins σ H s) (h:H p=some (.lst xs)) :
  ∃ (its:List Value) (n:Nat),Vals xs its/\s.heap.get? p=some { cls:=.type "list",data:=.seq its.toArray n }/\xs.length<=sizeLine:=by
 obtain ⟨z,its,n,r,e⟩:=I.hok p _ h
 exact ⟨its,n,r,e,z⟩
theorem zb7.or {f:Value} {r r':List V->Hp->VK->Prop} (h:zb7 X f r) (h':zb7 X f r'):zb7 X f (λxs H Q=>r xs H Q\/r' xs H Q):=by
 intro pins s σ H xs us Q I rs q
 rcases q with q | q
 ·exact h pins s σ H xs us Q I rs q
 ·exact h' pins s σ H xs us Q I rs q
theorem zeR:zb7 X (.type "tuple") (λxs H Q=>∃ p ys,xs=[.ref p]/\((SqL X.K H p ys/\∀ l,H l=none->Q (.ref l) (upd H l (.tup ys)))\/(SqT X.K H p ys/\Q (.ref p) H))):=by
 intro pins s σ H xs us Q I r h
 obtain ⟨p,ys,rfl,h⟩:=h
 obtain ⟨u,rfl,rx⟩:=zhy r
 cases rx
 rcases h with ⟨hq,q⟩ | ⟨hq,q⟩
 ·obtain ⟨its,r',pl,hz⟩:=I.list hq
  have hlen:=r'.length
  refine call_tuple_list pl.isList (λh' kp=>?_) (by simp only [List.size_toArray]<;>omega)
  have I1:Inv X pins σ H { s with heap:=h' }:=I.kept (t':=s.toks) kp
  have I2:Inv X pins σ (upd H h'.objs.size (.tup ys)) { s with heap:=h'.push { cls:=.type "tuple",data:=.seq its.toArray } }:=
   I1.laid (t':=s.toks) (λb o e=>Heap.get?_push_of_some _ e) (Nat.le_refl _) (show zbh X.prog X.w _ _ _ (.tup ys) from ⟨hz,its,r',zeh.new _ _⟩)
  exact ⟨.ref h'.objs.size,_,I2,rfl,q _ (I1.hok.fresh (Nat.le_refl _))⟩
 ·obtain ⟨its,r',pl,hz⟩:=I.tuple hq
  exact call_tuple_same pl ⟨.ref p,H,I,rfl,q⟩
noncomputable def tyV (K:PySem.W.Frag) (T:String) (x:V) (H:Hp):Prop:=match x with
 | .str _=>T="str"
 | .int _=>T="int"
 | .ref p=>(T="list"/\∃ xs,SqL K H p xs)\/(T="tuple"/\∃ xs,SqT K H p xs) ∨
   (T="dict"/\((∃ kvs,H p=some (.dK kvs))\/∃ kvs,Rd H p (.dT kvs)))\/(T="set"/\∃ S n,H p=some (.set S n))
 | _=>False
theorem zls {pins:List (Addr×Obj)} {σ:St} {H:Hp} {s:Shared} {T:String} {x:V} {v:Value} (I:Inv X pins σ H s) (r:RelV x v) (ty:tyV X.K T x H) :
  s.TypeIs v T/\∀ a,v=.ref a->∃ ob,s.heap.get? a=some ob/\ob.dict=none:=by
 cases x with
 | str z=>
  obtain ⟨t,rfl⟩:=r
  cases (show T="str" from ty)
  exact ⟨typeIs_str s z t,λ_ e=>nomatch e⟩
 | int i=>
  obtain ⟨t,rfl⟩:=r
  cases (show T="int" from ty)
  exact ⟨typeIs_int s i t,λ_ e=>nomatch e⟩
 | ref p=>
  cases r
  rcases ty with ⟨rfl,xs,hq⟩ | ⟨rfl,xs,hq⟩ | ⟨rfl,hk⟩ | ⟨rfl,S,n,hk⟩
  ·obtain ⟨its,_,pl,_⟩:=I.list hq
   refine ⟨pl.isList.typeIs,λa e=>?_⟩
   cases e
   obtain ⟨o,n,e,c,hd,_⟩:=pl
   exact ⟨o,e,hd⟩
  ·obtain ⟨its,_,⟨o,e,c,_⟩,_⟩:=I.tuple hq
   refine ⟨⟨o,e,c⟩,λa e2=>?_⟩
   cases e2
   exact ⟨o,e,I.tupleB hq o e⟩
  ·have z:∃ o,s.heap.get? p=some o/\o.ExactDict:=by
    rcases hk with ⟨kvs,hk⟩ | ⟨kvs,hk⟩
    ·obtain ⟨_,_,_,_,o,_,_,e,ex,_⟩:=I.hok p _ hk
     exact ⟨o,e,ex⟩
    ·obtain ⟨_,_,_,_,o,_,_,e,ex,_⟩:=(show zbh X.prog X.w H s.heap p (.dT kvs) from hk.ok I.hok)
     exact ⟨o,e,ex⟩
   obtain ⟨o,e,ex⟩:=z
   refine ⟨⟨o,e,ex.1⟩,λa e2=>?_⟩
   cases e2
   exact ⟨o,e,ex.2.1⟩
  ·obtain ⟨o,_,_,_,e,ex,_⟩:=I.hok p _ hk
   refine ⟨⟨o,e,ex.1⟩,λa e2=>?_⟩
   cases e2
   exact ⟨o,e,ex.2.1⟩
 | _=>exact False.elim ty
noncomputable def tBM0 (K:PySem.W.Frag) (T:String) (r:V->List V->Hp->VK->Prop) (to:TE):TE:=λσ H Q=>to σ H λx H1=>tyV K T x H1/\r x [] H1 Q
noncomputable def tBM (K:PySem.W.Frag) (T:String) (r:V->List V->Hp->VK->Prop) (to:TE) (t:TA):TE:=λσ H Q=>to σ H λx H1=>tyV K T x H1/\t σ H1 λxs H2=>r x xs H2 Q
variable {o e:Expr} {es:List Expr} {to:TE} {t:TA} {name:Str} {apos cpos:Pos} {T id:String} {r:V->List V->Hp->VK->Prop}
theorem zlv (pa:PlainAttrs T) (slot:Slot T name id) (hty:typeOf (.builtin id)=pure (.type "method_descriptor")) (hm:MtR X id r) (ho:PE X o to)
  (hbase:attributeBase o name X.env (eval o X.env)=eval o X.env:=by rfl) (hline:(apos.endLine==cpos.line)=true:=by rfl):PE X (.Call (.Attribute o name apos) [] [] cpos) (tBM0 X.K T r to):=by
 intro pins s σ H Q I h
 refine wpAny_Call_method0_late hbase hline (thn (ho pins s σ H _ I h) λv s1 ⟨x,H1,I1,r1,ty,q1⟩=>?_)
 obtain ⟨h1,h2⟩:=zls I1 r1 ty
 exact ⟨T,id,pa,slot,hty,h1,h2,Calls.callWith_builtin rfl (PySem.evalArgs_none (hm pins s1 σ H1 x [] v [] Q I1 r1 .nil q1))⟩
theorem zkf (pa:PlainAttrs T) (slot:Slot T name id) (hty:typeOf (.builtin id)=pure (.type "method_descriptor")) (hm:MtR X id r) (ho:PE X o to) (ha:PA X (e::es) t)
  (hbase:attributeBase o name X.env (eval o X.env)=eval o X.env:=by rfl)
  (hfew:((backTo cpos (starEach (e::es) X.env)).all (λx=>!x.1)&&(backToKw cpos (keywordEach [] X.env)).all (λx=>x.1.isSome)
   && decide ((e::es).length+([]:List Keyword).length+(if ([]:List Keyword).isEmpty then 0 else 1)<30))=true:=by rfl)
  (hline:(apos.endLine==cpos.line)=true:=by rfl) (hs:starEach (e::es) X.env=(false,eval e X.env)::starEach es X.env:=by rfl) (hplain:(backTo cpos (starEach es X.env)).any (·.1)=false:=by rfl) :
  PE X (.Call (.Attribute o name apos) (e::es) [] cpos) (tBM X.K T r to t):=by
 intro pins s σ H Q I h
 refine wpAny_Call_method_late hbase hfew hline rfl (thn (ho pins s σ H _ I h) λv s1 ⟨x,H1,I1,r1,ty,q1⟩=>?_)
 obtain ⟨h1,h2⟩:=zls I1 r1 ty
 refine ⟨T,id,pa,slot,hty,h1,h2,?_⟩
 have hA:=ha cpos pins s1 σ H1 _ I1 q1
 rw [hs] at hA ⊢
 refine Calls.callWith_builtin (by show (false||(backTo cpos (starEach es X.env)).any (·.1))=false;rw [hplain]<;>rfl) (Calls.evalArgs_plain ?_)
 exact thn hA λus s2 ⟨vs,H2,I2,r2,q2⟩=>hm pins s2 σ H2 x vs v us Q I2 r1 r2 q2
/- xs.append(e),list.index on a module's tuple .. are MtR facts of 06m -/
end
end L2
namespace L2
open PySem PySem.Spec PyProof.Rows
noncomputable def MtM (X:Cx) (id:String) (r:V->List V->Hp->VK->Prop):Prop:=
 ∀ (pins:List (Addr×Obj)) (s:Shared) (σ:St) (H:Hp) (x:V) (xs:List V) (v:Value) (us:List Value) (Q:VK),Inv X pins σ H s->RelV x v->Vals xs us->r x xs H Q →
  wpAny (model X.prog X.w) X.A (call (.builtin id) (v::us)) (EP X pins σ Q) X.xe s
theorem Vals.one:∀ {x:V} {us:List Value},Vals [x] us->∃ u,us=[u]/\RelV x u
 | _,_,.cons r .nil=>⟨_,rfl,r⟩
theorem Vals.two:∀ {x y:V} {us:List Value},Vals [x,y] us->∃ u v,us=[u,v]/\RelV x u/\RelV y v
 | _,_,_,.cons r (.cons q .nil)=>⟨_,_,rfl,r,q⟩
theorem Vals.zero:∀ {us:List Value},Vals [] us->us=[]
 | _,.nil=>rfl
theorem Vals.dropLast {xs:List V} {us:List Value} (h:Vals xs us):Vals xs.dropLast us.dropLast:=by
 induction h with
 | nil=>exact .nil
 | cons r t ih=>
  cases t with
  | nil=>exact .nil
  | cons q t'=>exact .cons r ih
theorem Vals.eraseIdx:∀ {xs:List V} {us:List Value} (i:Nat),Vals xs us->Vals (xs.eraseIdx i) (us.eraseIdx i)
 | _,_,_,.nil=>.nil
 | _,_,0,.cons _ t=>t
 | _,_,i+1,.cons r t=>.cons r (Vals.eraseIdx i t)
theorem Vals.reverse {xs:List V} {us:List Value} (h:Vals xs us):Vals xs.reverse us.reverse:=by
 induction h with
 | nil=>exact .nil
 | cons r t ih=>rw [List.reverse_cons,List.reverse_cons];exact Vals.append ih (.cons r .nil)
theorem zhz {α:Type} (l:List α):l.eraseIdx (l.length-1)=l.dropLast:=by
 induction l with
 | nil=>rfl
 | cons a r ih=>
  cases r with
  | nil=>rfl
  | cons b r=>
   have e:(a::b::r).length-1=((b::r).length-1)+1:=by
    have h1:(a::b::r).length=r.length+2:=rfl
    have h2:(b::r).length=r.length+1:=rfl
    omega
   rw [e,List.eraseIdx_cons_succ,ih]
   all_goals rfl
section
variable {X:Cx} {pins:List (Addr×Obj)} {σ:St} {H:Hp} {s:Shared} {l b:Addr} {xs ys zs:List V}
theorem Inv.lset {its its':List Value} {n:Nat} {f:Array Value->Array Value} {t':Nat} (I:Inv X pins σ H s) (hH:H l=some (.lst xs))
  (e:s.heap.get? l=some { cls:=.type "list",data:=.seq its.toArray n }) (hf:f its.toArray=its'.toArray) (hv:Vals ys its') (hz:ys.length<=sizeLine) :
  Inv X pins σ (upd H l (.lst ys)) { s with heap:=s.heap.update l (Obj.mapSeq f),toks:=t' }:=by
 have q:=PySem.IsL.update e f
 rw [hf] at q
 refine I.write (x:=l) (e:=l) (by rw [hH];exact trivial) (.inl rfl) (λb' u hb hu=>(Heap.get?_update_other s.heap (Obj.mapSeq f) (Ne.symm hb)).trans hu) ⟨_,q⟩ ?_
 exact ⟨hz,its',_,hv,q⟩
theorem Inv.lnew {its:List Value} {t':Nat} (I:Inv X pins σ H s) (hv:Vals ys its) (hz:ys.length<=sizeLine) :
  Inv X pins σ (upd H s.heap.objs.size (.lst ys)) { s with heap:=s.heap.push { cls:=.type "list",data:=.seq its.toArray },toks:=t' }:=
 I.laid (λ_ _ q=>Heap.get?_push_of_some _ q) (Nat.le_refl _) ⟨hz,its,0,hv,Heap.get?_push_size _ rfl⟩
theorem Inv.fresh (I:Inv X pins σ H s):H s.heap.objs.size=none:=I.hok.fresh (Nat.le_refl _)
theorem Inv.lstM (I:Inv X pins σ H s) (hH:H l=some (.lst xs)):xs.length<=sizeLine/\∃ (its:List Value) (n:Nat),Vals xs its/\xs.length=its.length/\s.heap.get? l=some { cls:=.type "list",data:=.seq its.toArray n }:=by
 obtain ⟨z,its,n,r,e⟩:=I.hok l _ hH
 exact ⟨z,its,n,r,r.length,e⟩
end
section
variable {X:Cx}
noncomputable def zmm:V->List V->Hp->VK->Prop:=λx vs H Q=>∃ l xs y,x=.ref l/\vs=[y]/\H l=some (.lst xs)/\xs.length<sizeLine/\Q .non (upd H l (.lst (xs++[y])))
theorem zj3:MtM X "list.append" zmm:=by
 intro pins s σ H x vs v us Q I rx rv h
 obtain ⟨l,xs,y,rfl,rfl,hH,hz,q⟩:=h
 cases rx
 obtain ⟨u,rfl,ru⟩:=rv.one
 obtain ⟨z,its,n,r,hl,e⟩:=I.lstM hH
 refine call_meets F.slot_list_append ⟨_,e,rfl⟩ F.entry_list_append (F.args_list_append_2 _ _) (PySem.list_append l its.toArray n u (by rw [List.size_toArray];omega)) ⟨e,?_⟩
 refine ⟨.non,_,I.lset (its':=its++[u]) hH e (by simp) (r.append (.cons ru .nil)) ?_,rfl,q⟩
 rw [List.length_append,List.length_singleton]
 omega
noncomputable def rPop:V->List V->Hp->VK->Prop:=λx vs H Q=>∃ l xs y,x=.ref l/\vs=[]/\H l=some (.lst xs)/\xs[xs.length-1]?=some y/\Q y (upd H l (.lst xs.dropLast))
theorem znQ:MtM X "list.pop" rPop:=by
 intro pins s σ H x vs v us Q I rx rv h
 obtain ⟨l,xs,y,rfl,rfl,hH,hy,q⟩:=h
 cases rx
 have hus:=rv.zero
 subst hus
 obtain ⟨z,its,n,r,hl,e⟩:=I.lstM hH
 obtain ⟨u,hu,ru⟩:=r.get hy
 have hy':its.toArray[its.toArray.size-1]?=some u:=by
  show its.toArray[its.length-1]?=some u
  rw [<-Array.getElem?_toList,<-hl]
  exact hu
 refine call_meets F.slot_list_pop ⟨_,e,rfl⟩ F.entry_list_pop (F.args_list_pop_1 _) (MeetsSeq.list_pop_last l its.toArray n u hy' (by rw [List.size_toArray];omega)) ⟨e,?_⟩
 refine ⟨y,_,I.lset (its':=its.dropLast) hH e ?_ r.dropLast ?_,ru,q⟩
 ·show its.toArray.eraseIdxIfInBounds (its.toArray.size-1)=its.dropLast.toArray
  rw [List.size_toArray,List.eraseIdxIfInBounds_toArray,zhz]
 ·rw [List.length_dropLast]
  omega
end
section
variable {prog:Program} {w:World} {A:Around} {E:Value->Shared->Prop} {s:Shared}
end
section
variable {X:Cx}
end
end L2
namespace Att
open PySem PySem.W PySem.Calls PyProof.Rows
theorem zdv {P:Params} {h:Heap}:∀ (ns:List Int) (vs:List Value),WellAll P h vs (ns.map WData.int)->IntsAre vs ns:=by
 intro ns
 induction ns with
 | nil=>
  intro vs w
  rw [List.map_nil] at w
  cases w
  exact .nil
 | cons n ns ih=>
  intro vs w
  rw [List.map_cons] at w
  cases w with
  | cons a b=>
   cases a
   exact .cons _ _ (ih _ b)
theorem ziD {l:OpenLaw} {n:Nat} (hn:l.most=some n) {P:Params} {h:Heap} {args:List WData} {vals:List Value}
  (hpre:l.row.toRowW.claim.pre args=true) (hwl:WellAll P h vals args) :
  ∃ a vs ns,vals=[Value.ref a]/\args=[WData.list (ns.map WData.int)]/\h.get? a=some { cls:=.type "list",data:=.seq vs.toArray }/\IntsAre vs ns/\ns.length<=n:=by
 have hsh:WShape.hasAll [] args [.list .int]=true:=(pre_splitW hpre).1
 have hc:l.pre.holds [] { args:=args }=true:=(pre_splitW hpre).2
 obtain ⟨d,r,rfl,h1,h2⟩:=hasAllW_cons hsh
 obtain rfl:=hasAllW_nil h2
 obtain ⟨xs,rfl,h3⟩:=hasW_list h1
 obtain ⟨ns,rfl⟩:=items_int h3
 have hlen:ns.length<=n:=by
  unfold OpenLaw.pre at hc
  have h4:(WTm.not (.lt (.lit (.int (n:Int))) (.len (.arg 0)))).holds [] { args:=[.list (ns.map .int)] }=true:=by
   have h4:=(holds_andW hc).1
   rw [hn] at h4
   exact h4
  have h5:=condW_of h4 (w_not (w_lt w_lit (w_len_list (w_arg rfl))))
  rw [List.length_map] at h5
  refine Nat.le_of_not_lt λq=>?_
  have q':(n:Int)<((ns.length:Nat):Int):=by omega
  first
   | (rw [decide_eq_true q'] at h5;exact absurd h5 (by decide))
   | (simp at h5;omega)
 cases hwl with
 | cons w1 w2=>
  cases w2
  cases w1 with
  | list ho hall=>exact ⟨_,_,ns,rfl,rfl,ho,zdv ns _ hall,hlen⟩
theorem zia (l:OpenLaw) (args:List WData):l.row.toRowW.claim.post args (.bool true) args=true:=
 postW_of (r:=l.row.toRowW) (X:=(true==true))
  (show WShape.has [] (.bool true) .bool=true by first | rfl | decide | simp [WShape.has,WShape.arms,WShape.armsAll])
  (show (WTm.eq .res (.lit (.bool true))).value [] { args:=args,res:=some (.bool true),after:=args }=some (.bool (true==true)) from w_eq_bool (w_res rfl) w_lit) rfl
theorem attach_call {l:OpenLaw} {n:Nat} {q:Program} {loose:List Str} {XP:(Str->Option Value)->Heap->Prop} {YP:World->Heap->Prop} {d:DefRec}
  (hn:l.most=some n) (hdf:d.params.defaults=[])
  (call:∀ (w:World) (s₀ s₁:Shared) (mg mb:Str->Option Value) (fa:Addr) (o:Obj) (pm cd doc:Value) (a:Addr) (vs:List Value) (ns:List Int),
   Ground q loose [] XP w s₀ mg mb s₁.heap->YP w s₁.heap →
   s₁.heap.get? fa=some o->o.data=.func (docDef d.name d.params d.body d.scope pm cd doc)->s₁.heap.CodeRec cd d.name->mg d.name=some (.ref fa) →
   s₁.heap.get? a=some { cls:=.type "list",data:=.seq vs.toArray }->IntsAre vs ns->ns.length<=n->s₁.gens=#[] →
   codeAny (model l.prog w) callerA (.call (.ref fa) ⟨[.ref a],[]⟩) (λr s'=>r=.ok (.ret (.bool true))/\OldK s₁.heap s'.heap/\s'.os=s₁.os/\AllBare s'.gens) s₁) :
  WalkO q loose XP YP l.row.toRowW d [] (λf vs=>PySem.call f vs):=by
 intro w s₀ s₁ mg mb G Y fa o pm cd doc dV kV ho hd hcd hD hmg hg args vals as hpre hlay hrd hwl hlo
 obtain rfl:dV=.none:=Dflts.none hD hdf
 obtain rfl:kV=.none:=Dflts.noKw hD
 obtain ⟨a,vs,ns,rfl,rfl,hobj,hints,hlen⟩:=ziD hn hpre hwl
 refine enter_call (codeAny_mono (call w s₀ s₁ mg mb fa o pm cd doc a vs ns G Y ho (fd_plain hd) hcd hmg hobj hints hlen hg) λr s' hq=>?_)
 obtain ⟨rfl,h2,h3,h4⟩:=hq
 exact ⟨.inl ⟨.bool true,.bool true,[],rfl,λ_=>rfl,.bool true,zia l _,λ_=>⟨List.Pairwise.nil,λ_ hm=>(nomatch hm)⟩⟩,h2,h3,h4⟩
section
variable {prog:Program} {w:World} {A:Around} {E:Value->Shared->Prop} {s:Shared} {K:Frag}
noncomputable def zqq (h:Heap) (L d:Addr):List (Addr×Obj):=(List.range h.objs.size).filterMap λa=>if a=L\/a=d then none else (h.get? a).map λo=>(a,o)
end
end Att
namespace L2
open PySem PySem.Spec PyProof.Rows
theorem zfO:∀ {vs:List Value} {ns:List Int},IntsAre vs ns->Vals (ns.map V.int) vs
 | _,_,.nil=>.nil
 | _,_,.cons n t h=>.cons ⟨t,rfl⟩ (zfO h)
noncomputable def Only (H:Hp):Prop:=∀ b,H b=none\/∃ o xs,H b=some (.frz o (.lst xs))
theorem law_call {P:Program} {w:World} {K:PySem.W.Frag} {mg mb:Str->Option Value} {CX:CXT} {k:Nat} {fa a:Addr} {fd:FuncData} {x:Str} {sp:Sp} {s₁:Shared} {vs:List Value} {ns:List Int}
  (KX:K.In s₁.heap) (hns:s₁.heap.Ns mainGlobals mg) (hb:s₁.heap.Ns builtinsNs mb) (hbb:∀ x:Str,x ≠ "__name__"->mb x=bootBuiltins x) (hlim:s₁.heap.NoLimit) (hg:s₁.gens=#[])
  (ha:s₁.heap.get? a=some { cls:=.type "list",data:=.seq vs.toArray }) (hi:IntsAre vs ns) (hl:ns.length<=sizeLine) (hr:Room k callerA)
  (F:∀ base:Heap,K.In base->base.Ns mainGlobals mg->FnOk P w K mg base CX k fa fd [x] sp) (hbind:∀ (s:Shared) (u:Value),BindsTo s fd ⟨[u],[]⟩ [(x,u)])
  (hsp:∀ H:Hp,Only H->SqL K H a (ns.map V.int)->sp [.ref a] H (λv _=>v=.bl true) λ_ _ _=>False)
  (hCX:∀ H e s',CX [] H s₁ (λ_ _ _=>False) e s'->False) :
  codeAny (model P w) callerA (.call (.ref fa) ⟨[.ref a],[]⟩) (λr s'=>r=.ok (.ret (.bool true))/\OldK s₁.heap s'.heap/\s'.os=s₁.os/\AllBare s'.gens) s₁:=by
 have rv:=zfO hi
 have lenV:=hi.length
 have core:∀ H:Hp,Only H->SqL K H a (ns.map V.int)->HOk P w H s₁.heap->(∀ b,H b≠none->b=a)->(H a≠none->K.lookup a=none) →
   codeAny (model P w) callerA (.call (.ref fa) ⟨[.ref a],[]⟩) (λr s'=>r=.ok (.ret (.bool true))/\OldK s₁.heap s'.heap/\s'.os=s₁.os/\AllBare s'.gens) s₁:=by
  intro H hO hS hok hA hK
  have base_of:∀ {b:Addr} {o:Obj},s₁.heap.get? b=some o->H b=none->(hidT s₁.heap H).get? b=some o:=λe n=>zlm e n
  have noA:∀ {b:Addr} {o:Obj} {es:Array DictEntry} {ep:Nat},s₁.heap.get? b=some o->o.data=.dict es ep->H b=none:=λ{b o es ep} e d=>by
   cases q:H b with
   | none=>rfl
   | some u=>
    have e':b=a:=hA b (by rw [q];simp)
    subst e'
    rw [ha] at e;cases e
    have d':Data.seq vs.toArray _=Data.dict es ep:=d
    cases d'
  have nsK:∀ {b:Addr} {m:Str->Option Value},s₁.heap.Ns b m->(hidT s₁.heap H).Ns b m:=λ{b m} ⟨o,es,ep,e,d,r⟩=>⟨o,es,ep,base_of e (noA e d),d,r⟩
  have hKb:K.In (hidT s₁.heap H):=λb o e=>base_of (KX b o e) (by
   cases q:H b with
   | none=>rfl
   | some u=>
    have e':b=a:=hA b (by rw [q];simp)
    subst e'
    rw [hK (by rw [q];simp)] at e;cases e)
  have hM:Mod K mg (hidT s₁.heap H):=⟨hKb,nsK hns,⟨mb,nsK hb,hbb⟩,let ⟨mc,h1,h2⟩:=hlim;⟨mc,nsK h1,h2⟩⟩
  have e0:Env0 P w K mg (hidT s₁.heap H) callerA [] s₁ H:=⟨rfl,hM,λb o e=>zml e,Nat.le_of_eq (ziC _ _),trivial,λb hb=>absurd (show b∈([]:List Addr) from hb) (by simp),hok,.of_eq hg⟩
  refine codeAny_mono ((F _ hKb (nsK hns)).run callerA [] s₁ H ⟨[.ref a],[]⟩ [.ref a] [.ref a] _ _ hr e0 (hbind s₁ (.ref a)) (.cons rfl .nil) (hsp H hO hS)) λr s' h=>?_
  cases r with
  | error e=>exact (hCX H e s' h).elim
  | ok fl=>
   cases fl with
   | next=>exact False.elim h
   | brk=>exact False.elim h
   | cont=>exact False.elim h
   | ret u=>
    obtain ⟨v,H',os,bare,un,hok',r',q⟩:=h
    have q':v=.bl true:=q
    subst q'
    obtain rfl:u=Value.bool true:=r'
    refine ⟨rfl,OldK.of_keep λb o e=>?_,os,bare⟩
    cases q:H b with
    | none=>exact un.keep b o e q (by intro z;exact absurd (show b∈([]:List Addr) from z) (by simp)) (by simp)
    | some u=>
     rcases hO b with z | ⟨ob,xs,z⟩
     ·rw [q] at z;cases z
     ·have z2:=un.frzs b ob _ z
      obtain ⟨e1,_⟩:=hok b _ z
      obtain ⟨e2,_⟩:=hok' b _ z2
      rw [e] at e1;cases e1
      exact e2
 cases hk:K.lookup a with
 | some o=>
  have e:=KX a o hk
  rw [ha] at e
  cases e
  refine core (λ_=>none) (λ_=>.inl rfl) (.inr ⟨_,vs.toArray,_,hk,rfl,rfl,rfl,by rw [List.size_toArray,lenV];exact hl,by simpa using rv⟩) (λb u z=>by have z':(none:Option HO)=some u:=z;cases z') (λb z=>absurd rfl z) λz=>absurd rfl z
 | none=>
  refine core (λb=>if b=a then some (.frz { cls:=.type "list",data:=.seq vs.toArray } (.lst (ns.map V.int))) else none) (λb=>?_) (.inl (.inr ⟨{ cls:=.type "list",data:=.seq vs.toArray },if_pos rfl⟩)) (λb u z=>?_) (λb z=>?_) λ_=>hk
  ·by_cases hb:b=a
   ·exact .inr ⟨_,_,if_pos hb⟩
   ·exact .inl (if_neg hb)
  ·by_cases hb:b=a
   ·have z':=(if_pos hb).symm.trans z
    cases z'
    subst hb
    exact ⟨ha,by rw [List.length_map];exact hl,vs,_,rv,ha⟩
   ·have z':=(if_neg hb).symm.trans z
    cases z'
  ·by_cases hb:b=a
   ·exact hb
   ·exact absurd (if_neg hb) z
end L2
namespace L2
open PySem PySem.Spec PyProof.Rows
noncomputable abbrev KOf {K:PySem.W.Frag} {h:Heap} (_:K.In h):PySem.W.Frag:=K
theorem walk_of {l:PySem.W.OpenLaw} {n k:Nat} {q:Program} {loose:List Str} {XP:(Str->Option Value)->Heap->Prop} {YP:World->Heap->Prop} {d:DefRec} {K:Params->PySem.W.Frag} {CX:World->CXT} {sp:World->Sp} {x:Str}
  (hn:l.most=some n) (hn2:n<=sizeLine) (hdf:d.params.defaults=[]) (hr:Room k callerA)
  (hY:∀ (w:World) (h:Heap),YP w h->(K w.params).In h)
  (F : ∀ (w:World) (mg:Str->Option Value) (fa:Addr) (h:Heap),(K w.params).In h->h.Ns mainGlobals mg->mg d.name=some (.ref fa) →
   ∃ fd:FuncData,(∀ (s:Shared) (u:Value),BindsTo s fd ⟨[u],[]⟩ [(x,u)]) ∧
    ∀ base:Heap,(K w.params).In base->base.Ns mainGlobals mg->FnOk l.prog w (K w.params) mg base (CX w) k fa fd [x] (sp w))
  (hsp:∀ (w:World) (H:Hp) (a:Addr) (ns:List Int),ns.length<=n->Only H->SqL (K w.params) H a (ns.map V.int)->sp w [.ref a] H (λv _=>v=.bl true) λ_ _ _=>False)
  (hCX:∀ (w:World) (H:Hp) (s:Shared) (e:Value) (s':Shared),CX w [] H s (λ_ _ _=>False) e s'->False) :
  PySem.W.WalkO q loose XP YP l.row.toRowW d [] (λf vs=>PySem.call f vs):=by
 refine Att.attach_call hn hdf λw s₀ s₁ mg mb fa o pm cd doc a vs ns G Y ho hd hcd hmg hobj hints hlen hg=>?_
 have KX:=hY w _ Y
 obtain ⟨fd,hb,hF⟩:=F w mg fa _ KX G.T.g hmg
 exact law_call KX G.T.g G.T.b G.T.builtins G.T.nolimit hg hobj hints (Nat.le_trans hlen hn2) hr hF hb (λH hO hS=>hsp w H a ns hlen hO hS) λH e s'=>hCX w H s₁ e s'
end L2
/- THE LAST THEOREM (shape;LID,My.* are yours):
   My.Adr: a structure of the addresses that your layer names (classes,functions);My.Txt K t: a structure (Prop) of the equations over K;
   My.txt_mk:{K} {implicit addresses ..} (e1:nsIn K mainGlobals "law"=some (some (.ref f))) (e2:K.lookup f=some ⟨oc,od,.func (fnOf "law" "law" params body scope dV kV doc pm an cdv ct),sl⟩) (e3:codeIn K cdv "law"=true) ..:∃ t,My.Txt K t
set_option maxRecDepth 100000 in
set_option maxHeartbeats 0 in
theorem PySem.Challenge.cw_LID_holds : PySem.Challenge.rw_LID.Holds := by
 w_on;o_law;k_head;(case hw=>w_witness2)
 k_fill
 refine L2.walk_of (l:=PySem.Challenge.rw_LID) (n:=63) (k:=40) (x:="script") (CX:=λw=>..) (sp:=λ_=>My.sp_law) rfl (by decide) rfl ⟨rfl,by decide,by decide⟩ (λw h Y=>PySem.W.kIn_of Y) ?F ?S ?C
 case F=>
  intro w mg fa h KX G hmg
  have T:∃ t,My.Txt (L2.KOf KX) t:=by
   dsimp only [L2.KOf]                          -- K must stand as «<heap const> w.params» for k_is
   refine' My.txt_mk ?e1 ?e2 ?e3 ..
   (case e1=>PySem.W.k_is)                    -- in the order: a name->its address->its object->its parts
   (case e2=>PySem.W.k_is)
   ..
  obtain ⟨t,T⟩:=T
  have e0:=hmg.symm.trans (PySem.W.mg_of KX G T.law)
  cases e0                                       -- fa is the law's own address
  exact ⟨_,λs u=>.of_eq rfl,λbase kb nb=>My.law_fn T kb nb⟩     -- if «.of_eq rfl» comes too early: refine' ⟨_,?b,λbase kb nb=>My.law_fn T kb nb⟩;exact λs u=>.of_eq rfl
 case S=>exact λw H a ns hl hO hS=>..
 case C=>exact ..
(the tactic k_is has no namespace: write k_is) -/
namespace L2
open PySem PySem.Spec PyProof.Rows
noncomputable def zcR (s:Stmt):Arguments:=match s with
 | .FunctionDef _ a _ _ _ _ _ _ _ _=>a
 | _=>{ posonlyargs:=[],args:=[],vararg:=none,kwonlyargs:=[],kw_defaults:=[],kwarg:=none,defaults:=[] }
noncomputable def zag (s:Stmt):List Stmt:=match s with
 | .FunctionDef _ _ b _ _ _ _ _ _ _=>b
 | _=>[]
noncomputable def zac (s:Stmt):Scope:=match s with
 | .FunctionDef _ _ _ _ _ _ sc _ _ _=>sc
 | _=>{ kind:=.function,names:=[],isGenerator:=false,isCoroutine:=false }
noncomputable abbrev CX0:CXT:=λ_ _ _ _ _ _=>False
noncomputable abbrev E0:XK:=λ_ _ _=>False
theorem znx {X:Cx}:zi6 CX0 X E0:=λ_ _ _ _ _ _ _ h=>h.elim
structure Fun (K:PySem.W.Frag) (x qual:Str) (st:Stmt) (f:Addr) (fd:FuncData):Prop where
 ex:∃ (oc:Value) (od:Option Addr) (kV doc pm:Value) (an:Option Addr) (cdv ct:Value) (osl:Array (Option Value)),
  fd=PySem.W.fnOf x qual (zcR st) (zag st) (zac st) .none kV doc pm an cdv ct/\K.lookup f=some ⟨oc,od,.func fd,osl⟩/\PySem.W.codeIn K cdv qual=true
 kp:PySem.W.keepIn K (.ref f)=true
section
variable {P:Program} {w:World} {K:PySem.W.Frag} {mg:Str->Option Value} {base:Heap}
theorem Fun.ok {x qual:Str} {st:Stmt} {f:Addr} {fd:FuncData} {N ps:List Str} {k:Nat} {sp:Sp} (F:Fun K x qual st f fd) (S:zam N ps (zac st)) (len:∀ vs H Q E,sp vs H Q E->vs.length=ps.length)
  (hbody:∀ (cdv:Value) (A:Around) (outer:List Env) (s:Shared) (H:Hp) (vs:List V) (Q:VK) (E:XK),Room k (A.deeper (envOfC qual (zac st) s.heap.objs.size f cdv))->sp vs H Q E →
   ∃ t,PSs (cxOf CX0 P w K mg base N qual (zac st) f cdv A outer s H E).nox (zag st) t/\t { nx:=λ_ H'=>Q .non H',rt:=Q } (start N vs) H):FnOk P w K mg base CX0 (k+1) f fd ps sp:=by
 obtain ⟨oc,od,kV,doc,pm,an,cdv,ct,osl,rfl,lk,hcd⟩:=F.ex
 refine znU lk hcd S len λA outer s H vs Q E hr hsp=>?_
 obtain ⟨t,h,q⟩:=hbody cdv A outer s H vs Q E hr hsp
 exact ⟨t,h.nox,q⟩
theorem Fun.binds {x qual:Str} {st:Stmt} {f:Addr} {fd:FuncData} {ps:List Str} (F:Fun K x qual st f fd)
  (h:∀ (kV doc pm:Value) (an:Option Addr) (cdv ct:Value) (us:List Value),us.length=ps.length->bindArgs (PySem.W.fnOf x qual (zcR st) (zag st) (zac st) .none kV doc pm an cdv ct) ⟨us,[]⟩=pure (ps.zip us)):zaL K fd ps []:=by
 obtain ⟨oc,od,kV,doc,pm,an,cdv,ct,osl,rfl,lk,hcd⟩:=F.ex
 exact .all (h kV doc pm an cdv ct)
end
section
variable {X:Cx}
end
noncomputable def Same (H H':Hp):Prop:=∀ b o,H b=some o->H' b=some o
theorem Same.refl (H:Hp):Same H H:=λ_ _ h=>h
theorem Same.trans {H H1 H2:Hp} (a:Same H H1) (b:Same H1 H2):Same H H2:=λc o h=>b c o (a c o h)
theorem Same.free {H H':Hp} (e:Same H H') {l:Addr} (h:H' l=Option.none):H l=Option.none:=by
 cases q:H l with
 | none=>rfl
 | some o=>
  rw [e l o q] at h
  cases h
theorem Same.seq {K:PySem.W.Frag} {H H':Hp} {a:Addr} {xs:List V} (e:Same H H') (h:SqL K H a xs):SqL K H' a xs:=by
 rcases h with (h | ⟨o,h⟩) | h
 ·exact .inl (.inl (e _ _ h))
 ·exact .inl (.inr ⟨o,e _ _ h⟩)
 ·exact .inr h
end L2
set_option linter.all false
namespace IT
inductive Ok {α:Type} (m:Option (α×Sto)) (Q:α->Sto->Prop):Prop where
 | mk (a:α) (h':Sto) (e:m=some (a,h')) (q:Q a h')
section
variable {α β:Type} {Q:α->Sto->Prop} {R:β->Sto->Prop} {h:Sto}
theorem Ok.mono {m:Option (α×Sto)} {Q':α->Sto->Prop} (k:Ok m Q) (i:∀ a h,Q a h->Q' a h):Ok m Q':=by
 obtain ⟨a,h',e,q⟩:=k
 exact ⟨a,h',e,i a h' q⟩
@[simp] theorem ok_bnd {x:M α} {f:α->M β}:Ok (bnd x f h) R↔Ok (x h) λa h1=>Ok (f a h1) R:=by
 unfold bnd
 constructor
 ·rintro ⟨b,h',e,q⟩
  cases ex:x h with
  | none=>rw [ex] at e;cases e
  | some p=>rw [ex] at e;exact ⟨p.1,p.2,rfl,b,h',e,q⟩
 ·rintro ⟨a,h1,e,b,h',e',q⟩
  rw [e]
  exact ⟨b,h',e',q⟩
@[simp] theorem ok_some' {a:α}:Ok (some (a,h)) Q↔Q a h:=by
 constructor
 ·rintro ⟨b,h',e,q⟩;cases e;exact q
 ·intro q;exact ⟨a,h,rfl,q⟩
@[simp] theorem ok_ok {a:α}:Ok (ok a h) Q↔Q a h:=ok_some'
@[simp] theorem ok_none:Ok (none:Option (α×Sto)) Q↔False:=by
 constructor
 ·rintro ⟨b,h',e,q⟩;cases e
 ·intro z;exact z.elim
@[simp] theorem ok_opt {o:Option α}:Ok (opt o h) Q↔∃ a,o=some a/\Q a h:=by
 unfold opt
 cases o with
 | none=>simp
 | some a=>simp
@[simp] theorem ok_rd_d {x:D} {Q:D->Sto->Prop}:Ok (rd (.d x) h) Q↔Q x h:=ok_some'
@[simp] theorem ok_fz_d {x:D} {Q:D->Sto->Prop}:Ok (fz (.d x) h) Q↔Q x h:=ok_some'
end
theorem zkk {l:Option Nat} {f:Ite->Env->M (Fl×Env)} {xs:List Ite} {Q:Fl×Env->Sto->Prop} (I:Nat->Env->Sto->Prop)
  (step:∀ i x σ h,xs[i]?=some x->I i σ h->Ok (f x σ h) λp h1=>match p.1 with
   | .ret r=>Q (.ret r,p.2) h1
   | .brk=>Q (.nx,p.2) h1
   | _=>zaJ l h h1=true/\I (i+1) p.2 h1)
  (fin:∀ σ h,I xs.length σ h->Q (.nx,σ) h) {σ:Env} {h:Sto} (h0:I 0 σ h):Ok (loop l f xs σ h) Q:=by
 have gen:∀ (ys:List Ite) (i:Nat) (σ:Env) (h:Sto),xs.drop i=ys->i<=xs.length->I i σ h->Ok (loop l f ys σ h) Q:=by
  intro ys
  induction ys with
  | nil=>
   intro i σ h e hi hI
   have:i=xs.length:=by
    have:=congrArg List.length e
    simp at this
    omega
   subst this
   exact ⟨_,_,rfl,fin σ h hI⟩
  | cons y ys ih=>
   intro i σ h e hi hI
   have hil:i<xs.length:=by
    have:=congrArg List.length e
    simp at this
    omega
   have hy:xs[i]?=some y:=by
    have:=congrArg (λz=>z[0]?) e
    simpa using this
   have hd:xs.drop (i+1)=ys:=by
    have:=congrArg List.tail e
    simpa using this
   obtain ⟨⟨fl,σ1⟩,h1,ef,q⟩:=step i y σ h hy hI
   simp only [loop,ef]
   cases fl with
   | ret r=>exact ⟨_,_,rfl,q⟩
   | brk=>exact ⟨_,_,rfl,q⟩
   | nx=>simp only at q ⊢;rw [if_pos q.1];exact ih (i+1) σ1 h1 hd (by omega) q.2
   | cnt=>simp only at q ⊢;rw [if_pos q.1];exact ih (i+1) σ1 h1 hd (by omega) q.2
 exact gen xs 0 σ h (by simp) (by omega) h0
theorem zb2 {α:Type} {g:α->Ite} {l:Option Nat} {f:Ite->Env->M (Fl×Env)} {xs:List α} {Q:Fl×Env->Sto->Prop} (I:Nat->Env->Sto->Prop)
  (step:∀ i x σ h,xs[i]?=some x->I i σ h->Ok (f (g x) σ h) λp h1=>match p.1 with
   | .ret r=>Q (.ret r,p.2) h1
   | .brk=>Q (.nx,p.2) h1
   | _=>zaJ l h h1=true/\I (i+1) p.2 h1)
  (fin:∀ σ h,I xs.length σ h->Q (.nx,σ) h) {σ:Env} {h:Sto} (h0:I 0 σ h):Ok (loop l f (xs.map g) σ h) Q:=by
 refine zkk I (λi x σ h hx hI=>?_) (λσ h hI=>fin σ h (by simpa using hI)) h0
 rw [List.getElem?_map,Option.map_eq_some_iff] at hx
 obtain ⟨y,hy,rfl⟩:=hx
 exact step i y σ h hy hI
theorem zi8 {l:Option Nat} {f:Ite->Env->M (Fl×Env)} {xs:List D} {Q:Fl×Env->Sto->Prop} (I:Nat->Env->Sto->Prop)
  (step:∀ i x σ h,xs[i]?=some x->I i σ h->Ok (f (dI x) σ h) λp h1=>match p.1 with
   | .ret r=>Q (.ret r,p.2) h1
   | .brk=>Q (.nx,p.2) h1
   | _=>zaJ l h h1=true/\I (i+1) p.2 h1)
  (fin:∀ σ h,I xs.length σ h->Q (.nx,σ) h) {σ:Env} {h:Sto} (h0:I 0 σ h):Ok (loop l f (xs.map dI) σ h) Q:=zb2 I step fin h0
theorem ziR {α β:Type} {g:β->Ite} {l:Option Nat} {f:Ite->M (Option α)} {xs:List β} {Q:List α->Sto->Prop} (I:Nat->List α->Sto->Prop)
  (step:∀ i x ys h,xs[i]?=some x->I i ys h->Ok (f (g x) h) λo h1=>zaJ l h h1=true/\I (i+1) (match o with | some y=>ys++[y] | none=>ys) h1)
  (fin:∀ ys h,I xs.length ys h->Q ys h) {h:Sto} (h0:I 0 [] h):Ok (zbN l f (xs.map g) h) Q:=by
 have gen:∀ (zs:List β) (i:Nat) (ys:List α) (h:Sto),xs.drop i=zs->i<=xs.length->I i ys h->Ok (zbN l f (zs.map g) h) λr h1=>Q (ys++r) h1:=by
  intro zs
  induction zs with
  | nil=>
   intro i ys h e hi hI
   have:i=xs.length:=by
    have:=congrArg List.length e
    simp at this
    omega
   subst this
   exact ⟨_,_,rfl,by show Q (ys++[]) h;rw [List.append_nil];exact fin ys h hI⟩
  | cons y zs ih=>
   intro i ys h e hi hI
   have hil:i<xs.length:=by
    have:=congrArg List.length e
    simp at this
    omega
   have hy:xs[i]?=some y:=by
    have:=congrArg (λz=>z[0]?) e
    simpa using this
   have hd:xs.drop (i+1)=zs:=by
    have:=congrArg List.tail e
    simpa using this
   obtain ⟨o,h1,ef,st,q⟩:=step i y ys h hy hI
   simp only [List.map_cons,zbN,ef]
   rw [if_pos st,ok_bnd]
   refine (ih (i+1) _ h1 hd (by omega) q).mono λr h2 hq=>?_
   rw [ok_ok]
   cases o with
   | none=>exact hq
   | some z=>simpa using hq
 have:=gen xs 0 [] h (by simp) (by omega) h0
 simpa using this
theorem zgI {α:Type} {l:Option Nat} {f:Ite->M (Option α)} {xs:List D} {Q:List α->Sto->Prop} (I:Nat->List α->Sto->Prop)
  (step:∀ i x ys h,xs[i]?=some x->I i ys h->Ok (f (dI x) h) λo h1=>zaJ l h h1=true/\I (i+1) (match o with | some y=>ys++[y] | none=>ys) h1)
  (fin:∀ ys h,I xs.length ys h->Q ys h) {h:Sto} (h0:I 0 [] h):Ok (zbN l f (xs.map dI) h) Q:=ziR I step fin h0
theorem zej {α β:Type} {d:β->Ite} {l:Option Nat} {f:Ite->M (Option α)} {g:β->Option α} {h:Sto}:∀ {xs:List β},(∀ x∈xs,f (d x) h=some (g x,h))->zaJ l h h=true->zbN l f (xs.map d) h=some (xs.filterMap g,h)
 | [],_,_=>rfl
 | x::xs,e,s=>by
  simp only [List.map_cons,zbN,e x (by simp),if_pos s]
  unfold bnd
  rw [zej (λy hy=>e y (by simp [hy])) s]
  simp only [ok,List.filterMap_cons]
  cases g x<;>rfl
theorem zok (Γ:Calls) (i:_) (σ:Env):ev Γ (.var i) σ=(λh=>match σ[i]? with
  | some (some r)=>some (r,h)
  | _=>none):=rfl
theorem zoX (Γ:Calls) (a:_) (b:_) (σ:Env):ev Γ (.and a b) σ=(bnd (ev Γ a σ) λx=>match x with
  | .d (.bl c)=>if c then ev Γ b σ else ok (.d (.bl false))
  | _=>λ_=>none):=rfl
theorem zpH (Γ:Calls) (a:_) (b:_) (σ:Env):ev Γ (.or a b) σ=(bnd (ev Γ a σ) λx=>match x with
  | .d (.bl c)=>if c then ok (.d (.bl true)) else ev Γ b σ
  | _=>λ_=>none):=rfl
theorem zow (Γ:Calls) (a:_) (σ:Env):ev Γ (.not a) σ=(bnd (ev Γ a σ) λx=>bnd (rd x) λd=>bnd (opt (tru d)) λt=>ok (.d (.bl (!t)))):=rfl
theorem zqk (Γ:Calls) (m:_) (o:_) (es:_) (σ:Env):ev Γ (.me m o es) σ=(bnd (ev Γ o σ) λx=>bnd (zd0 x) λ_=>bnd (evs Γ es σ) λrs=>meth m x rs):=rfl
theorem zlb (Γ:Calls)  (σ:Env):ev Γ .stuck σ=(λ_=>none):=rfl
theorem zmk (Γ:Calls) (e:_) (σ:Env):evI Γ (.rng e) σ=(bnd (ev Γ e σ) λr=>zes r):=rfl
theorem zl0 :fzs []=(ok []):=rfl
theorem zkr (r:_) (rs:_):fzs (r::rs)=(bnd (fz r) λd=>bnd (fzs rs) λds=>ok (d::ds)):=rfl
theorem zmM :rds []=(ok []):=rfl
theorem zj9 (r:_) (rs:_):rds (r::rs)=(bnd (rd r) λd=>bnd (rds rs) λds=>ok (d::ds)):=rfl
theorem zlk (Γ:Calls)  (σ:Env):ex Γ .stuck σ=(λ_=>none):=rfl
theorem zle (Γ:Calls) (s:_) (r:_) (σ:Env):exs Γ (s::r) σ=(bnd (ex Γ s σ) λp=>match p.1 with
  | .nx=>exs Γ r p.2
  | _=>ok p):=rfl
theorem zgB {l:Nat} {r:_} {h:Sto}:meth .append (.loc l) [r] h=(bnd (fz r) λd h=>match h[l]? with
  | some (.lst xs)=>if decide (xs.length<big) then some (.d .non,h.set l (.lst (xs++[d]))) else none
  | _=>none) h:=rfl
theorem zkc {l:Nat}  {h:Sto}:meth .pop (.loc l) [] h=(λh=>match h[l]? with
  | some (.lst xs)=>match xs[xs.length-1]? with
   | some y=>some (.d y,h.set l (.lst xs.dropLast))
   | none=>none
  | _=>none) h:=rfl
section
variable {Γ:Calls} {σ:Env} {h:Sto}
section
variable {Q:Fl×Env->Sto->Prop}
theorem zh4 {s:S} {r:List S}:Ok (exs Γ (s::r) σ h) Q↔Ok (ex Γ s σ h) λp h1=>match p.1 with | .nx=>Ok (exs Γ r p.2 h1) Q | .ret r=>Q (.ret r,p.2) h1 | .brk=>Q (.brk,p.2) h1 | .cnt=>Q (.cnt,p.2) h1:=by
 rw [zle,ok_bnd]
 constructor
 ·intro k
  refine k.mono λp h1 q=>?_
  obtain ⟨fl,e⟩:=p
  cases fl<;>simpa using q
 ·intro k
  refine k.mono λp h1 q=>?_
  obtain ⟨fl,e⟩:=p
  cases fl<;>simpa using q
end
section
variable {Q:Env->Sto->Prop}
theorem zmv {i:Nat} {r:R}:Ok (zaM (.name i) r σ h) Q↔Q (σ.set i (some r)) h:=by rw [zaM];exact ok_ok
theorem zoF {ts:List Tg} {r:R}:Ok (zaM (.tup ts) r σ h) Q↔Ok (rd r h) λd h1=>∃ xs,d=.tup xs/\Ok (bindTs ts xs σ h1) Q:=by
 rw [zaM,ok_bnd]
 constructor<;>intro k<;>refine k.mono λd h1 q=>?_
 ·cases d<;>first | (exact ⟨_,rfl,q⟩) | (simp at q)
 ·obtain ⟨xs,rfl,q⟩:=q;exact q
theorem zjh:Ok (bindTs [] [] σ h) Q↔Q σ h:=by simp only [bindTs,ok_ok]
theorem zhM {t:Tg} {ts:List Tg} {x:D} {xs:List D}:Ok (bindTs (t::ts) (x::xs) σ h) Q↔Ok (zaM t (.d x) σ h) λσ' h1=>Ok (bindTs ts xs σ' h1) Q:=by simp only [bindTs,ok_bnd]
end
theorem w_bI {tg:Tg} {x:R} {Q:Env->Sto->Prop}:Ok (zaE tg (.r x) σ h) Q↔Ok (zaM tg x σ h) Q:=by rw [zaE]
theorem zpU {a b:Tg} {i:Int} {x:R} {Q:Env->Sto->Prop}:Ok (zaE (.tup [a,b]) (.en i x) σ h) Q↔Ok (zaM a (.d (.int i)) σ h) λσ' h1=>Ok (zaM b x σ' h1) Q:=by rw [zaE];simp only [ok_bnd]
section
variable {Q:R->Sto->Prop}
theorem zp5 {i:Nat}:Ok (ev Γ (.var i) σ h) Q↔∃ r,σ[i]?=some (some r)/\Q r h:=by
 rw [zok]
 cases e:σ[i]? with
 | none=>simp
 | some o=>cases o<;>simp
theorem zpN {a b:E}:Ok (ev Γ (.and a b) σ h) Q↔Ok (ev Γ a σ h) λx h1=>∃ c,x=.d (.bl c)/\(c=true->Ok (ev Γ b σ h1) Q)/\(c=false->Q (.d (.bl false)) h1):=by
 rw [zoX,ok_bnd]
 constructor<;>intro k<;>refine k.mono λx h1 q=>?_
 ·cases x with
  | loc l=>simp at q
  | d d=>cases d<;>first | (rename_i c;refine ⟨c,rfl,?_⟩;cases c<;>simpa using q) | (simp at q)
 ·obtain ⟨c,rfl,q⟩:=q;cases c<;>simpa using q
theorem w_or {a b:E}:Ok (ev Γ (.or a b) σ h) Q↔Ok (ev Γ a σ h) λx h1=>∃ c,x=.d (.bl c)/\(c=false->Ok (ev Γ b σ h1) Q)/\(c=true->Q (.d (.bl true)) h1):=by
 rw [zpH,ok_bnd]
 constructor<;>intro k<;>refine k.mono λx h1 q=>?_
 ·cases x with
  | loc l=>simp at q
  | d d=>cases d<;>first | (rename_i c;refine ⟨c,rfl,?_⟩;cases c<;>simpa using q) | (simp at q)
 ·obtain ⟨c,rfl,q⟩:=q;cases c<;>simpa using q
theorem w_not {a:E}:Ok (ev Γ (.not a) σ h) Q↔Ok (ev Γ a σ h) λx h1=>Ok (rd x h1) λd h2=>∃ b,tru d=some b/\Q (.d (.bl (!b))) h2:=by
 rw [zow];simp only [ok_bnd,ok_opt,ok_ok]
theorem w_me {m:Me} {o:E} {es:List E}:Ok (ev Γ (.me m o es) σ h) Q↔Ok (ev Γ o σ h) λx h1=>Ok (zd0 x h1) λ_ h2=>Ok (evs Γ es σ h2) λrs h3=>Ok (meth m x rs h3) Q:=by rw [zqk];simp only [ok_bnd]
end
theorem zj5 {Q:List D->Sto->Prop}:Ok (fzs [] h) Q↔Q [] h:=by rw [zl0];exact ok_ok
theorem zhR {r:R} {rs:List R} {Q:List D->Sto->Prop}:Ok (fzs (r::rs) h) Q↔Ok (fz r h) λd h1=>Ok (fzs rs h1) λds h2=>Q (d::ds) h2:=by rw [zkr];simp only [ok_bnd,ok_ok]
theorem zjo {Q:List D->Sto->Prop}:Ok (rds [] h) Q↔Q [] h:=by rw [zmM];exact ok_ok
theorem zhT {r:R} {rs:List R} {Q:List D->Sto->Prop}:Ok (rds (r::rs) h) Q↔Ok (rd r h) λd h1=>Ok (rds rs h1) λds h2=>Q (d::ds) h2:=by rw [zj9];simp only [ok_bnd,ok_ok]
section
variable {Q:Bool->Sto->Prop}
end
section
variable {Q:List D->Sto->Prop}
noncomputable def zkE (Γ:Calls) (tg:Tg) (c:List T) (el:E) (σ:Env) (x:Ite):M (Option D):=bnd (zaE tg x (clr tg.slots σ)) λσ'=>bnd (tvs Γ c σ') λt=>if t then bnd (ev Γ el σ') λr=>bnd (fz r) λd=>ok (some d) else ok none
end
theorem zlV {tg:Tg} {c:List T} {el:E} {x:Ite} {Q:Option D->Sto->Prop}:Ok (zkE Γ tg c el σ x h) Q↔Ok (zaE tg x (clr tg.slots σ) h) λσ' h1=>Ok (tvs Γ c σ' h1) λt h2=>(t=true->Ok (ev Γ el σ' h2) λr h3=>Ok (fz r h3) λd h4=>Q (some d) h4)/\(t=false->Q none h2):=by
 unfold zkE
 simp only [ok_bnd]
 constructor<;>intro k<;>refine k.mono λσ' h1 q=>?_<;>refine q.mono λt h2 q=>?_<;>cases t<;>simpa using q
noncomputable def zlY (Γ:Calls) (tg:Tg) (c:List T) (el:E) (σ:Env) (x:Ite):M (Option Nat):=bnd (zaE tg x (clr tg.slots σ)) λσ'=>bnd (tvs Γ c σ') λt=>if t then bnd (ev Γ el σ') λr=>bnd (zcN r) λd=>ok (some d) else ok none
theorem zmZ {tg:Tg} {c:List T} {el:E} {x:Ite} {Q:Option Nat->Sto->Prop}:Ok (zlY Γ tg c el σ x h) Q↔Ok (zaE tg x (clr tg.slots σ) h) λσ' h1=>Ok (tvs Γ c σ' h1) λt h2=>(t=true->Ok (ev Γ el σ' h2) λr h3=>Ok (zcN r h3) λd h4=>Q (some d) h4)/\(t=false->Q none h2):=by
 unfold zlY
 simp only [ok_bnd]
 constructor<;>intro k<;>refine k.mono λσ' h1 q=>?_<;>refine q.mono λt h2 q=>?_<;>cases t<;>simpa using q
section
variable {Q:Wk->Sto->Prop}
theorem zkG {xs:List D}:Ok (zbE (.d (.tup xs)) h) Q↔Q ⟨xs.map dI,none⟩ h:=by simp only [zbE,zdL,ok_bnd,ok_some',ok_rd_d,wkOf,items,ok_ok]
theorem zkU {xs:List D}:Ok (zbE (.d (.lst xs)) h) Q↔Q ⟨xs.map dI,none⟩ h:=by simp only [zbE,zdL,ok_bnd,ok_some',ok_rd_d,wkOf,items,ok_ok]
theorem zlc {l:Nat}:Ok (zbE (.loc l) h) Q↔∃ o,h[l]?=some o/\match o with
  | .lst xs=>Q ⟨xs.map dI,some l⟩ h
  | .fro xs=>Q ⟨xs.map dI,some l⟩ h
  | .ols ls=>Q ⟨ls.map λl=>.r (.loc l),some l⟩ h
  | .ins _ _=>False
  | .dic _=>False
  | .dfr _=>False:=by
 simp only [zbE,zdL,ok_bnd]
 cases e:h[l]? with
 | none=>simp [rd,e]
 | some o=>cases o<;>simp [rd,e,Ob.isL,Ob.items,wkOf,items]
theorem zpM {e:E}:Ok (evI Γ (.rng e) σ h) Q↔Ok (ev Γ e σ h) λr h1=>Ok (zes r h1) Q:=by rw [zmk];simp only [ok_bnd]
theorem zmz {n:Int}:Ok (zes (.d (.int n)) h) Q↔(-(2 ^ 62)<=n/\n<=16777216)/\Q ⟨(zbr 0 n.toNat).map dI,none⟩ h:=by
 simp only [zes]
 by_cases c:-(2 ^ 62)<=n/\n<=16777216
 ·rw [if_pos (by rw [Bool.and_eq_true];exact ⟨decide_eq_true c.1,decide_eq_true c.2⟩),ok_ok]
  exact ⟨λq=>⟨c,q⟩,λq=>q.2⟩
 ·rw [if_neg (by rw [Bool.and_eq_true];exact λz=>c ⟨of_decide_eq_true z.1,of_decide_eq_true z.2⟩)]
  simp only [ok_none,false_iff]
  exact λz=>c z.1
end
theorem zkg {l:Nat} {Q:D->Sto->Prop}:Ok (rd (.loc l) h) Q↔∃ o,h[l]?=some o/\o.isL=true/\Q (.lst o.items) h:=by
 simp only [rd]
 cases h[l]? with
 | none=>simp
 | some o=>cases o<;>simp [Ob.isL]
theorem zkT {l:Nat} {Q:D->Sto->Prop}:Ok (fz (.loc l) h) Q↔∃ o,h[l]?=some o/\o.isL=true/\Q (.lst o.items) (h.set l (.fro o.items)):=by
 simp only [fz]
 cases h[l]? with
 | none=>simp
 | some o=>cases o<;>simp [Ob.isL]
theorem znr {l:Nat} {Q:Unit->Sto->Prop}:Ok (zd0 (.loc l) h) Q↔∃ o,h[l]?=some o/\o.isL=true/\Q () h:=by
 simp only [zd0]
 cases h[l]? with
 | none=>simp
 | some o=>cases o<;>simp [Ob.isL]
theorem zjB {l:Nat} {Q:Nat->Sto->Prop}:Ok (zcN (.loc l) h) Q↔∃ c fs,h[l]?=some (.ins c fs)/\Q l h:=by
 simp only [zcN]
 cases h[l]? with
 | none=>simp
 | some o=>cases o<;>simp
theorem zkZ {l:Nat} {r:R} {Q:R->Sto->Prop}:Ok (meth .append (.loc l) [r] h) Q↔Ok (fz r h) λd h1=>∃ xs,h1[l]?=some (.lst xs)/\xs.length<big/\Q (.d .non) (h1.set l (.lst (xs++[d]))):=by
 rw [zgB,ok_bnd]
 constructor<;>intro k<;>refine k.mono λd h1 q=>?_
 ·cases e:h1[l]? with
  | none=>rw [e] at q;simp at q
  | some o=>
   rw [e] at q
   cases o with
   | fro xs=>simp at q
   | ins _ _=>simp at q
   | ols _=>simp at q
   | dic _=>simp at q
   | dfr _=>simp at q
   | lst xs=>
    simp only at q
    by_cases c:xs.length<big
    ·rw [if_pos (decide_eq_true c)] at q;exact ⟨xs,rfl,c,by simpa using q⟩
    ·rw [if_neg (by simpa using c)] at q;simp at q
 ·obtain ⟨xs,e,c,q⟩:=q
  rw [e]
  simp only
  rw [if_pos (decide_eq_true c)]
  simpa using q
end
section
variable {Γ:Calls} {σ:Env} {h:Sto}
theorem zqg {Q:Fl×Env->Sto->Prop}:Ok (ex Γ .stuck σ h) Q↔False:=by rw [zlk];exact ok_none
theorem zpL {Q:R->Sto->Prop}:Ok (ev Γ .stuck σ h) Q↔False:=by rw [zlb];exact ok_none
theorem zpO {l:Nat} {Q:R->Sto->Prop}:Ok (meth .pop (.loc l) [] h) Q↔∃ xs,h[l]?=some (.lst xs)/\∃ y,xs[xs.length-1]?=some y/\Q (.d y) (h.set l (.lst xs.dropLast)):=by
 rw [zkc];dsimp only
 cases e:h[l]? with
 | none=>simp
 | some o=>
  cases o with
  | fro xs=>simp
  | ins _ _=>simp
  | ols _=>simp
  | dic _=>simp
  | dfr _=>simp
  | lst xs=>
   simp only [Option.some.injEq,Ob.lst.injEq,exists_eq_left']
   cases c:xs[xs.length-1]? with
   | none=>simp
   | some y=>simp
end
class Cont (α:Type) where
 q:α->Sto->Prop
structure Ask {α:Type} (m:Option (α×Sto)) [c:Cont α]:Prop where
 ok:Ok m c.q
theorem ask {α:Type} {m:Option (α×Sto)} {Q:α->Sto->Prop} (k:Ok m Q):@Ask α m ⟨Q⟩:=@Ask.mk α m ⟨Q⟩ k
theorem zo1 {α:Type} {m:Option (α×Sto)} {Q:α->Sto->Prop}:Ok m Q↔@Ask α m ⟨Q⟩:=⟨λk=>@Ask.mk α m ⟨Q⟩ k,λk=>@Ask.ok α m ⟨Q⟩ k⟩
theorem zjL {a b:Int} (c:(zga a||zga b)=true):bop .mul (.int a) (.int b)=some (.int (a*b)):=if_pos c
theorem zmB {a b:Int} (c:0<b):bop .mod (.int a) (.int b)=some (.int (a % b)):=if_pos (decide_eq_true c)
theorem zgR {a:Int} (c:-(2 ^ 64)<a) (c2:a<2 ^ 64):zga a=true:=by simp only [zga,Bool.and_eq_true,decide_eq_true_eq];exact ⟨c,c2⟩
theorem zeV {a b:Int} (c:-(2 ^ 64)<a) (c2:a<2 ^ 64):bop .mul (.int a) (.int b)=some (.int (a*b)):=zjL (by rw [zgR c c2];rfl)
theorem znA {n:Nat} {i:Int} (c:0<=i) (c2:i<n):ixn n i=some i.toNat:=by
 unfold ixn
 rw [if_pos c,if_pos c2]
theorem zpw {α:Type} {xs:List α} {i:Int} {x:α} (c:0<=i) (e:xs[i.toNat]?=some x):at' xs i=some x:=by
 have:=(List.getElem?_eq_some_iff.mp e).1
 unfold at'
 rw [znA c (by omega)]
 exact e
theorem zmS {xs:List D} {i:Int} {x:D} (c:0<=i) (e:xs[i.toNat]?=some x):idxD (.lst xs) (.int i)=some x:=zpw c e
theorem znX {x:D} {xs:List D}:idxD (.lst (x::xs)) (.int 0)=some x:=by refine zmS (by decide) rfl
theorem zmO {a b:D} (c:zhV a b=true):cop .eq a b=some (.bl (a.eqb b)):=if_pos c
theorem zi1 {a b:D} (c:zhV a b=true):cop .ne a b=some (.bl (!a.eqb b)):=if_pos c
theorem zal {h:Sto} {x:Ob} {t:Sto}:(h++(x::t))[h.length]?=some x:=by
 rw [List.getElem?_append_right (Nat.le_refl _),Nat.sub_self];rfl
theorem zbB {h:Sto} {x y:Ob} {t:Sto}:(h++(x::t)).set h.length y=h++(y::t):=by
 rw [List.set_append_right _ _ (Nat.le_refl _),Nat.sub_self];rfl
theorem zg3 {h t:Sto}:(h++t).take h.length=h:=by simp
theorem zaN {h h':Sto}:zaJ none h h'=true:=rfl
theorem zjG {a b:D} (c:b.dep<=60):zhV a b=true:=by unfold zhV;exact decide_eq_true (by omega)
mutual
theorem D.eqb_rfl:∀ x:D,x.eqb x=true
 | .non=>rfl
 | .bl a=>by simp [D.eqb]
 | .int a=>by simp [D.eqb]
 | .str a=>by simp [D.eqb]
 | .tup a=>by simp only [D.eqb];exact D.eqbs_rfl a
 | .lst a=>by simp only [D.eqb];exact D.eqbs_rfl a
theorem D.eqbs_rfl:∀ x:List D,D.eqbs x x=true
 | []=>rfl
 | a::r=>by simp only [D.eqbs,Bool.and_eq_true];exact ⟨D.eqb_rfl a,D.eqbs_rfl r⟩
end
theorem zgq:∀ {xs:List D} {n:Nat},(∀ x∈xs,x.dep<=n)->D.deps xs<=n
 | [],_,_=>by simp [D.deps]
 | x::xs,n,h=>by
  have h1:=h x (by simp)
  have h2:=zgq (xs:=xs) (n:=n) λy hy=>h y (by simp [hy])
  simp only [D.deps];omega
theorem Ok.eq {α:Type} {m:Option (α×Sto)} {a:α} {h:Sto} (k:Ok m λb h1=>b=a/\h1=h):m=some (a,h):=by
 obtain ⟨b,h1,e,rfl,rfl⟩:=k
 exact e
theorem zci {α β:Type} {d:β->Ite} {l:Option Nat} {f:Ite->M (Option α)} {g:β->Option α} {h:Sto} {xs:List β} {Q:List α->Sto->Prop} (e:∀ x∈xs,Ok (f (d x) h) λo h1=>o=g x/\h1=h) (s:zaJ l h h=true) (q:Q (xs.filterMap g) h):Ok (zbN l f (xs.map d) h) Q:=
 ⟨_,_,zej (λx hx=>(e x hx).eq) s,q⟩
theorem R.same_self:∀ x:R,x.same x=true
 | .d x=>D.same_refl x
 | .loc l=>by simp [R.same]
theorem zcc:∀ fs:List (PySem.Str×R),zcr fs fs=true
  | []=>rfl
  | (f,x)::r=>by simp [zcr,R.same_self,zcc r]
theorem zby:∀ kvs:List (D×D),za5 kvs kvs=true
 | []=>rfl
 | p::r=>by simp [za5,D.same_refl,zby r]
theorem zj0 {l:Nat} {h h1:Sto} {kvs:List (D×D)} (e:h[l]?=some (.dfr kvs)) (e1:h1[l]?=some (.dfr kvs)):zaJ (some l) h h1=true:=by
 simp only [zaJ,e,e1,Ob.same,zby]
theorem zdF (o:Ob) (h:Sto) (o1:Ob) (t:Sto):objs (o::h) (o1::t)=((match o,o1 with
   | .ins c fs,.ins c1 fs1=>c==c1&&zcr fs fs1
   | .ols a,.ols b=>a==b
   | .dic a,.dic b=>za5 a b
   | .dfr a,.dfr b=>za5 a b
   | .lst _,.lst _=>true
   | .lst _,.fro _=>true
   | .fro _,.lst _=>true
   | .fro _,.fro _=>true
   | _,_=>false)&&objs h t):=rfl
theorem zcs:∀ {h t:Sto},objs h (h++t)=true
 | [],_=>rfl
 | o::h,t=>by
  rw [List.cons_append,zdF,zcs,Bool.and_true]
  cases o<;>simp [zcc,zby]
theorem zjt {h:Sto}:objs h h=true:=by
 have:=zcs (h:=h) (t:=[])
 rwa [List.append_nil] at this
theorem zdr:∀ {h t:Sto} {l:Nat} {xs ys:List D},h[l]?=some (.lst xs)->objs h (h.set l (.lst ys)++t)=true
 | [],_,_,_,_,e=>by simp at e
 | o::h,t,0,xs,ys,e=>by
  simp at e
  subst e
  rw [List.set_cons_zero,List.cons_append,zdF,zcs,Bool.and_true]
 | o::h,t,l+1,xs,ys,e=>by
  have:=zdr (h:=h) (t:=t) (l:=l) (xs:=xs) (ys:=ys) (by simpa using e)
  rw [List.set_cons_succ,List.cons_append,zdF,this,Bool.and_true]
  cases o<;>simp [zcc,zby]
theorem zkI {h:Sto} {l:Nat} {xs ys:List D} (e:h[l]?=some (.lst xs)):objs h (h.set l (.lst ys))=true:=by
 have:=zdr (t:=[]) (ys:=ys) e
 rwa [List.append_nil] at this
theorem zex {h:Sto} {x y:Ob} {t:Sto}:(h++(x::y::t))[h.length+1]?=some y:=by
 rw [List.getElem?_append_right (by omega),Nat.add_sub_cancel_left];rfl
theorem zkx {h:Sto} {x y z:Ob} {t:Sto}:(h++(x::y::t)).set (h.length+1) z=h++(x::z::t):=by
 rw [List.set_append_right _ _ (by omega),Nat.add_sub_cancel_left];rfl
theorem zb1:∀ (n:Nat) (lo:Int),(zbr lo n).length=n
 | 0,_=>rfl
 | n+1,lo=>by simp [zbr,zb1 n]
theorem zeL:∀ (n:Nat) (lo:Int) (i:Nat) (x:D),(zbr lo n)[i]?=some x->i<n/\x=.int (lo+i)
 | 0,lo,i,x,e=>by simp [zbr] at e
 | n+1,lo,i,x,e=>by
  cases i with
  | zero=>simp [zbr] at e;exact ⟨by omega,by rw [<-e];simp⟩
  | succ i=>
   simp only [zbr,List.getElem?_cons_succ] at e
   obtain ⟨h1,h2⟩:=zeL n (lo+1) i x e
   refine ⟨by omega,?_⟩
   rw [h2]
   congr 1
   push_cast
   omega
theorem zjv {P:List F} {n f:Nat} {rs rs':List R} {h:Sto} {Q:R->Sto->Prop} {F:IT.F} (e:P[f]?=some F) (er:zaV F.np F.dfl rs=rs') (el:rs'.length=F.np)
  (k:Ok (exs (zan P n) F.body (rs'.map some++List.replicate (F.ns-F.np) none) h) λp h1=>match p.1 with
   | .ret r=>Ok (fin h F.all F.keep r h1) Q
   | .nx=>Ok (fin h F.all F.keep (.d .non) h1) Q
   | _=>False):Ok (zan P (n+1) f rs h) Q:=by
 obtain ⟨⟨fl,σ⟩,h1,ee,q⟩:=k
 rw [zbq]
 simp only [e,er]
 rw [if_pos el,ee]
 cases fl with
 | ret r=>exact q
 | nx=>exact q
 | brk=>exact q.elim
 | cnt=>exact q.elim
theorem zqm {np:Nat} {rs:List R}:zaV np [] rs=rs:=by
 unfold zaV
 split
 ·rfl
 ·simp
theorem zmX {P:List F} {n f:Nat} {rs:List R} {h:Sto} {Q:R->Sto->Prop} {F:IT.F} (e:P[f]?=some F) (ed:F.dfl=[]) (el:rs.length=F.np)
  (k:Ok (exs (zan P n) F.body (rs.map some++List.replicate (F.ns-F.np) none) h) λp h1=>match p.1 with
   | .ret r=>Ok (fin h F.all F.keep r h1) Q
   | .nx=>Ok (fin h F.all F.keep (.d .non) h1) Q
   | _=>False):Ok (zan P (n+1) f rs h) Q:=zjv e (by rw [ed];exact zqm) el k
theorem zl5 {k:Bool} {x:D} {h h1:Sto} {Q:R->Sto->Prop}:Ok (fin h false k (.d x) h1) Q↔objs h h1=true/\Q (.d x) (h1.take h.length):=by
 simp only [fin,Bool.false_eq_true,if_false]
 by_cases c:objs h h1=true
 ·rw [if_pos c];simp [fin0,c]
 ·rw [if_neg c];simp [c]
end IT
set_option linter.all false
set_option maxRecDepth 10000
namespace IT
open PySem (Str)
noncomputable def wO {α:Type} (o:Option α) (Q:α->Prop):Prop:=match o with
 | some a=>Q a
 | none=>False
noncomputable def wB (t:Bool) (A B:Prop):Prop:=match t with
 | true=>A
 | false=>B
noncomputable def wLs (o:Ob) (Q:List D->Prop):Prop:=match o with
 | .lst xs=>Q xs
 | .fro xs=>Q xs
 | .ins _ _=>False
 | .ols _=>False
 | .dic _=>False
 | .dfr _=>False
noncomputable def wLw (o:Ob) (Q:List D->Prop):Prop:=match o with
 | .lst xs=>Q xs
 | .fro _=>False
 | .ins _ _=>False
 | .ols _=>False
 | .dic _=>False
 | .dfr _=>False
noncomputable def wIn (o:Ob) (Q:Str->List (Str×R)->Prop):Prop:=match o with
 | .ins c fs=>Q c fs
 | .lst _=>False
 | .fro _=>False
 | .ols _=>False
 | .dic _=>False
 | .dfr _=>False
noncomputable def wDc (o:Ob) (Q:List (D×D)->Prop):Prop:=match o with
 | .dic kvs=>Q kvs
 | .dfr kvs=>Q kvs
 | .lst _=>False
 | .fro _=>False
 | .ins _ _=>False
 | .ols _=>False
noncomputable def wDw (o:Ob) (Q:List (D×D)->Prop):Prop:=match o with
 | .dic kvs=>Q kvs
 | .dfr _=>False
 | .lst _=>False
 | .fro _=>False
 | .ins _ _=>False
 | .ols _=>False
noncomputable def wDf (o:Ob) (Q:List (D×D)->Prop):Prop:=match o with
 | .dfr kvs=>Q kvs
 | .dic _=>False
 | .lst _=>False
 | .fro _=>False
 | .ins _ _=>False
 | .ols _=>False
noncomputable def wKey (r:R) (Q:D->Prop):Prop:=match r with
 | .d k=>wB (zai k) (Q k) False
 | .loc _=>False
noncomputable def wRd (r:R) (h:Sto) (Q:D->Sto->Prop):Prop:=match r with
 | .d x=>Q x h
 | .loc l=>wO h[l]? λo=>wLs o λxs=>Q (.lst xs) h
noncomputable def wFz (r:R) (h:Sto) (Q:D->Sto->Prop):Prop:=match r with
 | .d x=>Q x h
 | .loc l=>wO h[l]? λo=>wLs o λxs=>Q (.lst xs) (h.set l (.fro xs))
noncomputable def wRds:List R->Sto->(List D->Sto->Prop)->Prop
 | [],h,Q=>Q [] h
 | r::rs,h,Q=>wRd r h λd h1=>wRds rs h1 λds h2=>Q (d::ds) h2
noncomputable def wFzs:List R->Sto->(List D->Sto->Prop)->Prop
 | [],h,Q=>Q [] h
 | r::rs,h,Q=>wFz r h λd h1=>wFzs rs h1 λds h2=>Q (d::ds) h2
noncomputable def wBl (r:R) (Q:Bool->Prop):Prop:=match r with
 | .d (.bl b)=>Q b
 | _=>False
noncomputable def wInt (r:R) (Q:Int->Prop):Prop:=match r with
 | .d (.int b)=>Q b
 | _=>False
noncomputable def wPl (r:R) (Q:Nat->Prop):Prop:=match r with
 | .loc l=>Q l
 | .d _=>False
noncomputable def wTup (d:D) (Q:List D->Prop):Prop:=match d with
 | .tup xs=>Q xs
 | _=>False
mutual
noncomputable def wT:Tg->R->Env->Sto->(Env->Sto->Prop)->Prop
 | .name i,r,σ,h,Q=>Q (σ.set i (some r)) h
 | .tup ts,r,σ,h,Q=>wRd r h λd h1=>wTup d λxs=>wTs ts xs σ h1 Q
noncomputable def wTs:List Tg->List D->Env->Sto->(Env->Sto->Prop)->Prop
 | [],xs,σ,h,Q=>match xs with
  | []=>Q σ h
  | _::_=>False
 | t::ts,xs,σ,h,Q=>match xs with
  | x::xs=>wT t (.d x) σ h λσ' h1=>wTs ts xs σ' h1 Q
  | []=>False
end
noncomputable def wBI (tg:Tg) (x:Ite) (σ:Env) (h:Sto) (Q:Env->Sto->Prop):Prop:=match x with
 | .r x=>wT tg x σ h Q
 | .en i x=>match tg with
  | .tup [a,b]=>wT a (.d (.int i)) σ h λσ' h1=>wT b x σ' h1 Q
  | _=>False
noncomputable def wWk (r:R) (h:Sto) (Q:Wk->Sto->Prop):Prop:=match r with
 | .d (.tup xs)=>Q ⟨xs.map dI,none⟩ h
 | .d (.lst xs)=>Q ⟨xs.map dI,none⟩ h
 | .d _=>False
 | .loc l=>wO h[l]? λo=>match o with
  | .lst xs=>Q ⟨xs.map dI,some l⟩ h
  | .fro xs=>Q ⟨xs.map dI,some l⟩ h
  | .ols ls=>Q ⟨ls.map λl=>.r (.loc l),some l⟩ h
  | .ins _ _=>False
  | .dic _=>False
  | .dfr _=>False
noncomputable def wMe (m:Me) (x:R) (rs:List R) (h:Sto) (Q:R->Sto->Prop):Prop:=match m,rs with
 | .append,[r]=>wPl x λl=>wFz r h λd h1=>wO h1[l]? λo=>wLw o λxs=>xs.length<big/\Q (.d .non) (h1.set l (.lst (xs++[d])))
 | .pop,[]=>wPl x λl=>wO h[l]? λo=>wLw o λxs=>wO xs[xs.length-1]? λy=>Q (.d y) (h.set l (.lst xs.dropLast))
 | m,rs=>Ok (meth m x rs h) Q
mutual
noncomputable def wE (Γ:Calls):E->Env->Sto->(R->Sto->Prop)->Prop
 | .con d,_,h,Q=>Q (.d d) h
 | .var i,σ,h,Q=>wO σ[i]? λo=>wO o λr=>Q r h
 | .bin o a b,σ,h,Q=>wE Γ a σ h λx h1=>wE Γ b σ h1 λy h2=>wRd x h2 λx h3=>wRd y h3 λy h4=>wO (bop o x y) λz=>Q (.d z) h4
 | .cmp o a b,σ,h,Q=>wE Γ a σ h λx h1=>wE Γ b σ h1 λy h2=>wRd x h2 λx h3=>wRd y h3 λy h4=>wO (cop o x y) λz=>Q (.d z) h4
 | .and a b,σ,h,Q=>wE Γ a σ h λx h1=>wBl x λc=>wB c (wE Γ b σ h1 Q) (Q (.d (.bl false)) h1)
 | .or a b,σ,h,Q=>wE Γ a σ h λx h1=>wBl x λc=>wB c (Q (.d (.bl true)) h1) (wE Γ b σ h1 Q)
 | .not a,σ,h,Q=>wE Γ a σ h λx h1=>wRd x h1 λd h2=>wO (tru d) λb=>Q (.d (.bl (!b))) h2
 | .ife c a b,σ,h,Q=>wC Γ c σ h λt h1=>wB t (wE Γ a σ h1 Q) (wE Γ b σ h1 Q)
 | .tup es,σ,h,Q=>wEs Γ es σ h λrs h1=>wFzs rs h1 λds h2=>Q (.d (.tup ds)) h2
 | .lst m l,σ,h,Q=>wL Γ l σ h λxs h1=>match m with
  | true=>Q (.loc h1.length) (h1++[.lst xs])
  | false=>Q (.d (.lst xs)) h1
 | .idx a i,σ,h,Q=>wE Γ a σ h λx h1=>wE Γ i σ h1 λy h2=>wRd x h2 λx h3=>wRd y h3 λy h4=>wO (idxD x y) λz=>Q (.d z) h4
 | .sli a lo hi,σ,h,Q=>wE Γ a σ h λx h1=>wE Γ lo σ h1 λl h2=>wE Γ hi σ h2 λu h3=>wRd x h3 λx h4=>wRd l h4 λl h5=>wRd u h5 λu h6=>wO (sliD x l u) λz=>Q (.d z) h6
 | .call f es,σ,h,Q=>wEs Γ es σ h λrs h1=>@Ask _ (Γ f rs h1) ⟨Q⟩
 | .bi b es,σ,h,Q=>wEs Γ es σ h λrs h1=>wRds rs h1 λds h2=>wO (biD b ds) λz=>Q (.d z) h2
 | .me m o es,σ,h,Q=>wE Γ o σ h λx h1=>wPl x λl=>wO h1[l]? λo=>wLs o λ_=>wEs Γ es σ h1 λrs h3=>wMe m (.loc l) rs h3 Q
 | .isi t e,σ,h,Q=>wE Γ e σ h λr h1=>wRd r h1 λd h2=>Q (.d (.bl (isiD t d))) h2
 | .lm m o a,σ,h,Q=>wE Γ o σ h λx h0=>wRd x h0 λ_ h1=>wE Γ a σ h1 λy h2=>wRd x h2 λx h3=>wRd y h3 λy h4=>wO (lmD m x y) λz=>Q (.d z) h4
 | .dnew,_,h,Q=>Q (.loc h.length) (h++[.dic []])
 | .dof e,σ,h,Q=>wE Γ e σ h λr h1=>wRd r h1 λd h2=>wO (zj7 d) λkvs=>Q (.loc h2.length) (h2++[.dfr kvs])
 | .din neg k d,σ,h,Q=>wE Γ k σ h λy h1=>wE Γ d σ h1 λx h2=>wPl x λl=>wO h2[l]? λo=>wDc o λkvs=>wKey y λk=>Q (.d (.bl (if neg then !(dGet k kvs).isSome else (dGet k kvs).isSome))) h2
 | .dgt d k,σ,h,Q=>wE Γ d σ h λx h1=>wPl x λl=>wO h1[l]? λo=>wDc o λ_=>wE Γ k σ h1 λy h2=>wO h2[l]? λo=>wDc o λkvs=>wKey y λk=>Q (.d ((dGet k kvs).getD .non)) h2
 | .ddx d k,σ,h,Q=>wE Γ d σ h λx h1=>wE Γ k σ h1 λy h2=>wPl x λl=>wO h2[l]? λo=>wDc o λkvs=>wKey y λk=>wO (dGet k kvs) λv=>Q (.d v) h2
 | .gdx _ kvs k,σ,h,Q=>wE Γ k σ h λy h1=>wO (gGet kvs y) λv=>Q (.d v) h1
 | .stuck,_,_,_=>False
noncomputable def wEs (Γ:Calls):List E->Env->Sto->(List R->Sto->Prop)->Prop
 | [],_,h,Q=>Q [] h
 | e::es,σ,h,Q=>wE Γ e σ h λr h1=>wEs Γ es σ h1 λrs h2=>Q (r::rs) h2
noncomputable def wC (Γ:Calls):T->Env->Sto->(Bool->Sto->Prop)->Prop
 | .val e,σ,h,Q=>wE Γ e σ h λr h1=>wRd r h1 λd h2=>wO (tru d) λt=>Q t h2
 | .and a b,σ,h,Q=>wC Γ a σ h λt h1=>wB t (wC Γ b σ h1 Q) (Q false h1)
 | .or a b,σ,h,Q=>wC Γ a σ h λt h1=>wB t (Q true h1) (wC Γ b σ h1 Q)
 | .not a,σ,h,Q=>wC Γ a σ h λt h1=>Q (!t) h1
noncomputable def wCs (Γ:Calls):List T->Env->Sto->(Bool->Sto->Prop)->Prop
 | [],_,h,Q=>Q true h
 | c::cs,σ,h,Q=>wC Γ c σ h λt h1=>wB t (wCs Γ cs σ h1 Q) (Q false h1)
noncomputable def wL (Γ:Calls):L->Env->Sto->(List D->Sto->Prop)->Prop
 | .disp es,σ,h,Q=>wEs Γ es σ h λrs h1=>wFzs rs h1 Q
 | .comp tg it c el,σ,h,Q=>wI Γ it σ h λw h1=>@Ask _ (zbN w.l (zkE Γ tg c el σ) w.xs h1) ⟨Q⟩
 | .rev e,σ,h,Q=>wE Γ e σ h λr h1=>wRd r h1 λd h2=>wO (revD d) λxs=>Q xs h2
 | .ofD e,σ,h,Q=>wE Γ e σ h λr h1=>wPl r λl=>wO h1[l]? λo=>wDc o λkvs=>Q (kvs.map Prod.fst) h1
 | .sdi e,σ,h,Q=>wE Γ e σ h λr h1=>wPl r λl=>wO h1[l]? λo=>wDc o λkvs=>wO (zch (kvs.map zct)) λxs=>Q xs h1
 | .sst e,σ,h,Q=>wE Γ e σ h λr h1=>wRd r h1 λd h2=>wO (zc0 d) λxs=>Q xs h2
noncomputable def wI (Γ:Calls):I->Env->Sto->(Wk->Sto->Prop)->Prop
 | .seq e,σ,h,Q=>wE Γ e σ h λr h1=>wWk r h1 Q
 | .rng e,σ,h,Q=>wE Γ e σ h λr h1=>wInt r λn=>(-(2 ^ 62)<=n/\n<=16777216)/\Q ⟨(zbr 0 n.toNat).map dI,none⟩ h1
 | .dic e,σ,h,Q=>wE Γ e σ h λr h1=>wPl r λl=>wO h1[l]? λo=>wDf o λkvs=>Q ⟨kvs.map λp=>dI p.1,some l⟩ h1
end
mutual
noncomputable def wS (Γ:Calls):S->Env->Sto->(Fl×Env->Sto->Prop)->Prop
 | .asg tg e,σ,h,Q=>wE Γ e σ h λr h1=>wT tg r σ h1 λσ' h2=>Q (.nx,σ') h2
 | .exp e,σ,h,Q=>wE Γ e σ h λ_ h1=>Q (.nx,σ) h1
 | .ife c a b,σ,h,Q=>wC Γ c σ h λt h1=>wB t (wSs Γ a σ h1 Q) (wSs Γ b σ h1 Q)
 | .for tg it b,σ,h,Q=>wI Γ it σ h λw h1=>@Ask _ (loop w.l (λx σ=>bnd (zaE tg x σ) λσ'=>exs Γ b σ') w.xs σ h1) ⟨Q⟩
 | .ret e,σ,h,Q=>wE Γ e σ h λr h1=>Q (.ret r,σ) h1
 | .setD o k e,σ,h,Q=>wE Γ e σ h λr h1=>wE Γ o σ h1 λx h2=>wE Γ k σ h2 λy h3=>wFz r h3 λd h4=>wKey y λk=>wPl x λl=>wO h4[l]? λob=>wDw ob λkvs=>kvs.length<big/\Q (.nx,σ) (h4.set l (.dic (dPut k d kvs)))
 | .unp is e,σ,h,Q=>wE Γ e σ h λr h1=>wRd r h1 λd h2=>wO (lsOf d) λxs=>wO (zgm is xs σ) λσ'=>Q (.nx,σ') h2
 | .stuck,_,_,_=>False
noncomputable def wSs (Γ:Calls):List S->Env->Sto->(Fl×Env->Sto->Prop)->Prop
 | [],σ,h,Q=>Q (.nx,σ) h
 | s::r,σ,h,Q=>wS Γ s σ h λp h1=>match p.1 with
  | .nx=>wSs Γ r p.2 h1 Q
  | .ret r=>Q (.ret r,p.2) h1
  | .brk=>Q (.brk,p.2) h1
  | .cnt=>Q (.cnt,p.2) h1
end
end IT
set_option linter.all false
set_option maxRecDepth 10000
namespace IT
open PySem (Str)
theorem zhW {α:Type} {o:Option α} {Q:α->Prop}:(∃ a,o=some a/\Q a)=wO o Q:=by
 cases o<;>simp [wO]
theorem zjc {t:Bool} {A B:Prop}:((t=true->A)/\(t=false->B))=wB t A B:=by cases t<;>simp [wB]
theorem zlT {t:Bool} {A B:Prop}:((t=false->B)/\(t=true->A))=wB t A B:=by cases t<;>simp [wB]
section
variable {h:Sto}
theorem qRd {r:R} {Q:D->Sto->Prop}:Ok (rd r h) Q=wRd r h Q:=by
 cases r with
 | d x=>exact propext ok_rd_d
 | loc l=>
  rw [propext zkg]
  simp only [wRd,<-zhW]
  congr;funext o;congr;cases o<;>simp [wLs,Ob.isL,Ob.items]
theorem qFz {r:R} {Q:D->Sto->Prop}:Ok (fz r h) Q=wFz r h Q:=by
 cases r with
 | d x=>exact propext ok_fz_d
 | loc l=>
  rw [propext zkT]
  simp only [wFz,<-zhW]
  congr;funext o;congr;cases o<;>simp [wLs,Ob.isL,Ob.items]
theorem qRds:∀ {rs:List R} {h:Sto} {Q:List D->Sto->Prop},Ok (rds rs h) Q=wRds rs h Q
 | [],h,Q=>propext zjo
 | r::rs,h,Q=>by rw [propext zhT,wRds,qRd];simp only [qRds]
theorem qFzs:∀ {rs:List R} {h:Sto} {Q:List D->Sto->Prop},Ok (fzs rs h) Q=wFzs rs h Q
 | [],h,Q=>propext zj5
 | r::rs,h,Q=>by rw [propext zhR,wFzs,qFz];simp only [qFzs]
mutual
theorem qT:∀ (tg:Tg) (r:R) (σ:Env) (h:Sto) (Q:Env->Sto->Prop),Ok (zaM tg r σ h) Q=wT tg r σ h Q
 | .name i,r,σ,h,Q=>by rw [propext zmv,wT]
 | .tup ts,r,σ,h,Q=>by
  rw [propext zoF,wT,qRd]
  congr;funext d h1
  cases d<;>simp [wTup,qTs ts]
theorem qTs:∀ (ts:List Tg) (xs:List D) (σ:Env) (h:Sto) (Q:Env->Sto->Prop),Ok (bindTs ts xs σ h) Q=wTs ts xs σ h Q
 | [],[],σ,h,Q=>by rw [propext zjh,wTs]
 | [],_::_,σ,h,Q=>by simp [bindTs,wTs]
 | t::ts,[],σ,h,Q=>by simp [bindTs,wTs]
 | t::ts,x::xs,σ,h,Q=>by rw [propext zhM,qT t];simp only [qTs ts,wTs]
end
theorem qBI {tg:Tg} {x:Ite} {σ:Env} {Q:Env->Sto->Prop}:Ok (zaE tg x σ h) Q=wBI tg x σ h Q:=by
 cases x with
 | r x=>rw [propext w_bI,qT];rfl
 | en i x=>
  match tg with
  | .tup [a,b]=>rw [propext zpU,qT];simp only [qT];rfl
  | .name _=>simp [zaE,wBI]
  | .tup []=>simp [zaE,wBI]
  | .tup [_]=>simp [zaE,wBI]
  | .tup (_::_::_::_)=>simp [zaE,wBI]
theorem qWk {r:R} {Q:Wk->Sto->Prop}:Ok (zbE r h) Q=wWk r h Q:=by
 match r with
 | .d (.tup xs)=>exact propext zkG
 | .d (.lst xs)=>exact propext zkU
 | .d (.str _)=>simp [zbE,zdL,wkOf,items,wWk]
 | .d .non=>simp [zbE,zdL,wkOf,items,wWk]
 | .d (.bl _)=>simp [zbE,zdL,wkOf,items,wWk]
 | .d (.int _)=>simp [zbE,zdL,wkOf,items,wWk]
 | .loc l=>rw [propext zlc,zhW];rfl
theorem znu {l:Nat} {p:List D->Prop}:(∃ xs,h[l]?=some (.lst xs)/\p xs)=wO h[l]? λo=>wLw o p:=by
 cases h[l]? with
 | none=>simp [wO]
 | some o=>cases o<;>simp [wO,wLw]
theorem qMe {m:Me} {l:Nat} {rs:List R} {Q:R->Sto->Prop}:Ok (meth m (.loc l) rs h) Q=wMe m (.loc l) rs h Q:=by
 unfold wMe
 split
 ·rw [propext zkZ,qFz];simp only [wPl,znu]
 ·rw [propext zpO];simp only [wPl,znu,zhW]
 ·rfl
end
end IT
set_option linter.all false
set_option maxRecDepth 10000
set_option maxHeartbeats 1000000
namespace IT
open PySem (Str)
theorem zqc {h:Sto} {l:Nat} {p:Str->List (Str×R)->Prop}:(∃ c fs,h[l]?=some (.ins c fs)/\p c fs)=wO h[l]? λo=>wIn o p:=by
 cases h[l]? with
 | none=>simp [wO]
 | some o=>
  cases o with
  | ins c fs=>
   simp only [wO,wIn,eq_iff_iff]
   constructor
   ·rintro ⟨_,_,e,q⟩;cases e;exact q
   ·intro q;exact ⟨_,_,rfl,q⟩
  | _=>simp [wO,wIn]
theorem zoH {x:R} {p:Bool->Prop}:(∃ i,x=.d (.bl i)/\p i)=wBl x p:=by
 match x with
 | .d (.bl i)=>simp [wBl]
 | .loc _ | .d .non | .d (.int _) | .d (.str _) | .d (.tup _) | .d (.lst _)=>simp [wBl]
theorem znY {x:R} {h:Sto} {Q:Unit->Sto->Prop}:Ok (zd0 x h) Q=wPl x λl=>wO h[l]? λo=>wLs o λ_=>Q () h:=by
 cases x with
 | d x=>simp [zd0,wPl]
 | loc l=>
  rw [propext znr]
  simp only [wPl,<-zhW]
  congr;funext o;congr;cases o<;>simp [wLs,Ob.isL]
theorem qOpt {α:Type} {o:Option α} {h:Sto} {Q:α->Sto->Prop}:Ok (opt o h) Q=wO o λa=>Q a h:=by rw [propext ok_opt,zhW]
theorem qMe' {m:Me} {x:R} {Γ:Calls} {h:Sto} {W:Sto->(List R->Sto->Prop)->Prop} {Q:R->Sto->Prop}:(wPl x λl=>wO h[l]? λo=>wLs o λ_=>W h λrs h3=>Ok (meth m x rs h3) Q)=(wPl x λl=>wO h[l]? λo=>wLs o λ_=>W h λrs h3=>wMe m (.loc l) rs h3 Q):=by
 cases x with
 | d x=>rfl
 | loc l=>simp only [wPl,qMe]
theorem zjr {α:Type} {m:Option (α×Sto)} {Q:α->Sto->Prop}:Ok m Q=@Ask α m ⟨Q⟩:=propext zo1
theorem qDRd {x:R} {h:Sto} {Q:List (D×D)->Sto->Prop}:Ok (dRd x h) Q=wPl x λl=>wO h[l]? λo=>wDc o λkvs=>Q kvs h:=by
 cases x with
 | d x=>simp [dRd,wPl]
 | loc l=>
  simp only [dRd,wPl]
  cases h[l]? with
  | none=>simp [wO]
  | some o=>cases o<;>simp [wO,wDc]
theorem qKRd {x:R} {h:Sto} {Q:D->Sto->Prop}:Ok (kRd x h) Q=wKey x λk=>Q k h:=by
 cases x with
 | loc l=>simp [kRd,wKey]
 | d k=>
  simp only [kRd,wKey]
  cases zai k<;>simp [wB]
theorem zpZ {x:R} {k v:D} {h:Sto} {Q:Unit->Sto->Prop}:Ok (dSet x k v h) Q=wPl x λl=>wO h[l]? λo=>wDw o λkvs=>kvs.length<big/\Q () (h.set l (.dic (dPut k v kvs))):=by
 cases x with
 | d x=>simp [dSet,wPl]
 | loc l=>
  simp only [dSet,wPl]
  cases h[l]? with
  | none=>simp [wO]
  | some o=>
   cases o with
   | dic kvs=>
    simp only [wO,wDw]
    by_cases c:kvs.length<big
    ·simp [c]
    ·simp [c]
   | _=>simp [wO,wDw]
theorem zmn {x:R} {h:Sto} {W:Sto->(R->Sto->Prop)->Prop} {Q:D->List (D×D)->Sto->Prop}:(wPl x λl=>wO h[l]? λo=>wDc o λ_=>W h λy h2=>wPl x λl=>wO h2[l]? λo=>wDc o λkvs=>wKey y λk=>Q k kvs h2)=wPl x λl=>wO h[l]? λo=>wDc o λ_=>W h λy h2=>wO h2[l]? λo=>wDc o λkvs=>wKey y λk=>Q k kvs h2:=by
 cases x<;>rfl
theorem zoR {x:R} {h:Sto} {Q:Wk->Sto->Prop}:Ok (zgA x h) Q=wPl x λl=>wO h[l]? λo=>wDf o λkvs=>Q ⟨kvs.map λp=>dI p.1,some l⟩ h:=by
 cases x with
 | d x=>simp [zgA,wPl]
 | loc l=>
  simp only [zgA,wPl]
  cases h[l]? with
  | none=>simp [wO]
  | some o=>cases o<;>simp [wO,wDf]
theorem qIf {α:Type} {t:Bool} {x y:M α} {h:Sto} {Q:α->Sto->Prop}:Ok ((if t=true then x else y) h) Q=wB t (Ok (x h) Q) (Ok (y h) Q):=by cases t<;>rfl
mutual
theorem qE (Γ:Calls):∀ (e:E) (σ:Env) (h:Sto) (Q:R->Sto->Prop),Ok (ev Γ e σ h) Q=wE Γ e σ h Q
 | .con d,σ,h,Q=>propext ok_ok
 | .var i,σ,h,Q=>by
  refine (propext zp5).trans ?_
  show _=wO σ[i]? λo=>wO o λr=>Q r h
  cases σ[i]? with
  | none=>simp [wO]
  | some o=>cases o<;>simp [wO]
 | .bin o a b,σ,h,Q=>(propext ok_bnd).trans (by simp only [ok_bnd,qE Γ a,qE Γ b,qRd,qOpt,ok_ok];rfl)
 | .cmp o a b,σ,h,Q=>(propext ok_bnd).trans (by simp only [ok_bnd,qE Γ a,qE Γ b,qRd,qOpt,ok_ok];rfl)
 | .and a b,σ,h,Q=>by rw [propext zpN,qE Γ a];simp only [qE Γ b,zoH,zjc];rfl
 | .or a b,σ,h,Q=>by rw [propext w_or,qE Γ a];simp only [qE Γ b,zoH,zlT];rfl
 | .not a,σ,h,Q=>(propext ok_bnd).trans (by simp only [ok_bnd,qE Γ a,qRd,qOpt,ok_ok];rfl)
 | .ife c a b,σ,h,Q=>(propext ok_bnd).trans (by simp only [qC Γ c,qIf,qE Γ a,qE Γ b];rfl)
 | .tup es,σ,h,Q=>(propext ok_bnd).trans (by simp only [ok_bnd,qEs Γ es,qFzs,ok_ok];rfl)
 | .lst true l,σ,h,Q=>(propext ok_bnd).trans (by simp only [qL Γ l,if_true,alloc,ok_some'];rfl)
 | .lst false l,σ,h,Q=>(propext ok_bnd).trans (by simp only [qL Γ l,Bool.false_eq_true,if_false,ok_ok];rfl)
 | .idx a b,σ,h,Q=>(propext ok_bnd).trans (by simp only [ok_bnd,qE Γ a,qE Γ b,qRd,qOpt,ok_ok];rfl)
 | .sli a b c,σ,h,Q=>(propext ok_bnd).trans (by simp only [ok_bnd,qE Γ a,qE Γ b,qE Γ c,qRd,qOpt,ok_ok];rfl)
 | .call f es,σ,h,Q=>(propext ok_bnd).trans (by simp only [ok_bnd,qEs Γ es,zjr,ok_ok];rfl)
 | .bi b es,σ,h,Q=>(propext ok_bnd).trans (by simp only [ok_bnd,qEs Γ es,qRds,qOpt,ok_ok];rfl)
 | .me m o es,σ,h,Q=>by
  rw [propext w_me,qE Γ o]
  simp only [znY,qEs Γ es,qMe' (Γ:=Γ) (W:=λh Q=>wEs Γ es σ h Q)]
  rfl
 | .isi t e,σ,h,Q=>(propext ok_bnd).trans (by simp only [ok_bnd,qE Γ e,qRd,ok_ok];rfl)
 | .lm m o a,σ,h,Q=>(propext ok_bnd).trans (by simp only [ok_bnd,qE Γ o,qE Γ a,qRd,qOpt,ok_ok];rfl)
 | .dnew,σ,h,Q=>by show Ok (dNew h) Q=_;simp only [dNew,ok_some'];rfl
 | .dof e,σ,h,Q=>(propext ok_bnd).trans (by simp only [ok_bnd,qE Γ e,qRd,qOpt,zkK,ok_some'];rfl)
 | .din neg k d,σ,h,Q=>(propext ok_bnd).trans (by simp only [ok_bnd,qE Γ k,qE Γ d,qDRd,qKRd,ok_ok];rfl)
 | .dgt d k,σ,h,Q=>(propext ok_bnd).trans (by simp only [ok_bnd,qE Γ k,qE Γ d,qDRd,qKRd,ok_ok,zmn (W:=λh Q=>wE Γ k σ h Q) (Q:=λk kvs h2=>Q (.d ((dGet k kvs).getD .non)) h2)];rfl)
 | .ddx d k,σ,h,Q=>(propext ok_bnd).trans (by simp only [ok_bnd,qE Γ k,qE Γ d,qDRd,qKRd,qOpt,ok_ok];rfl)
 | .gdx x kvs k,σ,h,Q=>(propext ok_bnd).trans (by simp only [ok_bnd,qE Γ k,qOpt,ok_ok];rfl)
 | .stuck,σ,h,Q=>by rw [propext zpL];rfl
theorem qEs (Γ:Calls):∀ (es:List E) (σ:Env) (h:Sto) (Q:List R->Sto->Prop),Ok (evs Γ es σ h) Q=wEs Γ es σ h Q
 | [],σ,h,Q=>propext ok_ok
 | e::es,σ,h,Q=>(propext ok_bnd).trans (by simp only [ok_bnd,qE Γ e,qEs Γ es,ok_ok];rfl)
theorem qC (Γ:Calls):∀ (e:T) (σ:Env) (h:Sto) (Q:Bool->Sto->Prop),Ok (tv Γ e σ h) Q=wC Γ e σ h Q
 | .val e,σ,h,Q=>(propext ok_bnd).trans (by simp only [ok_bnd,qE Γ e,qRd,qOpt,ok_ok];rfl)
 | .and a b,σ,h,Q=>(propext ok_bnd).trans (by simp only [qC Γ a,qIf,qC Γ b,ok_ok];rfl)
 | .or a b,σ,h,Q=>(propext ok_bnd).trans (by simp only [qC Γ a,qIf,qC Γ b,ok_ok];rfl)
 | .not a,σ,h,Q=>(propext ok_bnd).trans (by simp only [ok_bnd,qC Γ a,ok_ok];rfl)
theorem qCs (Γ:Calls):∀ (es:List T) (σ:Env) (h:Sto) (Q:Bool->Sto->Prop),Ok (tvs Γ es σ h) Q=wCs Γ es σ h Q
 | [],σ,h,Q=>propext ok_ok
 | e::es,σ,h,Q=>(propext ok_bnd).trans (by simp only [qC Γ e,qIf,qCs Γ es,ok_ok];rfl)
theorem qL (Γ:Calls):∀ (e:L) (σ:Env) (h:Sto) (Q:List D->Sto->Prop),Ok (evL Γ e σ h) Q=wL Γ e σ h Q
 | .disp es,σ,h,Q=>(propext ok_bnd).trans (by simp only [ok_bnd,qEs Γ es,qFzs,ok_ok];rfl)
 | .comp tg it c el,σ,h,Q=>(propext ok_bnd).trans (by simp only [ok_bnd,qI Γ it,zjr,ok_ok];rfl)
 | .rev e,σ,h,Q=>(propext ok_bnd).trans (by simp only [ok_bnd,qE Γ e,qRd,qOpt,ok_ok];rfl)
 | .ofD e,σ,h,Q=>(propext ok_bnd).trans (by simp only [ok_bnd,qE Γ e,qDRd,ok_ok];rfl)
 | .sdi e,σ,h,Q=>(propext ok_bnd).trans (by simp only [ok_bnd,qE Γ e,qDRd,qOpt];rfl)
 | .sst e,σ,h,Q=>(propext ok_bnd).trans (by simp only [ok_bnd,qE Γ e,qRd,qOpt];rfl)
theorem qI (Γ:Calls):∀ (e:I) (σ:Env) (h:Sto) (Q:Wk->Sto->Prop),Ok (evI Γ e σ h) Q=wI Γ e σ h Q
 | .seq e,σ,h,Q=>(propext ok_bnd).trans (by simp only [ok_bnd,qE Γ e,qWk,ok_ok];rfl)
 | .rng e,σ,h,Q=>by
  rw [propext zpM,qE Γ e]
  congr;funext r h1
  match r with
  | .d (.int n)=>exact propext zmz
  | .loc _ | .d .non | .d (.bl _) | .d (.str _) | .d (.tup _) | .d (.lst _)=>simp [zes,wInt]
 | .dic e,σ,h,Q=>(propext ok_bnd).trans (by simp only [ok_bnd,qE Γ e,zoR];rfl)
end
mutual
theorem qS (Γ:Calls):∀ (s:S) (σ:Env) (h:Sto) (Q:Fl×Env->Sto->Prop),Ok (ex Γ s σ h) Q=wS Γ s σ h Q
 | .asg tg e,σ,h,Q=>(propext ok_bnd).trans (by simp only [ok_bnd,qE Γ e,qT,ok_ok];rfl)
 | .exp e,σ,h,Q=>(propext ok_bnd).trans (by simp only [ok_bnd,qE Γ e,ok_ok];rfl)
 | .ife c a b,σ,h,Q=>(propext ok_bnd).trans (by simp only [qC Γ c,qIf,qSs Γ a,qSs Γ b];rfl)
 | .for tg it b,σ,h,Q=>(propext ok_bnd).trans (by simp only [ok_bnd,qI Γ it,zjr,ok_ok];rfl)
 | .ret e,σ,h,Q=>(propext ok_bnd).trans (by simp only [ok_bnd,qE Γ e,ok_ok];rfl)
 | .setD o k e,σ,h,Q=>(propext ok_bnd).trans (by simp only [ok_bnd,qE Γ e,qE Γ o,qE Γ k,qFz,qKRd,zpZ,ok_ok];rfl)
 | .unp is e,σ,h,Q=>(propext ok_bnd).trans (by simp only [ok_bnd,qE Γ e,qRd,qOpt,ok_ok];rfl)
 | .stuck,σ,h,Q=>by rw [propext zqg];rfl
theorem qSs (Γ:Calls):∀ (s:List S) (σ:Env) (h:Sto) (Q:Fl×Env->Sto->Prop),Ok (exs Γ s σ h) Q=wSs Γ s σ h Q
 | [],σ,h,Q=>propext ok_ok
 | s::r,σ,h,Q=>by 
  rw [propext zh4,qS Γ s]
  simp only [qSs Γ r]
  try congr
end
end IT
set_option linter.all false
namespace IT
theorem st {α:Type} {o:Option α} {a:α} {Q:α->Prop} (e:o=some a) (k:Q a):wO o Q:=by rw [e];exact k
theorem br {t:Bool} {A B:Prop} (a:t=true->A) (b:t=false->B):wB t A B:=by cases t;exact b rfl;exact a rfl
theorem bf {t:Bool} {A B:Prop} (e:t=false) (k:B):wB t A B:=by rw [e];exact k
theorem bt {t:Bool} {A B:Prop} (e:t=true) (k:A):wB t A B:=by rw [e];exact k
theorem gs {Γ:Calls} {s:List S} {σ:Env} {h:Sto} {Q:Fl×Env->Sto->Prop} (k:wSs Γ s σ h Q):Ok (exs Γ s σ h) Q:=(qSs Γ s σ h Q).mpr k
theorem gb {Γ:Calls} {tg:Tg} {x:Ite} {b:List S} {σ:Env} {h:Sto} {Q:Fl×Env->Sto->Prop} (k:wBI tg x σ h λσ' h1=>wSs Γ b σ' h1 Q):Ok (bnd (zaE tg x σ) (λσ'=>exs Γ b σ') h) Q:=by
 rw [propext ok_bnd,qBI]
 simp only [qSs]
 exact k
theorem gc {Γ:Calls} {tg:Tg} {c:List T} {el:E} {x:Ite} {σ:Env} {h:Sto} {Q:Option D->Sto->Prop} (k:wBI tg x (clr tg.slots σ) h λσ' h1=>wCs Γ c σ' h1 λt h2=>wB t (wE Γ el σ' h2 λr h3=>wFz r h3 λd h4=>Q (some d) h4) (Q none h2)):Ok (zkE Γ tg c el σ x h) Q:=by
 rw [propext zlV,qBI]
 simp only [qCs,qE,qFz,zjc]
 exact k
theorem qPl {x:R} {h:Sto} {Q:Nat->Sto->Prop}:Ok (zcN x h) Q=wPl x λl=>wO h[l]? λo=>wIn o λ_ _=>Q l h:=by
 cases x with
 | d x=>simp [zcN,wPl]
 | loc l=>rw [propext zjB,zqc];rfl
theorem go {Γ:Calls} {tg:Tg} {c:List T} {el:E} {x:Ite} {σ:Env} {h:Sto} {Q:Option Nat->Sto->Prop} (k:wBI tg x (clr tg.slots σ) h λσ' h1=>wCs Γ c σ' h1 λt h2=>wB t (wE Γ el σ' h2 λr h3=>wPl r λl=>wO h3[l]? λo=>wIn o λ_ _=>Q (some l) h3) (Q none h2)):Ok (zlY Γ tg c el σ x h) Q:=by
 rw [propext zmZ,qBI]
 simp only [qCs,qE,qPl,zjc]
 exact k
theorem fd {k:Bool} {x:D} {h h1:Sto} {Q:R->Sto->Prop} (o:objs h h1=true) (q:Q (.d x) (h1.take h.length)):Ok (fin h false k (.d x) h1) Q:=zl5.mpr ⟨o,q⟩
theorem f0 {k:Bool} {x:D} {h:Sto} {Q:R->Sto->Prop} (q:Q (.d x) h):Ok (fin h false k (.d x) h) Q:=zl5.mpr ⟨zjt,by rw [List.take_length];exact q⟩
theorem fa {k:Bool} {x:D} {h t:Sto} {Q:R->Sto->Prop} (q:Q (.d x) h):Ok (fin h false k (.d x) (h++t)) Q:=zl5.mpr ⟨zcs,by rw [zg3];exact q⟩
noncomputable def kF (h:Sto) (all keep:Bool) (Q:R->Sto->Prop) (p:Fl×Env) (h1:Sto):Prop:=match p.1 with
 | .ret r=>Ok (fin h all keep r h1) Q
 | .nx=>Ok (fin h all keep (.d .non) h1) Q
 | _=>False
theorem cl {P:List F} {n f:Nat} {rs:List R} {h:Sto} {Q:R->Sto->Prop} {F:IT.F} (e:P[f]?=some F) (ed:F.dfl=[]) (el:rs.length=F.np)
  (k:wSs (zan P n) F.body (rs.map some++List.replicate (F.ns-F.np) none) h (kF h F.all F.keep Q)):Ok (zan P (n+1) f rs h) Q:=zmX e ed el (gs k)
theorem cd {P:List F} {n f:Nat} {rs rs':List R} {h:Sto} {Q:R->Sto->Prop} {F:IT.F} (e:P[f]?=some F) (er:zaV F.np F.dfl rs=rs') (el:rs'.length=F.np)
  (k:wSs (zan P n) F.body (rs'.map some++List.replicate (F.ns-F.np) none) h (kF h F.all F.keep Q)):Ok (zan P (n+1) f rs h) Q:=zjv e er el (gs k)
end IT
set_option linter.all false
set_option maxHeartbeats 4000000
namespace IT
open PySem PySem.Spec L2
noncomputable def LsR (K:PySem.W.Frag) (A:Addr->Prop) (H:Hp) (a:Addr) (vs:List V):Prop:=
 (¬ A a/\Rd H a (.lst vs))\/∃ (o:Obj) (its:Array Value) (n:Nat),K.lookup a=some o/\o.cls=.type "list"/\o.dict=none/\o.data=.seq its n/\its.size<=sizeLine/\Vals vs its.toList
theorem LsR.sq {K:PySem.W.Frag} {A:Addr->Prop} {H:Hp} {a:Addr} {vs:List V} (q:LsR K A H a vs):SqL K H a vs:=q.imp (λz=>z.2) (λz=>z)
mutual
noncomputable def RepD (K:PySem.W.Frag) (A:Addr->Prop) (H:Hp):D->V->Prop
 | .non,v=>v=.non
 | .bl b,v=>v=.bl b
 | .int i,v=>v=.int i
 | .str x,v=>v=.str (zaB x)
 | .tup xs,v=>∃ a vs,v=.ref a/\SqT K H a vs/\RepDs K A H xs vs
 | .lst xs,v=>∃ a vs,v=.ref a/\LsR K A H a vs/\RepDs K A H xs vs
noncomputable def RepDs (K:PySem.W.Frag) (A:Addr->Prop) (H:Hp):List D->List V->Prop
 | [],vs=>vs=[]
 | x::xs,vs=>∃ v r,vs=v::r/\RepD K A H x v/\RepDs K A H xs r
end
section
variable {K:PySem.W.Frag} {A A':Addr->Prop} {H H':Hp}
mutual
theorem RepD.mono (ht:∀ a u,Rd H a (.tup u)->Rd H' a (.tup u)) (hl:∀ a u,¬ A a->Rd H a (.lst u)->¬ A' a/\Rd H' a (.lst u)):∀ (x:D) (v:V),RepD K A H x v->RepD K A' H' x v
 | .non,_,h | .bl _,_,h | .int _,_,h | .str _,_,h=>by
  first
  | (simp only [RepD] at h ⊢;exact h)
 | .tup xs,v,h=>by
  simp only [RepD] at h ⊢
  obtain ⟨a,vs,e,q,r⟩:=h
  exact ⟨a,vs,e,q.imp (ht a vs) (λz=>z),RepDs.mono ht hl xs vs r⟩
 | .lst xs,v,h=>by
  simp only [RepD] at h ⊢
  obtain ⟨a,vs,e,q,r⟩:=h
  exact ⟨a,vs,e,q.imp (λz=>hl a vs z.1 z.2) (λz=>z),RepDs.mono ht hl xs vs r⟩
theorem RepDs.mono (ht:∀ a u,Rd H a (.tup u)->Rd H' a (.tup u)) (hl:∀ a u,¬ A a->Rd H a (.lst u)->¬ A' a/\Rd H' a (.lst u)):∀ (x:List D) (v:List V),RepDs K A H x v->RepDs K A' H' x v
 | [],_,h=>by simp only [RepDs] at h ⊢;exact h
 | x::xs,vs,h=>by
  simp only [RepDs] at h ⊢
  obtain ⟨v,r,e,h1,h2⟩:=h
  exact ⟨v,r,e,RepD.mono ht hl x v h1,RepDs.mono ht hl xs r h2⟩
end
end
section
variable {K:PySem.W.Frag} {A:Addr->Prop} {H:Hp}
theorem RepDs.length:∀ {xs:List D} {vs:List V},RepDs K A H xs vs->xs.length=vs.length
 | [],vs,h=>by simp only [RepDs] at h;subst h;rfl
 | x::xs,vs,h=>by
  simp only [RepDs] at h
  obtain ⟨v,r,rfl,_,h2⟩:=h
  simp only [List.length_cons,h2.length]
theorem RepDs.get:∀ {xs:List D} {vs:List V} {i:Nat} {x:D},RepDs K A H xs vs->xs[i]?=some x->∃ v,vs[i]?=some v/\RepD K A H x v
 | [],vs,i,x,h,e=>by simp at e
 | y::xs,vs,i,x,h,e=>by
  simp only [RepDs] at h
  obtain ⟨v,r,rfl,h1,h2⟩:=h
  cases i with
  | zero=>simp at e;subst e;exact ⟨v,rfl,h1⟩
  | succ i=>simp at e;simpa using h2.get e
theorem RepDs.get':∀ {xs:List D} {vs:List V} {i:Nat} {v:V},RepDs K A H xs vs->vs[i]?=some v->∃ x,xs[i]?=some x/\RepD K A H x v
 | [],vs,i,v,h,e=>by simp only [RepDs] at h;subst h;simp at e
 | y::xs,vs,i,v,h,e=>by
  simp only [RepDs] at h
  obtain ⟨w,r,rfl,h1,h2⟩:=h
  cases i with
  | zero=>simp at e;subst e;exact ⟨y,rfl,h1⟩
  | succ i=>simp at e;simpa using h2.get' e
theorem RepDs.app:∀ {xs ys:List D} {vs us:List V},RepDs K A H xs vs->RepDs K A H ys us->RepDs K A H (xs++ys) (vs++us)
 | [],ys,vs,us,h,h'=>by simp only [RepDs] at h;subst h;simpa using h'
 | x::xs,ys,vs,us,h,h'=>by
  simp only [RepDs] at h
  obtain ⟨v,r,rfl,h1,h2⟩:=h
  simp only [List.cons_append,RepDs]
  exact ⟨v,r++us,rfl,h1,h2.app h'⟩
theorem RepDs.nil:RepDs K A H [] []:=by simp only [RepDs]
theorem RepDs.cons {x:D} {v:V} {xs:List D} {vs:List V} (h:RepD K A H x v) (h':RepDs K A H xs vs):RepDs K A H (x::xs) (v::vs):=by
 simp only [RepDs];exact ⟨v,vs,rfl,h,h'⟩
theorem RepDs.one {x:D} {v:V} (h:RepD K A H x v):RepDs K A H [x] [v]:=.cons h .nil
theorem RepDs.take:∀ {xs:List D} {vs:List V} (n:Nat),RepDs K A H xs vs->RepDs K A H (xs.take n) (vs.take n)
 | [],vs,n,h=>by simp only [RepDs] at h;subst h;simpa using RepDs.nil
 | x::xs,vs,n,h=>by
  simp only [RepDs] at h
  obtain ⟨v,r,rfl,h1,h2⟩:=h
  cases n with
  | zero=>simpa using RepDs.nil
  | succ n=>simpa using RepDs.cons h1 (h2.take n)
theorem RepDs.drop:∀ {xs:List D} {vs:List V} (n:Nat),RepDs K A H xs vs->RepDs K A H (xs.drop n) (vs.drop n)
 | [],vs,n,h=>by simp only [RepDs] at h;subst h;simpa using RepDs.nil
 | x::xs,vs,n,h=>by
  simp only [RepDs] at h
  obtain ⟨v,r,rfl,h1,h2⟩:=h
  cases n with
  | zero=>simpa using RepDs.cons h1 h2
  | succ n=>simpa using h2.drop n
theorem RepDs.set {x:D} {v:V} (hx:RepD K A H x v):∀ {xs:List D} {vs:List V} (n:Nat),RepDs K A H xs vs->RepDs K A H (xs.set n x) (vs.set n v)
 | [],vs,n,h=>by simp only [RepDs] at h;subst h;simpa using RepDs.nil
 | y::xs,vs,n,h=>by
  simp only [RepDs] at h
  obtain ⟨w,r,rfl,h1,h2⟩:=h
  cases n with
  | zero=>simpa using RepDs.cons hx h2
  | succ n=>simpa using RepDs.cons h1 (h2.set hx n)
end
noncomputable def Ob.mut:Ob->Bool
 | .lst _=>true
 | .ins _ _=>true
 | .dic _=>true
 | _=>false
noncomputable def Live (μ:List Addr) (h:Sto) (a:Addr):Prop:=∃ (i:Nat) (o:Ob),μ[i]?=some a/\h[i]?=some o/\o.mut=true
noncomputable def RepR (K:PySem.W.Frag) (μ:List Addr) (h:Sto) (H:Hp):R->V->Prop
 | .d x,v=>RepD K (Live μ h) H x v
 | .loc l,v=>∃ a,μ[l]?=some a/\v=.ref a
noncomputable def RepO (K:PySem.W.Frag) (μ:List Addr) (h:Sto) (H:Hp) (a:Addr):Ob->Prop
 | .lst xs=>∃ vs,H a=some (.lst vs)/\RepDs K (Live μ h) H xs vs
 | .fro xs=>∃ vs,H a=some (.lst vs)/\RepDs K (Live μ h) H xs vs
 | .ols ls=>∃ vs,H a=some (.lst vs)/\Paired (λ(l:Nat) (v:V)=>∃ b,μ[l]?=some b/\v=.ref b) ls vs
 | .ins c fs=>∃ C dx fs',(PySem.W.nsIn K mainGlobals c=some (some (.ref C))/\Cls K C/\∀ p∈fs,zje K C p.1)/\H a=some (.ins C dx fs')/\Paired (λ(p:Str×R) (q:Str×V)=>p.1=q.1/\RepR K μ h H p.2 q.2) fs fs'
 | .dic kvs=>∃ xs:List (D×Addr×V),H a=some (.dT xs)/\Paired (λ(p:D×D) (q:D×Addr×V)=>p.1=q.1/\(zai p.1=true/\RepD K (Live μ h) H p.1 (.ref q.2.1))/\RepD K (Live μ h) H p.2 q.2.2) kvs xs
 | .dfr kvs=>∃ (ob:Obj) (xs:List (D×Addr×V)),H a=some (.frz ob (.dT xs))/\Paired (λ(p:D×D) (q:D×Addr×V)=>p.1=q.1/\(zai p.1=true/\RepD K (Live μ h) H p.1 (.ref q.2.1))/\RepD K (Live μ h) H p.2 q.2.2) kvs xs
structure Rep (K:PySem.W.Frag) (μ:List Addr) (h:Sto) (H:Hp):Prop where
 len:μ.length=h.length
 nd:μ.Nodup
 obj:∀ (i:Nat) (a:Addr) (o:Ob),μ[i]?=some a->h[i]?=some o->RepO K μ h H a o
structure Stp (μ:List Addr) (h:Sto) (H:Hp) (μ':List Addr) (h':Sto) (H':Hp):Prop where
 pre:∀ (i:Nat) (a:Addr),μ[i]?=some a->μ'[i]?=some a
 keep:∀ a o,¬ Live μ h a->H a=some o->H' a=some o
 live:∀ a,Live μ' h' a->Live μ h a\/H a=none
section
variable {K:PySem.W.Frag} {μ μ' μ2:List Addr} {h h' h2:Sto} {H H' H2:Hp}
theorem RepO.isL {a:Addr} {o:Ob} (q:RepO K μ h H a o) (l:o.isL=true):∃ vs,H a=some (.lst vs)/\RepDs K (Live μ h) H o.items vs:=by
 cases o with
 | lst xs=>exact q
 | fro xs=>exact q
 | ins _ _=>cases l
 | ols _=>cases l
 | dic _=>cases l
 | dfr _=>cases l
theorem RepO.some {a:Addr} {o:Ob} (q:RepO K μ h H a o):∃ u,H a=some u:=by
 cases o with
 | lst xs=>obtain ⟨vs,e,_⟩:=q;exact ⟨_,e⟩
 | fro xs=>obtain ⟨vs,e,_⟩:=q;exact ⟨_,e⟩
 | ins _ _=>obtain ⟨C,dx,fs,_,e,_⟩:=q;exact ⟨_,e⟩
 | ols _=>obtain ⟨vs,e,_⟩:=q;exact ⟨_,e⟩
 | dic _=>obtain ⟨xs,e,_⟩:=q;exact ⟨_,e⟩
 | dfr _=>obtain ⟨ob,xs,e,_⟩:=q;exact ⟨_,e⟩
theorem Rep.liveAt (r:Rep K μ h H) {a:Addr} (l:Live μ h a):∃ u,H a=some u/\((∃ vs,u=.lst vs)\/(∃ C dx fs,u=.ins C dx fs)\/∃ kvs,u=.dT kvs):=by
 obtain ⟨i,o,e1,e2,m⟩:=l
 have q:=r.obj i a _ e1 e2
 cases o with
 | lst xs=>obtain ⟨vs,e,_⟩:=q;exact ⟨_,e,.inl ⟨vs,rfl⟩⟩
 | fro xs=>cases m
 | ins _ _=>obtain ⟨C,dx,fs,_,e,_⟩:=q;exact ⟨_,e,.inr (.inl ⟨C,dx,fs,rfl⟩)⟩
 | ols _=>cases m
 | dic _=>obtain ⟨xs,e,_⟩:=q;exact ⟨_,e,.inr (.inr ⟨xs,rfl⟩)⟩
 | dfr _=>cases m
theorem Rep.notLive (r:Rep K μ h H) {a:Addr} {o:HO} (e:H a=some o) (n:∀ vs,o≠.lst vs) (n2:∀ C dx fs,o≠.ins C dx fs:=by intro _ _ _ z;cases z) (n3:∀ kvs,o≠.dT kvs:=by intro _ z;cases z):¬ Live μ h a:=λl=>by
 obtain ⟨u,q,z⟩:=r.liveAt l
 rw [e] at q
 cases q
 rcases z with ⟨vs,z⟩ | ⟨C,dx,fs,z⟩ | ⟨kvs,z⟩
 ·exact n vs z
 ·exact n2 C dx fs z
 ·exact n3 kvs z
theorem Stp.refl:Stp μ h H μ h H:=⟨λ_ _ e=>e,λ_ _ _ e=>e,λ_ l=>.inl l⟩
theorem Stp.trans (s:Stp μ h H μ' h' H') (t:Stp μ' h' H' μ2 h2 H2):Stp μ h H μ2 h2 H2:=by
 have nl:∀ a o,¬ Live μ h a->H a=some o->¬ Live μ' h' a:=λa o n e l=>by
  rcases s.live a l with z | z
  ·exact n z
  ·rw [e] at z;cases z
 refine ⟨λi a e=>t.pre i a (s.pre i a e),λa o n e=>t.keep a o (nl a o n e) (s.keep a o n e),λa l=>?_⟩
 rcases t.live a l with z | z
 ·exact s.live a z
 ·by_cases n:Live μ h a
  ·exact .inl n
  ·cases e:H a with
   | none=>exact .inr rfl
   | some o=>rw [s.keep a o n e] at z;cases z
theorem Stp.rdT (s:Stp μ h H μ' h' H') (r:Rep K μ h H) (a:Addr) (u:List V) (q:Rd H a (.tup u)):Rd H' a (.tup u):=by
 rcases q with e | ⟨o,e⟩
 ·exact .inl (s.keep a _ (r.notLive e (by intro vs z;cases z)) e)
 ·exact .inr ⟨o,s.keep a _ (r.notLive e (by intro vs z;cases z)) e⟩
theorem Stp.rdL (s:Stp μ h H μ' h' H') (a:Addr) (u:List V) (n:¬ Live μ h a) (q:Rd H a (.lst u)):¬ Live μ' h' a/\Rd H' a (.lst u):=by
 have nl:∀ o,H a=some o->¬ Live μ' h' a:=λo e l=>by
  rcases s.live a l with z | z
  ·exact n z
  ·rw [e] at z;cases z
 rcases q with e | ⟨o,e⟩
 ·exact ⟨nl _ e,.inl (s.keep a _ n e)⟩
 ·exact ⟨nl _ e,.inr ⟨o,s.keep a _ n e⟩⟩
theorem Stp.lsR (s:Stp μ h H μ' h' H') {a:Addr} {u:List V} (q:LsR K (Live μ h) H a u):LsR K (Live μ' h') H' a u:=q.imp (λz=>s.rdL a u z.1 z.2) (λz=>z)
theorem RepD.stp (s:Stp μ h H μ' h' H') (r:Rep K μ h H) {x:D} {v:V} (q:RepD K (Live μ h) H x v):RepD K (Live μ' h') H' x v:=RepD.mono (s.rdT r) s.rdL x v q
theorem RepDs.stp (s:Stp μ h H μ' h' H') (r:Rep K μ h H) {x:List D} {v:List V} (q:RepDs K (Live μ h) H x v):RepDs K (Live μ' h') H' x v:=RepDs.mono (s.rdT r) s.rdL x v q
theorem RepR.stp (s:Stp μ h H μ' h' H') (r:Rep K μ h H) {x:R} {v:V} (q:RepR K μ h H x v):RepR K μ' h' H' x v:=by
 cases x with
 | d x=>exact RepD.stp s r q
 | loc l=>obtain ⟨a,e,z⟩:=q;exact ⟨a,s.pre l a e,z⟩
theorem RepO.stp (s:Stp μ h H μ' h' H') (r:Rep K μ h H) {a:Addr} {o:Ob} (e:H' a=H a) (q:RepO K μ h H a o):RepO K μ' h' H' a o:=by
 cases o with
 | lst xs=>obtain ⟨vs,e1,z⟩:=q;exact ⟨vs,e.trans e1,RepDs.stp s r z⟩
 | fro xs=>obtain ⟨vs,e1,z⟩:=q;exact ⟨vs,e.trans e1,RepDs.stp s r z⟩
 | ols ls=>obtain ⟨vs,e1,z⟩:=q;exact ⟨vs,e.trans e1,L2.Paired.mapP z λl v ⟨b,eb,ev⟩=>⟨b,s.pre l b eb,ev⟩⟩
 | dfr kvs=>obtain ⟨ob,xs,e1,z⟩:=q;exact ⟨ob,xs,e.trans e1,L2.Paired.mapP z λp q ⟨ep,ek,ev⟩=>⟨ep,⟨ek.1,RepD.stp s r ek.2⟩,RepD.stp s r ev⟩⟩
 | dic kvs=>obtain ⟨xs,e1,z⟩:=q;exact ⟨xs,e.trans e1,L2.Paired.mapP z λp q ⟨ep,ek,ev⟩=>⟨ep,⟨ek.1,RepD.stp s r ek.2⟩,RepD.stp s r ev⟩⟩
 | ins c fs=>obtain ⟨C,dx,fs',ec,e1,z⟩:=q;exact ⟨C,dx,fs',ec,e.trans e1,L2.Paired.mapP z λp q ⟨ep,eq⟩=>⟨ep,RepR.stp s r eq⟩⟩
theorem Stp.fresh {p:Addr} {o:HO} (n:H p=none):Stp μ h H μ h (upd H p o):=
 ⟨λ_ _ e=>e,λa o' _ e=>by rw [zak (zao e n)];exact e,λ_ l=>.inl l⟩
theorem Rep.ne_fresh (r:Rep K μ h H) {p a:Addr} {i:Nat} {o:Ob} (n:H p=none) (e1:μ[i]?=some a) (e2:h[i]?=some o):a≠p:=by
 obtain ⟨u,q⟩:=(r.obj i a o e1 e2).some
 exact zao q n
theorem Rep.fresh {p:Addr} {o:HO} (r:Rep K μ h H) (n:H p=none):Rep K μ h (upd H p o):=
 ⟨r.len,r.nd,λi a ob e1 e2=>RepO.stp (Stp.fresh n) r (zak (r.ne_fresh n e1 e2)) (r.obj i a ob e1 e2)⟩
theorem zhb {p:Addr} {o:Ob} (hl:μ.length=h.length) {a:Addr}:Live (μ++[p]) (h++[o]) a↔Live μ h a\/(a=p/\o.mut=true):=by
 constructor
 ·rintro ⟨i,o',e1,e2,e3⟩
  by_cases hi:i<μ.length
  ·rw [List.getElem?_append_left hi] at e1
   rw [List.getElem?_append_left (by omega)] at e2
   exact .inl ⟨i,o',e1,e2,e3⟩
  ·rw [List.getElem?_append_right (by omega)] at e1 e2
   have hz:i-μ.length=0:=by
    cases hk:i-μ.length with
    | zero=>rfl
    | succ k=>rw [hk] at e1;simp at e1
   rw [hz] at e1
   rw [<-hl,hz] at e2
   simp at e1 e2
   subst e1 e2
   exact .inr ⟨rfl,e3⟩
 ·rintro (⟨i,o',e1,e2,e3⟩ | ⟨rfl,e3⟩)
  ·obtain ⟨h1,_⟩:=List.getElem?_eq_some_iff.mp e1
   exact ⟨i,o',by rw [List.getElem?_append_left h1];exact e1,by rw [List.getElem?_append_left (by omega)];exact e2,e3⟩
  ·exact ⟨μ.length,o,by simp,by rw [hl];simp,e3⟩
theorem Stp.allocO {p:Addr} {ob:Ob} {o:HO} (r:Rep K μ h H) (n:H p=none):Stp μ h H (μ++[p]) (h++[ob]) (upd H p o):=
  ⟨fun i a e=>by rw [List.getElem?_append_left (List.getElem?_eq_some_iff.mp e).1];exact e,λa o' _ e=>by rw [zak (zao e n)];exact e,
   fun a l=>by
    rcases (zhb r.len).mp l with z | ⟨rfl,_⟩
    · exact .inl z
    · exact .inr n⟩
theorem Stp.alloc {p:Addr} {xs:List D} {o:HO} (r:Rep K μ h H) (n:H p=none):Stp μ h H (μ++[p]) (h++[.lst xs]) (upd H p o):=Stp.allocO r n
theorem Rep.allocO {p:Addr} {o:Ob} {u:HO} (r:Rep K μ h H) (n:H p=none) (q:RepO K (μ++[p]) (h++[o]) (upd H p u) p o):Rep K (μ++[p]) (h++[o]) (upd H p u):=by
 have st:Stp μ h H (μ++[p]) (h++[o]) (upd H p u):=Stp.allocO r n
 refine ⟨by simp [r.len],?_,λi a ob e1 e2=>?_⟩
 ·rw [List.nodup_append]
  refine ⟨r.nd,by simp,λa ha b hb=>?_⟩
  simp at hb
  subst hb
  rintro rfl
  obtain ⟨i,hi,e⟩:=List.getElem_of_mem ha
  have hi':i<h.length:=by rw [<-r.len];exact hi
  exact r.ne_fresh n (by rw [List.getElem?_eq_getElem hi,e]) (List.getElem?_eq_getElem hi') rfl
 ·by_cases hi:i<μ.length
  ·rw [List.getElem?_append_left hi] at e1
   rw [List.getElem?_append_left (by have:=r.len;omega)] at e2
   exact RepO.stp st r (zak (r.ne_fresh n e1 e2)) (r.obj i a ob e1 e2)
  ·rw [List.getElem?_append_right (by omega)] at e1
   have hz:i-μ.length=0:=by
    cases hk:i-μ.length with
    | zero=>rfl
    | succ k=>rw [hk] at e1;simp at e1
   rw [hz] at e1
   simp at e1
   subst e1
   have hi2:i=h.length:=by have:=r.len;have:=(List.getElem?_eq_some_iff.mp e2).1;simp at this;omega
   subst hi2
   simp at e2
   subst e2
   exact q
theorem Rep.alloc {p:Addr} {xs:List D} {vs:List V} (r:Rep K μ h H) (n:H p=none) (q:RepDs K (Live μ h) H xs vs):Rep K (μ++[p]) (h++[.lst xs]) (upd H p (.lst vs)):=
 r.allocO n ⟨vs,zaj,RepDs.stp (Stp.allocO r n) r q⟩
end
end IT
set_option linter.all false
set_option maxHeartbeats 4000000
namespace IT
open PySem PySem.Spec L2
noncomputable def RdD (K:PySem.W.Frag) (A:Addr->Prop) (H:Hp) (x:D) (v:V):Prop:=match x with
 | .lst xs=>∃ a vs,v=.ref a/\SqL K H a vs/\RepDs K A H xs vs
 | x=>RepD K A H x v
section
variable {K:PySem.W.Frag} {μ μ':List Addr} {h h':Sto} {H H':Hp}
theorem RdD.of {A:Addr->Prop} {x:D} {v:V} (q:RepD K A H x v):RdD K A H x v:=by
 cases x with
 | lst xs=>
  simp only [RepD] at q
  obtain ⟨a,vs,e,r,z⟩:=q
  exact ⟨a,vs,e,r.sq,z⟩
 | _=>exact q
theorem zek {l:Nat} {d:D} (e:rd (.loc l) h=some (d,h')):∃ o,h[l]?=some o/\o.isL=true/\d=.lst o.items/\h'=h:=by
 simp only [rd] at e
 cases ho:h[l]? with
 | none=>rw [ho] at e;cases e
 | some o=>
  rw [ho] at e
  simp only at e
  split at e
  ·rename_i il
   simp only [Option.some.injEq,Prod.mk.injEq] at e
   exact ⟨o,rfl,il,e.1.symm,e.2.symm⟩
  ·cases e
theorem zeq {x:R} {u:Unit} (e:zd0 x h=some (u,h')):∃ l o,x=.loc l/\h[l]?=some o/\o.isL=true/\h'=h:=by
 cases x with
 | d _=>cases e
 | loc l=>
  simp only [zd0] at e
  cases ho:h[l]? with
  | none=>rw [ho] at e;cases e
  | some o=>
   rw [ho] at e
   simp only at e
   split at e
   ·rename_i il
    simp only [Option.some.injEq,Prod.mk.injEq] at e
    exact ⟨l,o,rfl,ho,il,e.2.symm⟩
   ·cases e
theorem zbg {r:R} {v:V} {d:D} (R0:Rep K μ h H) (q:RepR K μ h H r v) (e:rd r h=some (d,h')):h'=h/\RdD K (Live μ h) H d v:=by
 cases r with
 | d x=>
  simp only [rd,ok,Option.some.injEq,Prod.mk.injEq] at e
  obtain ⟨rfl,rfl⟩:=e
  exact ⟨rfl,RdD.of q⟩
 | loc l=>
  obtain ⟨a,ea,rfl⟩:=q
  simp only [rd] at e
  cases ho:h[l]? with
  | none=>rw [ho] at e;cases e
  | some o=>
   rw [ho] at e
   simp only at e
   split at e
   ·rename_i il
    simp only [Option.some.injEq,Prod.mk.injEq] at e
    obtain ⟨rfl,rfl⟩:=e
    obtain ⟨vs,q1,q2⟩:=(R0.obj l a o ea ho).isL il
    exact ⟨rfl,a,vs,rfl,.inl (.inl q1),q2⟩
   ·cases e
theorem zeO {l:List Addr} (hn:l.Nodup) {i j:Nat} {a:Addr} (h1:l[i]?=some a) (h2:l[j]?=some a):i=j:=by
 obtain ⟨p1,e1⟩:=List.getElem?_eq_some_iff.mp h1
 obtain ⟨p2,e2⟩:=List.getElem?_eq_some_iff.mp h2
 exact (List.getElem_inj hn).mp (e1.trans e2.symm)
theorem zpf {l:Nat} {o:Ob} (R0:Rep K μ h H) (ho:h[l]?=some o) (il:o.isL=true):Stp μ h H μ (h.set l (.fro o.items)) H/\Rep K μ (h.set l (.fro o.items)) H:=by
 have hl:l<h.length:=(List.getElem?_eq_some_iff.mp ho).1
 have lv:∀ a,Live μ (h.set l (.fro o.items)) a->Live μ h a:=by
  rintro a ⟨i,xs,e1,e2,e3⟩
  by_cases hi:i=l
  ·subst hi
   rw [List.getElem?_set_self hl] at e2
   cases e2
   cases e3
  ·rw [List.getElem?_set_ne (Ne.symm hi)] at e2
   exact ⟨i,xs,e1,e2,e3⟩
 have st:Stp μ h H μ (h.set l (.fro o.items)) H:=⟨λ_ _ e=>e,λ_ _ _ e=>e,λa z=>.inl (lv a z)⟩
 refine ⟨st,by simp [R0.len],R0.nd,λi a ob e1 e2=>?_⟩
 by_cases hi:i=l
 ·subst hi
  rw [List.getElem?_set_self hl] at e2
  cases e2
  obtain ⟨vs,q1,q2⟩:=(R0.obj i a o e1 ho).isL il
  exact ⟨vs,q1,RepDs.stp st R0 q2⟩
 ·rw [List.getElem?_set_ne (Ne.symm hi)] at e2
  exact RepO.stp st R0 rfl (R0.obj i a ob e1 e2)
theorem zk9 {r:R} {v:V} {d:D} (R0:Rep K μ h H) (q:RepR K μ h H r v) (e:fz r h=some (d,h')):Stp μ h H μ h' H/\Rep K μ h' H/\RepD K (Live μ h') H d v:=by
 cases r with
 | d x=>
  simp only [fz,ok,Option.some.injEq,Prod.mk.injEq] at e
  obtain ⟨rfl,rfl⟩:=e
  exact ⟨Stp.refl,R0,q⟩
 | loc l=>
  obtain ⟨a,ea,rfl⟩:=q
  simp only [fz] at e
  cases ho:h[l]? with
  | none=>rw [ho] at e;cases e
  | some o=>
   rw [ho] at e
   simp only at e
   split at e
   ·rename_i il
    simp only [Option.some.injEq,Prod.mk.injEq] at e
    obtain ⟨rfl,rfl⟩:=e
    obtain ⟨st,R1⟩:=zpf R0 ho il
    have hl:l<h.length:=(List.getElem?_eq_some_iff.mp ho).1
    obtain ⟨vs,q1,q2⟩:=(R0.obj l a o ea ho).isL il
    refine ⟨st,R1,?_⟩
    simp only [RepD]
    refine ⟨a,vs,rfl,.inl ⟨?_,.inl q1⟩,RepDs.stp st R0 q2⟩
    rintro ⟨i,xs,e1,e2,e3⟩
    have:=zeO R0.nd e1 ea
    subst this
    rw [List.getElem?_set_self hl] at e2
    cases e2
    cases e3
   ·cases e
theorem zly {l:Nat} {a:Addr} {o o':Ob} {u:HO} (R0:Rep K μ h H) (ea:μ[l]?=some a) (ho:h[l]?=some o) (hm:o.mut=true)
  (q:Stp μ h H μ (h.set l o') (upd H a u)->RepO K μ (h.set l o') (upd H a u) a o'):Stp μ h H μ (h.set l o') (upd H a u)/\Rep K μ (h.set l o') (upd H a u):=by
 have hl:l<h.length:=(List.getElem?_eq_some_iff.mp ho).1
 have hla:Live μ h a:=⟨l,o,ea,ho,hm⟩
 have lv:∀ b,Live μ (h.set l o') b->Live μ h b:=by
  rintro b ⟨i,zs,e1,e2,e3⟩
  by_cases hi:i=l
  ·subst hi
   exact ⟨i,o,e1,ho,hm⟩
  ·rw [List.getElem?_set_ne (Ne.symm hi)] at e2
   exact ⟨i,zs,e1,e2,e3⟩
 have st:Stp μ h H μ (h.set l o') (upd H a u):=
  ⟨λ_ _ e=>e,λb o n e=>by rw [zak (λz=>n (by rw [z];exact hla))];exact e,λb z=>.inl (lv b z)⟩
 refine ⟨st,by simp [R0.len],R0.nd,λi b ob e1 e2=>?_⟩
 by_cases hi:i=l
 ·subst hi
  rw [ea] at e1;cases e1
  rw [List.getElem?_set_self hl] at e2
  cases e2
  exact q st
 ·rw [List.getElem?_set_ne (Ne.symm hi)] at e2
  exact RepO.stp st R0 (zak (λz:b=a=>hi (zeO R0.nd e1 (by rw [z];exact ea)))) (R0.obj i b ob e1 e2)
theorem write {l:Nat} {a:Addr} {xs ys:List D} {ws:List V} (R0:Rep K μ h H) (ea:μ[l]?=some a) (ho:h[l]?=some (.lst xs)) (q:RepDs K (Live μ h) H ys ws) :
  Stp μ h H μ (h.set l (.lst ys)) (upd H a (.lst ws))/\Rep K μ (h.set l (.lst ys)) (upd H a (.lst ws)):=
 zly R0 ea ho rfl λst=>⟨ws,zaj,RepDs.stp st R0 q⟩
end
theorem zaa {α β:Type} {x:M α} {f:α->M β} {h:Sto} {r:β×Sto}:bnd x f h=some r↔∃ a h1,x h=some (a,h1)/\f a h1=some r:=by
 unfold bnd
 cases e:x h with
 | none=>simp
 | some p=>
  obtain ⟨a,h1⟩:=p
  exact ⟨λq=>⟨a,h1,rfl,q⟩,λ⟨a',h1',e',q⟩=>by cases e';exact q⟩
theorem zab {α:Type} {a b:α} {h h':Sto}:ok a h=some (b,h')↔a=b/\h=h':=by simp [ok]
theorem zaq {α:Type} {o:Option α} {b:α} {h h':Sto}:opt o h=some (b,h')↔o=some b/\h=h':=by
 unfold opt
 cases o with
 | none=>simp
 | some a=>simp
structure RepE (K:PySem.W.Frag) (μ:List Addr) (h:Sto) (H:Hp) (env:IT.Env) (σ:St):Prop where
 len:env.length=σ.length
 get:∀ (i:Nat) (r:R),env[i]?=some (some r)->∃ v,σ[i]?=some (some v)/\RepR K μ h H r v
inductive zbi (K:PySem.W.Frag) (μ:List Addr) (h:Sto) (H:Hp):List R->List V->Prop where
 | nil:zbi K μ h H [] []
 | cons {r:R} {v:V} {rs:List R} {vs:List V}:RepR K μ h H r v->zbi K μ h H rs vs->zbi K μ h H (r::rs) (v::vs)
section
variable {K:PySem.W.Frag} {μ μ':List Addr} {h h':Sto} {H H':Hp}
theorem RepE.stp (s:Stp μ h H μ' h' H') (R0:Rep K μ h H) {env:IT.Env} {σ:St} (q:RepE K μ h H env σ):RepE K μ' h' H' env σ:=
 ⟨q.len,λi r e=>let ⟨v,e',z⟩:=q.get i r e;⟨v,e',z.stp s R0⟩⟩
theorem zbi.stp (s:Stp μ h H μ' h' H') (R0:Rep K μ h H) {rs:List R} {vs:List V} (q:zbi K μ h H rs vs):zbi K μ' h' H' rs vs:=by
 induction q with
 | nil=>exact .nil
 | cons a _ ih=>exact .cons (a.stp s R0) ih
theorem zbi.length {rs:List R} {vs:List V} (q:zbi K μ h H rs vs):rs.length=vs.length:=by
 induction q with
 | nil=>rfl
 | cons _ _ ih=>simp [ih]
theorem RepE.set {env:IT.Env} {σ:St} (q:RepE K μ h H env σ) (i:Nat) {r:R} {v:V} (z:RepR K μ h H r v):RepE K μ h H (env.set i (some r)) (σ.set i (some v)):=by
 refine ⟨by simp [q.len],λj r' e=>?_⟩
 by_cases hj:j=i
 ·subst hj
  have hl:j<env.length:=by
   have:=(List.getElem?_eq_some_iff.mp e).1
   simpa using this
  rw [List.getElem?_set_self hl] at e
  cases e
  exact ⟨v,by rw [List.getElem?_set_self (by rw [<-q.len];exact hl)],z⟩
 ·rw [List.getElem?_set_ne (Ne.symm hj)] at e ⊢
  exact q.get j r' e
theorem zlC:∀ {rs:List R} {vs:List V} {ds:List D} {h h':Sto},Rep K μ h H->zbi K μ h H rs vs->rds rs h=some (ds,h')->h'=h/\Paired (RdD K (Live μ h) H) ds vs
 | [],_,ds,h,h',R0,.nil,e=>by
  simp only [rds,zab] at e
  obtain ⟨rfl,rfl⟩:=e
  exact ⟨rfl,.nil⟩
 | r::rs,_,ds,h,h',R0,.cons q qs,e=>by
  simp only [rds,zaa,zab] at e
  obtain ⟨d,h1,e1,ds',h2,e2,rfl,rfl⟩:=e
  obtain ⟨rfl,z⟩:=zbg R0 q e1
  obtain ⟨rfl,zs⟩:=zlC R0 qs e2
  exact ⟨rfl,.cons z zs⟩
theorem ziO:∀ {rs:List R} {vs:List V} {ds:List D} {h h':Sto},Rep K μ h H->zbi K μ h H rs vs->fzs rs h=some (ds,h')->Stp μ h H μ h' H/\Rep K μ h' H/\RepDs K (Live μ h') H ds vs
 | [],_,ds,h,h',R0,.nil,e=>by
  simp only [fzs,zab] at e
  obtain ⟨rfl,rfl⟩:=e
  exact ⟨Stp.refl,R0,.nil⟩
 | r::rs,_,ds,h,h',R0,.cons q qs,e=>by
  simp only [fzs,zaa,zab] at e
  obtain ⟨d,h1,e1,ds',h2,e2,rfl,rfl⟩:=e
  obtain ⟨s1,R1,z⟩:=zk9 R0 q e1
  obtain ⟨s2,R2,zs⟩:=ziO R1 (qs.stp s1 R0) e2
  exact ⟨s1.trans s2,R2,.cons (z.stp s2 R1) zs⟩
end
inductive Post {α β:Type} (K:PySem.W.Frag) (μ:List Addr) (h:Sto) (H:Hp) (Rel:List Addr->Sto->Hp->α->β->Prop) (m:Option (α×Sto)) (Q:β->Hp->Prop):Prop where
 | mk (r:α) (h':Sto) (e:m=some (r,h')) (k:∀ μ' H' v,Stp μ h H μ' h' H'->Rep K μ' h' H'->Rel μ' h' H' r v->Q v H')
inductive tE (K:PySem.W.Frag) (f:IT.Env->M R) (σ:St) (H:Hp) (Q:VK):Prop where
 | mk (μ:List Addr) (h:Sto) (env:IT.Env) (R0:Rep K μ h H) (re:RepE K μ h H env σ) (p:Post K μ h H (RepR K) (f env h) Q)
inductive tTv (K:PySem.W.Frag) (f:IT.Env->M Bool) (σ:St) (H:Hp) (Q:Bool->Hp->Prop):Prop where
 | mk (μ:List Addr) (h:Sto) (env:IT.Env) (R0:Rep K μ h H) (re:RepE K μ h H env σ) (p:Post K μ h H (λ_ _ _ a b=>a=b) (f env h) Q)
inductive tAs (K:PySem.W.Frag) (f:IT.Env->M (List R)) (σ:St) (H:Hp) (Q:List V->Hp->Prop):Prop where
 | mk (μ:List Addr) (h:Sto) (env:IT.Env) (R0:Rep K μ h H) (re:RepE K μ h H env σ) (p:Post K μ h H (zbi K) (f env h) Q)
inductive tLs (K:PySem.W.Frag) (f:IT.Env->M (List D)) (σ:St) (H:Hp) (Q:VK):Prop where
 | mk (μ:List Addr) (h:Sto) (env:IT.Env) (R0:Rep K μ h H) (re:RepE K μ h H env σ) (xs:List D) (h':Sto) (e:f env h=some (xs,h')) (k:∀ μ' H' a vs,Stp μ h H μ' h' H'->Rep K μ' h' H'->RepDs K (Live μ' h') H' xs vs->H' a=none->Q (.ref a) (upd H' a (.lst vs)))
noncomputable abbrev IE (X:Cx) (e:Expr) (f:IT.Env->M R):Prop:=PE X e (tE X.K f)
noncomputable abbrev IT' (X:Cx) (e:Expr) (f:IT.Env->M Bool):Prop:=PT X e (tTv X.K f)
noncomputable abbrev IA (X:Cx) (es:List Expr) (f:IT.Env->M (List R)):Prop:=PA X es (tAs X.K f)
noncomputable abbrev IL (X:Cx) (e:Expr) (f:IT.Env->M (List D)):Prop:=PE X e (tLs X.K f)
theorem PE.imp {X:Cx} {e:Expr} {t t':TE} (h:PE X e t) (i:∀ σ H Q,t' σ H Q->t σ H Q):PE X e t':=λpins s σ H Q I q=>h pins s σ H Q I (i σ H Q q)
theorem PT.imp {X:Cx} {e:Expr} {t t':TT} (h:PT X e t) (i:∀ σ H Q,t' σ H Q->t σ H Q):PT X e t':=λpins s σ H Q I q=>h pins s σ H Q I (i σ H Q q)
theorem PA.imp {X:Cx} {e:List Expr} {t t':TA} (h:PA X e t) (i:∀ σ H Q,t' σ H Q->t σ H Q):PA X e t':=λpos pins s σ H Q I q=>h pos pins s σ H Q I (i σ H Q q)
section
variable {X:Cx} {e a b c:Expr} {es:List Expr} {pos:Pos} {f g k:IT.Env->M R} {ft gt:IT.Env->M Bool}
theorem zgP {v:V} {d:D} (h:PE X e (tC v)) (hd:∀ A H,RepD X.K A H d v):IE X e (λ_=>ok (.d d)):=by
 refine PE.imp h λσ H Q q0=>?_
 obtain ⟨μ,h,env,R0,re,r,h',e,k⟩:=q0
 obtain ⟨rfl,rfl⟩:=zab.mp e
 exact k μ H v Stp.refl R0 (hd _ _)
theorem zoV {i:Nat} (h:PE X e (tVar i)):IE X e (λσ h=>match σ[i]? with | some (some r)=>some (r,h) | _=>none):=by
 refine PE.imp h λσ H Q q0=>?_
 obtain ⟨μ,h,env,R0,re,r,h',e,k⟩:=q0
 have e2:env[i]?=some (some r)/\h=h':=by
  (try dsimp only at e)
  cases q:env[i]? with
  | none=>rw [q] at e;cases e
  | some o=>
   cases o with
   | none=>rw [q] at e;cases e
   | some r'=>rw [q] at e;simp at e;exact ⟨by rw [e.1],e.2⟩
 obtain ⟨e3,rfl⟩:=e2
 obtain ⟨v,e4,z⟩:=re.get i r e3
 exact ⟨v,e4,k μ H v Stp.refl R0 z⟩
inductive OpIQ (K:PySem.W.Frag) (m:R->R->M R) (v u:V) (H:Hp) (Q:VK):Prop where
 | mk (μ:List Addr) (h:Sto) (x y:R) (R0:Rep K μ h H) (qx:RepR K μ h H x v) (qy:RepR K μ h H y u) (p:Post K μ h H (RepR K) (m x y h) Q)
noncomputable def OpI (X:Cx) (F:Value->Value->Sem Value) (m:R->R->M R):Prop:=OpR X F λv u H Q=>OpIQ X.K m v u H Q
theorem two {m:R->R->M R} {σ:St} {H:Hp} {Q:VK} (q:tE X.K (λσ=>bnd (f σ) λx=>bnd (g σ) λy=>m x y) σ H Q) :
  tE X.K f σ H λv H1=>tE X.K g σ H1 λu H2=>OpIQ X.K m v u H2 Q:=by
 obtain ⟨μ,h,env,R0,re,r,h',e,k⟩:=q
 simp only [zaa] at e
 obtain ⟨x,h1,e1,y,h2,e2,e3⟩:=e
 exact ⟨μ,h,env,R0,re,x,h1,e1,λμ1 H1 v s1 R1 q1=>⟨μ1,h1,env,R1,re.stp s1 R0,y,h2,e2,λμ2 H2 u s2 R2 q2=>
  ⟨μ2,h2,x,y,R2,q1.stp s2 R1,q2,r,h',e3,λμ3 H3 w s3 R3 q3=>k μ3 H3 w ((s1.trans s2).trans s3) R3 q3⟩⟩⟩
theorem zpe {op:Operator} {m:R->R->M R} (ho:OpI X (binaryOp op) m) (ha:IE X a f) (hb:IE X b g):IE X (.BinOp a op b pos) (λσ=>bnd (f σ) λx=>bnd (g σ) λy=>m x y):=
 PE.imp (zp0 ho ha hb) λσ H Q q=>two q
theorem zjO {op:CmpOp} {m:R->R->M R} (ho:OpI X (compareOp op) m) (ha:IE X a f) (hb:IE X b g) (hm:behindInMarks op b=false):IE X (.Compare a [op] [b] pos) (λσ=>bnd (f σ) λx=>bnd (g σ) λy=>m x y):=
 PE.imp (zm1 ho ha hb hm) λσ H Q q=>two q
inductive OpDQ (K:PySem.W.Frag) (g:D->D->Option D) (v u:V) (H:Hp) (Q:VK):Prop where
 | mk (μ:List Addr) (h:Sto) (a b z:D) (R0:Rep K μ h H) (qa:RdD K (Live μ h) H a v) (qb:RdD K (Live μ h) H b u) (e:g a b=some z) (k:∀ μ' H' w,Stp μ h H μ' h H'->Rep K μ' h H'->RepD K (Live μ' h) H' z w->Q w H')
noncomputable def OpD (X:Cx) (F:Value->Value->Sem Value) (g:D->D->Option D):Prop:=OpR X F λv u H Q=>OpDQ X.K g v u H Q
noncomputable def mD (g:D->D->Option D) (x y:R):M R:=bnd (rd x) λx=>bnd (rd y) λy=>bnd (opt (g x y)) λz=>ok (.d z)
theorem OpD.opI {F:Value->Value->Sem Value} {g:D->D->Option D} (h:OpD X F g):OpI X F (mD g):=by
 intro pins s σ H v u v' u' Q I rv ru q
 obtain ⟨μ,h0,x,y,R0,qx,qy,r,h',e,k⟩:=q
 simp only [mD,zaa,zab,zaq] at e
 obtain ⟨dx,h1,e1,dy,h2,e2,z,h3,⟨e3,rfl⟩,rfl,rfl⟩:=e
 obtain ⟨rfl,zx⟩:=zbg R0 qx e1
 obtain ⟨rfl,zy⟩:=zbg R0 qy e2
 exact h pins s σ H v u v' u' Q I rv ru ⟨μ,_,dx,dy,z,R0,zx,zy,e3,λμ' H' w st R1 qw=>k μ' H' w st R1 qw⟩
theorem zoB (h:IE X e f) (he:∀ whole,isTrue e X.env whole=(do let v<-whole;standAt e.pos;holding [v] (truthy v))):IT' X e (λσ=>bnd (f σ) λr=>bnd (rd r) λd=>opt (tru d)):=by
 refine PT.imp (zko h he) λσ H Q q0=>?_
 obtain ⟨μ,h,env,R0,re,t,h',e,k⟩:=q0
 simp only [zaa,zaq] at e
 obtain ⟨r,h1,e1,d,h2,e2,e3,rfl⟩:=e
 refine ⟨μ,h,env,R0,re,r,h1,e1,λμ1 H1 v s1 R1 q1=>?_⟩
 obtain ⟨rfl,z⟩:=zbg R1 q1 e2
 refine ⟨t,?_,k μ1 H1 t s1 R1 rfl⟩
 cases d with
 | non=>simp only [RdD,RepD] at z;subst z;simp only [tru,Option.some.injEq] at e3;exact e3.symm
 | bl b=>simp only [RdD,RepD] at z;subst z;simp only [tru,Option.some.injEq] at e3;exact e3.symm
 | int i=>simp only [RdD,RepD] at z;subst z;simp only [tru,Option.some.injEq] at e3;exact e3.symm
 | str x=>
  simp only [RdD,RepD] at z
  subst z
  simp only [tru] at e3
  split at e3
  ·rename_i hf
   simp only [Option.some.injEq] at e3
   refine ⟨by rw [zco];exact of_decide_eq_true hf,?_⟩
   rw [<-e3,zco]
   cases x<;>simp
   omega
  ·cases e3
 | tup xs=>
  simp only [RdD,RepD] at z
  obtain ⟨a,vs,rfl,q,zs⟩:=z
  simp only [tru,Option.some.injEq] at e3
  refine .inr (.inl ⟨vs,q,?_⟩)
  rw [<-e3]
  have:=zs.length
  cases xs<;>cases vs<;>simp_all
 | lst xs=>
  obtain ⟨a,vs,rfl,q,zs⟩:=z
  simp only [tru,Option.some.injEq] at e3
  refine .inl ⟨vs,q,?_⟩
  rw [<-e3]
  have:=zs.length
  cases xs<;>cases vs<;>simp_all
theorem zic {op:CmpOp} {m:R->R->M R} (ho:OpI X (compareOp op) m) (ha:IE X a f) (hb:IE X b g) (hm:behindInMarks op b=false) (hbl:∀ x y h r h',m x y h=some (r,h')->∃ t,r=.d (.bl t)) :
  IT' X (.Compare a [op] [b] pos) (λσ=>bnd (bnd (f σ) λx=>bnd (g σ) λy=>m x y) λr=>bnd (rd r) λd=>opt (tru d)):=by
 refine PT.imp (zna ho ha hb hm) λσ H Q q0=>?_
 obtain ⟨μ,h,env,R0,re,t,h',e,k⟩:=q0
 simp only [zaa,zaq] at e
 obtain ⟨r,h1,⟨x,h2,e1,y,h3,e2,e3⟩,d,h4,e4,e5,rfl⟩:=e
 obtain ⟨t',rfl⟩:=hbl _ _ _ _ _ e3
 simp only [rd,zab] at e4
 obtain ⟨rfl,rfl⟩:=e4
 simp only [tru,Option.some.injEq] at e5
 subst e5
 refine two (m:=m) ⟨μ,h,env,R0,re,.d (.bl t'),h1,by simp only [zaa];exact ⟨x,h2,e1,y,h3,e2,e3⟩,λμ1 H1 v s1 R1 q1=>?_⟩
 simp only [RepR,RepD] at q1
 subst q1
 exact ⟨t',rfl,k μ1 H1 t' s1 R1 rfl⟩
theorem zlK {rest:List Expr} {tb:TT} (ha:IT' X a ft) (hb:PW X (.BoolOp .And (b::rest) pos) (tTv X.K gt)):PW X (.BoolOp .And (a::b::rest) pos) (tTv X.K λσ=>bnd (ft σ) λt=>if t then gt σ else ok false):=by
 intro whole pins s σ H Q I q
 refine zom ha hb whole pins s σ H Q I ?_
 obtain ⟨μ,h,env,R0,re,t,h',e,k⟩:=q
 simp only [zaa] at e
 obtain ⟨u,h1,e1,e2⟩:=e
 refine ⟨μ,h,env,R0,re,u,h1,e1,λμ1 H1 v s1 R1 hv=>?_⟩
 subst hv
 cases u with
 | true=>
  rw [if_pos rfl] at e2
  rw [if_pos rfl]
  exact ⟨μ1,h1,env,R1,re.stp s1 R0,t,h',e2,λμ2 H2 v s2 R2 hv=>k μ2 H2 v (s1.trans s2) R2 hv⟩
 | false=>
  rw [if_neg (by decide)] at e2
  rw [if_neg (by decide)]
  obtain ⟨rfl,rfl⟩:=zab.mp e2
  exact k μ1 H1 _ s1 R1 rfl
theorem zo9 {rest:List Expr} (ha:IT' X a ft) (hb:PW X (.BoolOp .Or (b::rest) pos) (tTv X.K gt)):PW X (.BoolOp .Or (a::b::rest) pos) (tTv X.K λσ=>bnd (ft σ) λt=>if t then ok true else gt σ):=by
 intro whole pins s σ H Q I q
 refine zpT ha hb whole pins s σ H Q I ?_
 obtain ⟨μ,h,env,R0,re,t,h',e,k⟩:=q
 simp only [zaa] at e
 obtain ⟨u,h1,e1,e2⟩:=e
 refine ⟨μ,h,env,R0,re,u,h1,e1,λμ1 H1 v s1 R1 hv=>?_⟩
 subst hv
 cases u with
 | false=>
  rw [if_neg (by decide)] at e2
  rw [if_neg (by decide)]
  exact ⟨μ1,h1,env,R1,re.stp s1 R0,t,h',e2,λμ2 H2 v s2 R2 hv=>k μ2 H2 v (s1.trans s2) R2 hv⟩
 | true=>
  rw [if_pos rfl] at e2
  rw [if_pos rfl]
  obtain ⟨rfl,rfl⟩:=zab.mp e2
  exact k μ1 H1 _ s1 R1 rfl
theorem zpm (ha:IT' X a ft):IT' X (.UnaryOp .Not a pos) (λσ=>bnd (ft σ) λt=>ok (!t)):=by
 refine PT.imp (znK ha) λσ H Q q0=>?_
 obtain ⟨μ,h,env,R0,re,t,h',e,k⟩:=q0
 simp only [zaa,zab] at e
 obtain ⟨u,h1,e1,rfl,rfl⟩:=e
 refine ⟨μ,h,env,R0,re,u,h1,e1,λμ1 H1 v s1 R1 hv=>?_⟩
 subst hv
 exact k μ1 H1 _ s1 R1 rfl
theorem zlw {rest:List Expr} (ha:IE X a f) (hb:IE X (.BoolOp .And (b::rest) pos) g):IE X (.BoolOp .And (a::b::rest) pos) (λσ=>bnd (f σ) λx=>match x with | .d (.bl c)=>if c then g σ else ok (.d (.bl false)) | _=>λ_=>none):=by
 refine PE.imp (zoQ ha hb) λσ H Q q0=>?_
 obtain ⟨μ,h,env,R0,re,r,h',e,k⟩:=q0
 simp only [zaa] at e
 obtain ⟨x,h1,e1,e2⟩:=e
 refine ⟨μ,h,env,R0,re,x,h1,e1,λμ1 H1 v s1 R1 q1=>?_⟩
 cases x with
 | loc l=>cases e2
 | d d=>
  cases d with
  | bl c=>
   simp only [RepR,RepD] at q1
   refine ⟨c,q1,?_⟩
   cases c with
   | true=>
    simp only [if_true] at e2 ⊢
    exact ⟨μ1,h1,env,R1,re.stp s1 R0,r,h',e2,λμ2 H2 v s2 R2 hv=>k μ2 H2 v (s1.trans s2) R2 hv⟩
   | false=>
    simp only [Bool.false_eq_true,if_false] at e2 ⊢
    obtain ⟨rfl,rfl⟩:=zab.mp e2
    exact k μ1 H1 _ s1 R1 (by simp only [RepR,RepD])
  | _=>cases e2
theorem zot {rest:List Expr} (ha:IE X a f) (hb:IE X (.BoolOp .Or (b::rest) pos) g):IE X (.BoolOp .Or (a::b::rest) pos) (λσ=>bnd (f σ) λx=>match x with | .d (.bl c)=>if c then ok (.d (.bl true)) else g σ | _=>λ_=>none):=by
 refine PE.imp (zpR ha hb) λσ H Q q0=>?_
 obtain ⟨μ,h,env,R0,re,r,h',e,k⟩:=q0
 simp only [zaa] at e
 obtain ⟨x,h1,e1,e2⟩:=e
 refine ⟨μ,h,env,R0,re,x,h1,e1,λμ1 H1 v s1 R1 q1=>?_⟩
 cases x with
 | loc l=>cases e2
 | d d=>
  cases d with
  | bl c=>
   simp only [RepR,RepD] at q1
   refine ⟨c,q1,?_⟩
   cases c with
   | false=>
    simp only [Bool.false_eq_true,if_false] at e2 ⊢
    exact ⟨μ1,h1,env,R1,re.stp s1 R0,r,h',e2,λμ2 H2 v s2 R2 hv=>k μ2 H2 v (s1.trans s2) R2 hv⟩
   | true=>
    simp only [if_true] at e2 ⊢
    obtain ⟨rfl,rfl⟩:=zab.mp e2
    exact k μ1 H1 _ s1 R1 (by simp only [RepR,RepD])
  | _=>cases e2
theorem zjd {pins:List (Addr×Obj)} {σ:St} {H:Hp} {s:Shared} {A:Around} {A0:Addr->Prop} {d:D} {v:V} {u:Value} {b:Bool} {Q:Bool->Shared->Prop} {E:Value->Shared->Prop} (I:Inv X pins σ H s) (q:RdD X.K A0 H d v) (r:RelV v u) (e:tru d=some b) (k:∀ tk,Q b { s with toks:=tk }) :
  wpAny (model X.prog X.w) A (truthy u) Q E s:=by
 have hl:=zfm
 have hs:sizeLine=16777216:=sizeLine_eq
 cases d with
 | non=>
  simp only [RdD,RepD] at q;subst q;cases r
  simp only [tru,Option.some.injEq] at e;subst e
  exact PyProof.Rows.truthy_none (k s.toks)
 | bl c=>
  simp only [RdD,RepD] at q;subst q;cases r
  simp only [tru,Option.some.injEq] at e;subst e
  exact wpAny_truthy_bool (k s.toks)
 | int i=>
  simp only [RdD,RepD] at q;subst q
  obtain ⟨t,rfl⟩:=r
  simp only [tru,Option.some.injEq] at e;subst e
  exact PySem.P.truthy_int (k s.toks)
 | str x=>
  simp only [RdD,RepD] at q;subst q
  obtain ⟨t,rfl⟩:=r
  simp only [tru] at e
  split at e
  ·rename_i hf
   simp only [Option.some.injEq] at e
   have hx:x.length<=big:=of_decide_eq_true hf
   unfold big at hx
   refine PySem.P.truthy_str (by rw [zco];omega) ?_
   have e2:(((zaB x).length:Int) != 0)=b:=by
    rw [<-e,zco]
    cases x<;>simp
    omega
   rw [e2]
   exact k _
  ·cases e
 | tup xs=>
  simp only [RdD,RepD] at q
  obtain ⟨a,vs,rfl,q,zs⟩:=q
  cases r
  simp only [tru,Option.some.injEq] at e
  obtain ⟨its,ri,pl,hz⟩:=I.tuple q
  have hlen:=ri.length
  have h1:=zs.length
  refine PyProof.Rows.truthy_tuple pl (by simp only [List.size_toArray];omega) ?_
  have e2:(!its.toArray.isEmpty)=b:=by
   rw [zb3 ri,<-e]
   clear hlen ri pl q hz
   cases xs<;>cases vs<;>first | rfl | (simp at h1)
  rw [e2]
  exact k _
 | lst xs=>
  obtain ⟨a,vs,rfl,q,zs⟩:=q
  cases r
  simp only [tru,Option.some.injEq] at e
  obtain ⟨its,ri,pl,hz⟩:=I.list q
  have hlen:=ri.length
  have h1:=zs.length
  refine wpAny_truthy_list pl.isList (by simp only [List.size_toArray];omega) ?_
  have e2:(!its.toArray.isEmpty)=b:=by
   rw [zb3 ri,<-e]
   clear hlen ri pl q hz
   cases xs<;>cases vs<;>first | rfl | (simp at h1)
  rw [e2]
  exact k _
theorem zpg (ha:IE X a f):IE X (.UnaryOp .Not a pos) (λσ=>bnd (f σ) λx=>bnd (rd x) λd=>bnd (opt (tru d)) λt=>ok (.d (.bl (!t)))):=by
 intro pins s σ H Q I q0
 obtain ⟨μ,h,env,R0,re,r,h',e,k⟩:=q0
 simp only [zaa,zaq,zab] at e
 obtain ⟨x,h1,e1,d,h2,e2,t,h3,⟨e3,rfl⟩,rfl,rfl⟩:=e
 have z:=ha pins s σ H (λy H1=>∃ A0 d,RdD X.K A0 H1 d y/\tru d=some t/\Q (.bl (!t)) H1) I ⟨μ,h,env,R0,re,x,h1,e1,λμ1 H1 v s1 R1 q1=>by
  obtain ⟨rfl,z⟩:=zbg R1 q1 e2
  exact ⟨_,d,z,e3,k μ1 H1 _ s1 R1 (by simp only [RepR,RepD])⟩⟩
 refine PyProof.Rows.UnaryOp_ (thn z λv s1 ⟨y,H1,I1,r1,A0,d',z1,z2,q1⟩=>PyProof.Rows.not_of ?_)
 exact zjd I1 z1 r1 z2 λtk=>⟨.bl (!t),H1,I1.tok _,rfl,q1⟩
theorem zpr (hc:IT' X c ft) (ha:IE X a f) (hb:IE X b g):IE X (.IfExp c a b pos) (λσ=>bnd (ft σ) λt=>if t then f σ else g σ):=by
 refine PE.imp (zld hc ha hb) λσ H Q q0=>?_
 obtain ⟨μ,h,env,R0,re,r,h',e,k⟩:=q0
 simp only [zaa] at e
 obtain ⟨t,h1,e1,e2⟩:=e
 refine ⟨μ,h,env,R0,re,t,h1,e1,λμ1 H1 v s1 R1 hv=>?_⟩
 subst hv
 cases t with
 | true=>
  simp only [if_true] at e2 ⊢
  exact ⟨μ1,h1,env,R1,re.stp s1 R0,r,h',e2,λμ2 H2 v s2 R2 hv=>k μ2 H2 v (s1.trans s2) R2 hv⟩
 | false=>
  simp only [Bool.false_eq_true,if_false] at e2 ⊢
  exact ⟨μ1,h1,env,R1,re.stp s1 R0,r,h',e2,λμ2 H2 v s2 R2 hv=>k μ2 H2 v (s1.trans s2) R2 hv⟩
theorem zo4:IA X [] (λ_=>ok []):=by
 refine PA.imp zbI λσ H Q q0=>?_
 obtain ⟨μ,h,env,R0,re,r,h',e,k⟩:=q0
 obtain ⟨rfl,rfl⟩:=zab.mp e
 exact k μ H [] Stp.refl R0 .nil
theorem znp {fs:IT.Env->M (List R)} (ha:IE X e f) (hr:IA X es fs) (hs:starEach (e::es) X.env=(false,eval e X.env)::starEach es X.env):IA X (e::es) (λσ=>bnd (f σ) λr=>bnd (fs σ) λrs=>ok (r::rs)):=by
 refine PA.imp (zaY ha hr hs) λσ H Q q0=>?_
 obtain ⟨μ,h,env,R0,re,r,h',e,k⟩:=q0
 simp only [zaa,zab] at e
 obtain ⟨x,h1,e1,xs,h2,e2,rfl,rfl⟩:=e
 exact ⟨μ,h,env,R0,re,x,h1,e1,λμ1 H1 v s1 R1 q1=>⟨μ1,h1,env,R1,re.stp s1 R0,xs,h2,e2,λμ2 H2 vs s2 R2 q2=>k μ2 H2 (v::vs) (s1.trans s2) R2 (.cons (q1.stp s2 R1) q2)⟩⟩
theorem znv {n:Nat} {fs:IT.Env->M (List R)} (h:IA X es fs) (hl:es.length<=1000) (hf:∀ σ h rs h',fs σ h=some (rs,h')->rs.length=es.length):IE X (.Tuple es n pos) (λσ=>bnd (fs σ) λrs=>bnd (fzs rs) λds=>ok (.d (.tup ds))):=by
 refine PE.imp (zn4 h) λσ H Q q0=>?_
 obtain ⟨μ,h,env,R0,re,r,h',e,k⟩:=q0
 simp only [zaa,zab] at e
 obtain ⟨rs,h1,e1,ds,h2,e2,rfl,rfl⟩:=e
 refine ⟨μ,h,env,R0,re,rs,h1,e1,λμ1 H1 vs s1 R1 q1=>⟨?_,λp hp=>?_⟩⟩
 ·rw [<-q1.length,hf _ _ _ _ e1]
  have:(1000:Nat)<=sizeLine:=by decide
  omega
 ·obtain ⟨s2,R2,q2⟩:=ziO R1 q1 e2
  have s3:Stp μ1 h2 H1 μ1 h2 (upd H1 p (.tup vs)):=Stp.fresh hp
  refine k μ1 _ (.ref p) ((s1.trans s2).trans s3) (R2.fresh hp) ?_
  simp only [RepR,RepD]
  exact ⟨p,vs,rfl,SqT.of zaj,RepDs.stp s3 R2 q2⟩
theorem zmN {fs:IT.Env->M (List R)} (h:IA X es fs) (hl:es.length<=1000) (hf:∀ σ h rs h',fs σ h=some (rs,h')->rs.length=es.length):IL X (.List es pos) (λσ=>bnd (fs σ) λrs=>fzs rs):=by
 refine PE.imp (znR h) λσ H Q q0=>?_
 obtain ⟨μ,h,env,R0,re,ds,h',e,k⟩:=q0
 simp only [zaa] at e
 obtain ⟨rs,h1,e1,e2⟩:=e
 refine ⟨μ,h,env,R0,re,rs,h1,e1,λμ1 H1 vs s1 R1 q1=>⟨?_,λp hp=>?_⟩⟩
 ·rw [<-q1.length,hf _ _ _ _ e1]
  have:(1000:Nat)<=sizeLine:=by decide
  omega
 ·obtain ⟨s2,R2,q2⟩:=ziO R1 q1 e2
  exact k μ1 H1 p vs (s1.trans s2) R2 q2 hp
theorem zee {fl:IT.Env->M (List D)} (m:Bool) (h:IL X e fl):IE X e (λσ=>bnd (fl σ) λxs=>if m then alloc xs else ok (.d (.lst xs))):=by
 refine PE.imp h λσ H Q q0=>?_
 obtain ⟨μ,h,env,R0,re,r,h',e,k⟩:=q0
 simp only [zaa] at e
 obtain ⟨xs,h1,e1,e2⟩:=e
 refine ⟨μ,h,env,R0,re,xs,h1,e1,λμ1 H1 a vs s1 R1 q1 ha=>?_⟩
 cases m with
 | true=>
  simp only [if_true,alloc,Option.some.injEq,Prod.mk.injEq] at e2
  obtain ⟨rfl,rfl⟩:=e2
  refine k (μ1++[a]) _ (.ref a) (s1.trans (Stp.alloc R1 ha)) (R1.alloc ha q1) ⟨a,?_,rfl⟩
  rw [<-R1.len]
  simp
 | false=>
  simp only [Bool.false_eq_true,if_false] at e2
  obtain ⟨rfl,rfl⟩:=zab.mp e2
  have s2:Stp μ1 h1 H1 μ1 h1 (upd H1 a (.lst vs)):=Stp.fresh ha
  refine k μ1 _ (.ref a) (s1.trans s2) (R1.fresh ha) ?_
  simp only [RepR,RepD]
  refine ⟨a,vs,rfl,.inl ⟨λl=>?_,.inl zaj⟩,RepDs.stp s2 R1 q1⟩
  obtain ⟨ws,z,_⟩:=R1.liveAt l
  rw [ha] at z;cases z
end
end IT
set_option linter.all false
set_option maxHeartbeats 4000000
namespace IT
open PySem PySem.Spec L2
section
variable {K:PySem.W.Frag} {A0:Addr->Prop} {H:Hp}
theorem zeX (x y:List Nat):(zaB x==zaB y)=(x==y):=by
 by_cases e:x=y
 ·subst e;simp
 ·rw [beq_eq_false_iff_ne.mpr e,beq_eq_false_iff_ne.mpr (λz=>e (zbP z))]
structure zbm (X:Cx) (s:Shared) (H:Hp):Prop where
 lst:∀ a vs,SqL X.K H a vs->∃ its:List Value,Vals vs its/\s.heap.IsList a its.toArray
 tup:∀ a vs,SqT X.K H a vs->∃ its:List Value,Vals vs its/\s.heap.IsTuple a its.toArray
theorem zay {X:Cx} {pins:List (Addr×Obj)} {σ:St} {s:Shared} (I:Inv X pins σ H s):zbm X s H:=
 ⟨λa vs q=>let ⟨its,r,p,_⟩:=I.list q;⟨its,r,p.isList⟩,λa vs q=>let ⟨its,r,p,_⟩:=I.tuple q;⟨its,r,p⟩⟩
theorem zbk {α:Type} (xs ys:List α) (f:α->α->Bool) (hl:xs.length=ys.length) (e:Nat->Bool) (he:∀ (j:Nat) (x y:α),xs[j]?=some x->ys[j]?=some y->e j=f x y) :
  (List.range xs.length).all e=(xs.zip ys).all λp=>f p.1 p.2:=by
 rw [Bool.eq_iff_iff,List.all_eq_true,List.all_eq_true]
 constructor
 ·intro h p hp
  obtain ⟨j,hj,e1⟩:=List.getElem_of_mem hp
  have hj':j<xs.length/\j<ys.length:=by simp at hj;omega
  have e2:p=(xs[j]'hj'.1,ys[j]'hj'.2):=by rw [<-e1,List.getElem_zip]
  rw [e2,<-he j _ _ (List.getElem?_eq_getElem hj'.1) (List.getElem?_eq_getElem hj'.2)]
  exact h j (by simpa using hj'.1)
 ·intro h j hj
  have hj1:j<xs.length:=by simpa using hj
  have hj2:j<ys.length:=by omega
  rw [he j _ _ (List.getElem?_eq_getElem hj1) (List.getElem?_eq_getElem hj2)]
  refine h (xs[j],ys[j]) ?_
  rw [List.mem_iff_getElem]
  exact ⟨j,by simp;omega,by simp⟩
theorem zbz:∀ xs ys:List D,xs.length=ys.length->D.eqbs xs ys=(xs.zip ys).all λp=>p.1.eqb p.2
 | [],[],_=>rfl
 | x::xs,y::ys,h=>by
  simp only [D.eqbs,List.zip_cons_cons,List.all_cons]
  rw [zbz xs ys (by simpa using h)]
theorem zbw:∀ xs ys:List D,xs.length≠ys.length->D.eqbs xs ys=false
 | [],[],h=>absurd rfl h
 | [],_::_,_=>rfl
 | _::_,[],_=>rfl
 | x::xs,y::ys,h=>by
  simp only [D.eqbs]
  rw [zbw xs ys (by simpa using h),Bool.and_false]
theorem zeu {vs:List V} {its:List Value} (r:Vals vs its) {j:Nat} {v:V} (e:vs[j]?=some v) (h:j<its.length):RelV v its[j]:=by
 obtain ⟨u,e1,r1⟩:=r.get e
 rw [List.getElem?_eq_getElem h] at e1
 cases e1
 exact r1
mutual
theorem D.eqb_refl:∀ x:D,x.eqb x=true
 | .non=>rfl
 | .bl a=>by simp [D.eqb]
 | .int a=>by simp [D.eqb]
 | .str a=>by simp [D.eqb]
 | .tup a=>by simp only [D.eqb];exact D.eqbs_refl a
 | .lst a=>by simp only [D.eqb];exact D.eqbs_refl a
theorem D.eqbs_refl:∀ x:List D,D.eqbs x x=true
 | []=>rfl
 | a::r=>by simp only [D.eqbs,Bool.and_eq_true];exact ⟨D.eqb_refl a,D.eqbs_refl r⟩
end
section
variable {X:Cx} {s:Shared}
theorem zio (S:zbm X s H) {a:Addr} {vs ws:List V} (q:SqT X.K H a vs) (q':SqT X.K H a ws):vs=ws:=by
 obtain ⟨its,ri,o,h1,_,_,h2⟩:=S.tup a vs q
 obtain ⟨its',ri',o',h1',_,_,h2'⟩:=S.tup a ws q'
 rw [h1] at h1';cases h1';rw [h2] at h2';cases h2'
 exact Vals.inj ri ri'
theorem zjR (S:zbm X s H) {a:Addr} {vs ws:List V} (q:SqL X.K H a vs) (q':SqL X.K H a ws):vs=ws:=by
 obtain ⟨its,ri,o,h1,_,_,h2⟩:=S.lst a vs q
 obtain ⟨its',ri',o',h1',_,_,h2'⟩:=S.lst a ws q'
 rw [h1] at h1';cases h1';rw [h2] at h2';cases h2'
 exact Vals.inj ri ri'
theorem zjC (S:zbm X s H) {a:Addr} {vs ws:List V} (q:SqL X.K H a vs) (q':SqT X.K H a ws):False:=by
 obtain ⟨its,ri,p⟩:=S.lst a vs q
 obtain ⟨its',ri',p'⟩:=S.tup a ws q'
 exact SeqAt.ne_of_list_tuple p p' rfl
mutual
theorem RepD.inj (S:zbm X s H):∀ (x y:D) (v:V),RepD X.K A0 H x v->RepD X.K A0 H y v->x=y
 | .non,y,v,qx,qy=>by
  simp only [RepD] at qx;subst qx
  cases y<;>simp_all [RepD]
 | .bl c,y,v,qx,qy=>by
  simp only [RepD] at qx;subst qx
  cases y<;>simp_all [RepD]
 | .int c,y,v,qx,qy=>by
  simp only [RepD] at qx;subst qx
  cases y<;>simp_all [RepD]
 | .str c,y,v,qx,qy=>by
  simp only [RepD] at qx;subst qx
  cases y with
  | str b=>simp only [RepD,V.str.injEq] at qy;rw [zbP qy]
  | _=>simp [RepD] at qy
 | .tup c,y,v,qx,qy=>by
  simp only [RepD] at qx
  obtain ⟨a,vs,rfl,q,zs⟩:=qx
  cases y with
  | tup b=>
   simp only [RepD] at qy
   obtain ⟨a',vs',e,q',zs'⟩:=qy
   cases e
   have e2:=zio S q q'
   subst e2
   rw [RepDs.inj S c b vs zs zs']
  | lst b=>
   simp only [RepD] at qy
   obtain ⟨a',vs',e,q',zs'⟩:=qy
   cases e
   exact (zjC S q'.sq q).elim
  | _=>simp [RepD] at qy
 | .lst c,y,v,qx,qy=>by
  simp only [RepD] at qx
  obtain ⟨a,vs,rfl,q,zs⟩:=qx
  cases y with
  | lst b=>
   simp only [RepD] at qy
   obtain ⟨a',vs',e,q',zs'⟩:=qy
   cases e
   have e2:=zjR S q.sq q'.sq
   subst e2
   rw [RepDs.inj S c b vs zs zs']
  | tup b=>
   simp only [RepD] at qy
   obtain ⟨a',vs',e,q',zs'⟩:=qy
   cases e
   exact (zjC S q.sq q').elim
  | _=>simp [RepD] at qy
theorem RepDs.inj (S:zbm X s H):∀ (x y:List D) (v:List V),RepDs X.K A0 H x v->RepDs X.K A0 H y v->x=y
 | [],y,v,qx,qy=>by
  simp only [RepDs] at qx
  subst qx
  cases y with
  | nil=>rfl
  | cons _ _=>have:=qy.length;simp at this
 | x::xs,y,v,qx,qy=>by
  simp only [RepDs] at qx
  obtain ⟨w,ws,rfl,q1,q2⟩:=qx
  cases y with
  | nil=>have:=qy.length;simp at this
  | cons y ys=>
   simp only [RepDs] at qy
   obtain ⟨w',ws',e,q1',q2'⟩:=qy
   cases e
   rw [RepD.inj S x y w q1 q1',RepDs.inj S xs ys ws q2 q2']
end
end
noncomputable def zax (xs ys:List D) (j:Nat):Bool:=match xs[j]?,ys[j]? with
 | some x,some y=>x.eqb y
 | _,_=>false
section
variable {X:Cx} {s:Shared}
mutual
theorem zjn (S:zbm X s H):∀ (x y:D) (A:Around) (v w:V) (u t:Value),RdD X.K A0 H x v->RdD X.K A0 H y w->RelV v u->RelV w t->A.units+min x.dep y.dep<cLine->SeqAt.EqAt A s u t (x.eqb y)
 | .non,y,A,v,w,u,t,qx,qy,ru,rt,hu=>by
  simp only [RdD,RepD] at qx
  subst qx
  cases ru
  cases y with
  | non=>simp only [RdD,RepD] at qy;subst qy;cases rt;exact SeqAt.EqAt.same _
  | bl b=>simp only [RdD,RepD] at qy;subst qy;cases rt;exact SeqAt.EqAt.none_bool b
  | int b=>simp only [RdD,RepD] at qy;subst qy;obtain ⟨t',rfl⟩:=rt;exact SeqAt.EqAt.none_int b t'
  | str b=>simp only [RdD,RepD] at qy;subst qy;obtain ⟨t',rfl⟩:=rt;exact SeqAt.EqAt.none_str _ t'
  | tup b=>
   simp only [RdD,RepD] at qy
   obtain ⟨a,vs,rfl,q,_⟩:=qy
   cases rt
   obtain ⟨its,_,p⟩:=S.tup a vs q
   exact SeqAt.EqAt.none_tuple p (by omega)
  | lst b=>
   obtain ⟨a,vs,rfl,q,_⟩:=qy
   cases rt
   obtain ⟨its,_,p⟩:=S.lst a vs q
   exact SeqAt.EqAt.none_list p (by omega)
 | .bl c,y,A,v,w,u,t,qx,qy,ru,rt,hu=>by
  simp only [RdD,RepD] at qx
  subst qx
  cases ru
  cases y with
  | non=>simp only [RdD,RepD] at qy;subst qy;cases rt;exact SeqAt.EqAt.bool_none c
  | bl b=>simp only [RdD,RepD] at qy;subst qy;cases rt;exact SeqAt.EqAt.bool_bool c b
  | int b=>simp only [RdD,RepD] at qy;subst qy;obtain ⟨t',rfl⟩:=rt;exact SeqAt.EqAt.bool_int c b t'
  | str b=>simp only [RdD,RepD] at qy;subst qy;obtain ⟨t',rfl⟩:=rt;exact SeqAt.EqAt.bool_str c _ t'
  | tup b=>
   simp only [RdD,RepD] at qy
   obtain ⟨a,vs,rfl,q,_⟩:=qy
   cases rt
   obtain ⟨its,_,p⟩:=S.tup a vs q
   exact SeqAt.EqAt.bool_tuple c p (by omega)
  | lst b=>
   obtain ⟨a,vs,rfl,q,_⟩:=qy
   cases rt
   obtain ⟨its,_,p⟩:=S.lst a vs q
   exact SeqAt.EqAt.bool_list c p (by omega)
 | .int c,y,A,v,w,u,t,qx,qy,ru,rt,hu=>by
  simp only [RdD,RepD] at qx
  subst qx
  obtain ⟨u',rfl⟩:=ru
  cases y with
  | non=>simp only [RdD,RepD] at qy;subst qy;cases rt;exact SeqAt.EqAt.int_none c u'
  | bl b=>simp only [RdD,RepD] at qy;subst qy;cases rt;exact SeqAt.EqAt.int_bool c u' b
  | int b=>simp only [RdD,RepD] at qy;subst qy;obtain ⟨t',rfl⟩:=rt;exact SeqAt.EqAt.int_int c u' b t'
  | str b=>simp only [RdD,RepD] at qy;subst qy;obtain ⟨t',rfl⟩:=rt;exact SeqAt.EqAt.int_str c u' _ t'
  | tup b=>
   simp only [RdD,RepD] at qy
   obtain ⟨a,vs,rfl,q,_⟩:=qy
   cases rt
   obtain ⟨its,_,p⟩:=S.tup a vs q
   exact SeqAt.EqAt.int_tuple c u' p (by omega)
  | lst b=>
   obtain ⟨a,vs,rfl,q,_⟩:=qy
   cases rt
   obtain ⟨its,_,p⟩:=S.lst a vs q
   exact SeqAt.EqAt.int_list c u' p (by omega)
 | .str c,y,A,v,w,u,t,qx,qy,ru,rt,hu=>by
  simp only [RdD,RepD] at qx
  subst qx
  obtain ⟨u',rfl⟩:=ru
  cases y with
  | non=>simp only [RdD,RepD] at qy;subst qy;cases rt;exact SeqAt.EqAt.str_none _ u'
  | bl b=>simp only [RdD,RepD] at qy;subst qy;cases rt;exact SeqAt.EqAt.str_bool _ u' b
  | int b=>simp only [RdD,RepD] at qy;subst qy;obtain ⟨t',rfl⟩:=rt;exact SeqAt.EqAt.str_int _ u' b t'
  | str b=>
   simp only [RdD,RepD] at qy
   subst qy
   obtain ⟨t',rfl⟩:=rt
   have:=SeqAt.EqAt.str_str (A:=A) (s:=s) (zaB c) u' (zaB b) t'
   rw [zeX] at this
   exact this
  | tup b=>
   simp only [RdD,RepD] at qy
   obtain ⟨a,vs,rfl,q,_⟩:=qy
   cases rt
   obtain ⟨its,_,p⟩:=S.tup a vs q
   exact SeqAt.EqAt.str_tuple _ u' p (by omega)
  | lst b=>
   obtain ⟨a,vs,rfl,q,_⟩:=qy
   cases rt
   obtain ⟨its,_,p⟩:=S.lst a vs q
   exact SeqAt.EqAt.str_list _ u' p (by omega)
 | .tup c,y,A,v,w,u,t,qx,qy,ru,rt,hu=>by
  simp only [RdD,RepD] at qx
  obtain ⟨a,vs,rfl,q,zs⟩:=qx
  cases ru
  obtain ⟨its,ri,p⟩:=S.tup a vs q
  have hu0:A.units<cLine:=by omega
  cases y with
  | non=>simp only [RdD,RepD] at qy;subst qy;cases rt;exact SeqAt.EqAt.tuple_none p hu0
  | bl b=>simp only [RdD,RepD] at qy;subst qy;cases rt;exact SeqAt.EqAt.tuple_bool b p hu0
  | int b=>simp only [RdD,RepD] at qy;subst qy;obtain ⟨t',rfl⟩:=rt;exact SeqAt.EqAt.tuple_int b t' p hu0
  | str b=>simp only [RdD,RepD] at qy;subst qy;obtain ⟨t',rfl⟩:=rt;exact SeqAt.EqAt.tuple_str _ t' p hu0
  | lst b=>
   obtain ⟨a',vs',rfl,q',_⟩:=qy
   cases rt
   obtain ⟨its',_,p'⟩:=S.lst a' vs' q'
   exact SeqAt.EqAt.tuple_list p p' hu0
  | tup b=>
   simp only [RdD,RepD] at qy
   obtain ⟨a',vs',rfl,q',zs'⟩:=qy
   cases rt
   obtain ⟨its',ri',p'⟩:=S.tup a' vs' q'
   have key:=pairs_D S c b A.in1 vs vs' its its' zs zs' ri ri' (by
    show A.units+1+_<cLine
    simp only [D.dep] at hu
    omega)
   by_cases hab:a=a'
   ·subst hab
    have e2:=zio S q q'
    subst e2
    have e1:=RepDs.inj S c b vs zs zs'
    subst e1
    refine (show D.eqb (.tup c) (.tup c)=true from D.eqb_refl _)▸SeqAt.EqAt.same _
   ·refine SeqAt.EqAt.of_refs hab ?_
    have:=SeqAt.RcAt.tuples (e:=zax c b) p p' hu0 (λj h1 h2=>by
     have:=key j (by simpa using h1) (by simpa using h2)
     simpa using this)
    have e3:((List.range (min its.toArray.size its'.toArray.size)).all (zax c b)&&its.toArray.size==its'.toArray.size)=D.eqbs c b:=by
     have l1:=zs.length
     have l2:=zs'.length
     have l3:=ri.length
     have l4:=ri'.length
     by_cases hl:c.length=b.length
     ·have hm:min its.toArray.size its'.toArray.size=c.length:=by simp;omega
      rw [hm,zbz c b hl,zbk c b (λx y=>x.eqb y) hl (zax c b) (λj x y h1 h2=>by simp [zax,h1,h2])]
      have:(its.toArray.size==its'.toArray.size)=true:=by simp;omega
      rw [this,Bool.and_true]
     ·rw [zbw c b hl]
      have:(its.toArray.size==its'.toArray.size)=false:=by simp;omega
      rw [this,Bool.and_false]
    rw [e3] at this
    exact this
 | .lst c,y,A,v,w,u,t,qx,qy,ru,rt,hu=>by
  obtain ⟨a,vs,rfl,q,zs⟩:=qx
  cases ru
  obtain ⟨its,ri,p⟩:=S.lst a vs q
  have hu0:A.units<cLine:=by omega
  cases y with
  | non=>simp only [RdD,RepD] at qy;subst qy;cases rt;exact SeqAt.EqAt.list_none p hu0
  | bl b=>simp only [RdD,RepD] at qy;subst qy;cases rt;exact SeqAt.EqAt.list_bool b p hu0
  | int b=>simp only [RdD,RepD] at qy;subst qy;obtain ⟨t',rfl⟩:=rt;exact SeqAt.EqAt.list_int b t' p hu0
  | str b=>simp only [RdD,RepD] at qy;subst qy;obtain ⟨t',rfl⟩:=rt;exact SeqAt.EqAt.list_str _ t' p hu0
  | tup b=>
   simp only [RdD,RepD] at qy
   obtain ⟨a',vs',rfl,q',_⟩:=qy
   cases rt
   obtain ⟨its',_,p'⟩:=S.tup a' vs' q'
   exact SeqAt.EqAt.list_tuple p p' hu0
  | lst b=>
   obtain ⟨a',vs',rfl,q',zs'⟩:=qy
   cases rt
   obtain ⟨its',ri',p'⟩:=S.lst a' vs' q'
   have key:=pairs_D S c b A.in1 vs vs' its its' zs zs' ri ri' (by
    show A.units+1+_<cLine
    simp only [D.dep] at hu
    omega)
   by_cases hab:a=a'
   ·subst hab
    have e2:=zjR S q q'
    subst e2
    have e1:=RepDs.inj S c b vs zs zs'
    subst e1
    refine (show D.eqb (.lst c) (.lst c)=true from D.eqb_refl _)▸SeqAt.EqAt.same _
   ·refine SeqAt.EqAt.of_refs hab ?_
    show SeqAt.RcAt A s _ _ (D.eqbs c b)
    have l1:=zs.length
    have l2:=zs'.length
    have l3:=ri.length
    have l4:=ri'.length
    by_cases hl:c.length=b.length
    ·have:=SeqAt.RcAt.lists (e:=zax c b) p p' (by simp;omega) hu0 (λj h1 h2=>by
      have:=key j (by simpa using h1) (by simpa using h2)
      simpa using this)
     have hm:its.toArray.size=c.length:=by simp;omega
     rw [hm,zbk c b (λx y=>x.eqb y) hl (zax c b) (λj x y h1 h2=>by simp [zax,h1,h2]),<-zbz c b hl] at this
     exact this
    ·rw [zbw c b hl]
     exact SeqAt.RcAt.lists_lengths p p' (by simp;omega) hu0
theorem pairs_D (S:zbm X s H):∀ (xs ys:List D) (A:Around) (vs ws:List V) (us ts:List Value),RepDs X.K A0 H xs vs->RepDs X.K A0 H ys ws->Vals vs us->Vals ws ts->A.units+min (D.deps xs) (D.deps ys)<cLine →
  ∀ (j:Nat) (h1:j<us.length) (h2:j<ts.length),SeqAt.EqAt A s us[j] ts[j] (zax xs ys j)
 | [],ys,A,vs,ws,us,ts,qx,qy,ru,rt,hu,j,h1,h2=>by
  have l1:=qx.length
  have l2:=ru.length
  rw [List.length_nil] at l1
  omega
 | x :: xs,ys,A,vs,ws,us,ts,qx,qy,ru,rt,hu,j,h1,h2=>by
  rw [RepDs] at qx
  obtain ⟨v,vs,rfl,qx1,qx2⟩:=qx
  cases ru with
  | cons ru1 ru2=>
   cases ys with
   | nil=>
    have l1:=qy.length
    have l2:=rt.length
    rw [List.length_nil] at l1
    omega
   | cons y ys=>
    rw [RepDs] at qy
    obtain ⟨w,ws,rfl,qy1,qy2⟩:=qy
    cases rt with
    | cons rt1 rt2=>
     simp only [D.deps] at hu
     cases j with
     | zero=>
      simp only [List.getElem_cons_zero,zax,List.getElem?_cons_zero]
      exact zjn S x y A v w _ _ (RdD.of qx1) (RdD.of qy1) ru1 rt1 (by omega)
     | succ j=>
      simp only [List.getElem_cons_succ]
      have:=pairs_D S xs ys A vs ws _ _ qx2 qy2 ru2 rt2 (by omega) j (by simpa using h1) (by simpa using h2)
      simpa only [zax,List.getElem?_cons_succ] using this
end
end
end
end IT
set_option linter.all false
set_option maxHeartbeats 4000000
set_option maxRecDepth 100000
namespace IT
open PySem PySem.Spec L2
open PySem.StrLaws Builtin.Str
theorem pick_run (x:List Nat) (i:Nat):∀ k,i+k<=x.length->(((List.range k).map λm=>i+m).filterMap λj=>x[j]?)=(x.drop i).take k
 | 0,_=>by simp
 | k+1,h=>by
  rw [List.range_succ,List.map_append,List.filterMap_append,pick_run x i k (by omega),List.take_succ]
  congr 1
  have hx:i+k<x.length:=by omega
  simp [List.getElem?_eq_getElem hx]
end IT
set_option linter.all false
set_option maxHeartbeats 4000000
set_option maxRecDepth 100000
namespace PySem
open Sem (wp)
open Builtin AutoSeq1
theorem zgs (l:Addr) (items:Array Value) (n:Nat) (dd:Option Addr) (sl:Array (Option Value)) (b:Addr) (items2:Array Value) (n2:Nat) (dd2:Option Addr) (sl2:Array (Option Value)) (hc0:items.size+items2.size<=sizeLine) :
  Meets (Builtin.«list.__add__» ⟨[.ref l,.ref b],[]⟩) (λ_ R s=>s.heap.get? l=some { cls:=.type "list",dict:=dd,data:=.seq items n,slots:=sl }/\s.heap.get? b=some { cls:=.type "list",dict:=dd2,data:=.seq items2 n2,slots:=sl2 }/\R (.ok (.ret (Value.ref s.heap.objs.size))) { s with heap:=s.heap.push { cls:=Value.type "list",data:=Data.seq (items++items2) } }):=
 .of_wp λprog w A R s h=>by obtain ⟨hp,g,d,tk,os⟩:=s;obtain ⟨hl,hb,h⟩:=h;have f1:=idx_int;have f2:=sub_tuple_tuple;have f3:=sub_list_list;have f4:=sub_tuple_list;have f5:=sub_list_tuple;wp_walk using wpAny_loadPart' hl,wpAny_loadPart' hb;exact ⟨_,rfl,h⟩
end PySem
namespace IT
open PySem PySem.Spec L2
section
variable {X:Cx}
theorem zmj:OpR X (binaryOp .Add) (λx y H Q=>∃ l b xs zs,x=.ref l/\y=.ref b/\SqL X.K H l xs/\SqL X.K H b zs/\xs.length+zs.length<=sizeLine/\∀ p,H p=none->Q (.ref p) (upd H p (.lst (xs++zs)))):=by
 intro pins s σ H x y v u Q I rx ry h
 obtain ⟨l,b,xs,zs,rfl,rfl,hH,hB,hz,q⟩:=h
 cases rx
 cases ry
 obtain ⟨its,r,⟨o,n,e,hc,hd,hs⟩,_⟩:=I.list hH
 obtain ⟨its2,r2,⟨o2,n2,e2,hc2,hd2,hs2⟩,_⟩:=I.list hB
 have hl:=r.length
 have hl2:=r2.length
 obtain ⟨cls,dd,data,sl⟩:=o
 obtain ⟨cls2,dd2,data2,sl2⟩:=o2
 simp only at hc hd hs hc2 hd2 hs2
 subst hc hd hs hc2 hd2 hs2
 refine concat_meets ⟨_,e,rfl⟩ ⟨_,e2,rfl⟩ noFill_list_add seq_list_add F.slot_list_add F.entry_list_add (F.args_list_add_2 _ _) (zgs l its.toArray n none sl b its2.toArray n2 none sl2 (by rw [List.size_toArray,List.size_toArray];omega)) ⟨e,e2,?_⟩
 have ea:its.toArray++its2.toArray=(its++its2).toArray:=by simp
 rw [ea]
 exact ⟨.ref _,_,I.lnew (t':=s.toks) (r.append r2) (by rw [List.length_append];omega),rfl,q _ I.fresh⟩
end
end IT
set_option linter.all false
set_option maxHeartbeats 4000000
namespace IT
open PySem PySem.Spec L2
section
variable {A0:Addr->Prop} {H:Hp} {X:Cx} {s:Shared}
theorem zoD (S:zbm X s H) (x y:D) (A:Around) (v w:V) (u t:Value) (qx:RdD X.K A0 H x v) (qy:RdD X.K A0 H y w) (ru:RelV v u) (rt:RelV w t) (hu:A.units+min x.dep y.dep<cLine):SeqAt.RcAt A s u t (x.eqb y):=by
 cases x with
 | non=>
  simp only [RdD,RepD] at qx;subst qx
  cases ru
  cases y with
  | non=>simp only [RdD,RepD] at qy;subst qy;cases rt;exact SeqAt.RcAt.none_none  
  | bl b=>simp only [RdD,RepD] at qy;subst qy;cases rt;exact SeqAt.RcAt.none_bool  b
  | int b=>simp only [RdD,RepD] at qy;subst qy;obtain ⟨t',rfl⟩:=rt;exact SeqAt.RcAt.none_int  b t'
  | str b=>simp only [RdD,RepD] at qy;subst qy;obtain ⟨t',rfl⟩:=rt;exact SeqAt.RcAt.none_str  _ t'
  | tup b=>(simp only [RdD,RepD] at qy;obtain ⟨a,vs,rfl,q,_⟩:=qy;cases rt;obtain ⟨its,_,p⟩:=S.tup a vs q;exact SeqAt.RcAt.none_tuple  p (by omega))
  | lst b=>(obtain ⟨a,vs,rfl,q,_⟩:=qy;cases rt;obtain ⟨its,_,p⟩:=S.lst a vs q;exact SeqAt.RcAt.none_list  p (by omega))
 | bl c=>
  simp only [RdD,RepD] at qx;subst qx
  cases ru
  cases y with
  | non=>simp only [RdD,RepD] at qy;subst qy;cases rt;exact SeqAt.RcAt.bool_none c 
  | bl b=>simp only [RdD,RepD] at qy;subst qy;cases rt;exact SeqAt.RcAt.bool_bool c b
  | int b=>simp only [RdD,RepD] at qy;subst qy;obtain ⟨t',rfl⟩:=rt;exact SeqAt.RcAt.bool_int c b t'
  | str b=>simp only [RdD,RepD] at qy;subst qy;obtain ⟨t',rfl⟩:=rt;exact SeqAt.RcAt.bool_str c _ t'
  | tup b=>(simp only [RdD,RepD] at qy;obtain ⟨a,vs,rfl,q,_⟩:=qy;cases rt;obtain ⟨its,_,p⟩:=S.tup a vs q;exact SeqAt.RcAt.bool_tuple c p (by omega))
  | lst b=>(obtain ⟨a,vs,rfl,q,_⟩:=qy;cases rt;obtain ⟨its,_,p⟩:=S.lst a vs q;exact SeqAt.RcAt.bool_list c p (by omega))
 | int c=>
  simp only [RdD,RepD] at qx;subst qx
  obtain ⟨u',rfl⟩:=ru
  cases y with
  | non=>simp only [RdD,RepD] at qy;subst qy;cases rt;exact SeqAt.RcAt.int_none c u' 
  | bl b=>simp only [RdD,RepD] at qy;subst qy;cases rt;exact SeqAt.RcAt.int_bool c u' b
  | int b=>simp only [RdD,RepD] at qy;subst qy;obtain ⟨t',rfl⟩:=rt;exact SeqAt.RcAt.int_int c u' b t'
  | str b=>simp only [RdD,RepD] at qy;subst qy;obtain ⟨t',rfl⟩:=rt;exact SeqAt.RcAt.int_str c u' _ t'
  | tup b=>(simp only [RdD,RepD] at qy;obtain ⟨a,vs,rfl,q,_⟩:=qy;cases rt;obtain ⟨its,_,p⟩:=S.tup a vs q;exact SeqAt.RcAt.int_tuple c u' p (by omega))
  | lst b=>(obtain ⟨a,vs,rfl,q,_⟩:=qy;cases rt;obtain ⟨its,_,p⟩:=S.lst a vs q;exact SeqAt.RcAt.int_list c u' p (by omega))
 | str c=>
  simp only [RdD,RepD] at qx;subst qx
  obtain ⟨u',rfl⟩:=ru
  cases y with
  | non=>simp only [RdD,RepD] at qy;subst qy;cases rt;exact SeqAt.RcAt.str_none _ u' 
  | bl b=>simp only [RdD,RepD] at qy;subst qy;cases rt;exact SeqAt.RcAt.str_bool _ u' b
  | int b=>simp only [RdD,RepD] at qy;subst qy;obtain ⟨t',rfl⟩:=rt;exact SeqAt.RcAt.str_int _ u' b t'
  | str b=>simp only [RdD,RepD] at qy;subst qy;obtain ⟨t',rfl⟩:=rt;(have z:=SeqAt.RcAt.str_str (A:=A) (s:=s) (zaB c) u' (zaB b) t';rw [zeX] at z;exact z)
  | tup b=>(simp only [RdD,RepD] at qy;obtain ⟨a,vs,rfl,q,_⟩:=qy;cases rt;obtain ⟨its,_,p⟩:=S.tup a vs q;exact SeqAt.RcAt.str_tuple _ u' p (by omega))
  | lst b=>(obtain ⟨a,vs,rfl,q,_⟩:=qy;cases rt;obtain ⟨its,_,p⟩:=S.lst a vs q;exact SeqAt.RcAt.str_list _ u' p (by omega))
 | tup c=>
  simp only [RdD,RepD] at qx;obtain ⟨a,vs,rfl,q,zs⟩:=qx
  cases ru;have hu0:A.units<cLine:=by omega
  obtain ⟨its,ri,p⟩:=S.tup a vs q
  cases y with
  | non=>simp only [RdD,RepD] at qy;subst qy;cases rt;exact SeqAt.RcAt.tuple_none  p hu0
  | bl b=>simp only [RdD,RepD] at qy;subst qy;cases rt;exact SeqAt.RcAt.tuple_bool b p hu0
  | int b=>simp only [RdD,RepD] at qy;subst qy;obtain ⟨t',rfl⟩:=rt;exact SeqAt.RcAt.tuple_int b t' p hu0
  | str b=>simp only [RdD,RepD] at qy;subst qy;obtain ⟨t',rfl⟩:=rt;exact SeqAt.RcAt.tuple_str _ t' p hu0
  | lst b=>(obtain ⟨a',vs',rfl,q',_⟩:=qy;cases rt;obtain ⟨its',_,p'⟩:=S.lst a' vs' q';exact SeqAt.RcAt.tuple_list p p' hu0)
  | tup b=>
   simp only [RdD,RepD] at qy;obtain ⟨a',vs',rfl,q',zs'⟩:=qy
   cases rt;obtain ⟨its',ri',p'⟩:=S.tup a' vs' q'
   have key:=pairs_D S c b A.in1 vs vs' its its' zs zs' ri ri' (by show A.units+1+_<cLine;simp only [D.dep] at hu;omega)
   have l1:=zs.length;have l2:=zs'.length;have l3:=ri.length;have l4:=ri'.length
   show SeqAt.RcAt A s _ _ (D.eqbs c b)
   have:=SeqAt.RcAt.tuples (e:=zax c b) p p' hu0 (λj h1 h2=>by have:=key j (by simpa using h1) (by simpa using h2);simpa using this)
   have e3:((List.range (min its.toArray.size its'.toArray.size)).all (zax c b)&&its.toArray.size==its'.toArray.size)=D.eqbs c b:=by
    by_cases hl:c.length=b.length
    ·have hm:min its.toArray.size its'.toArray.size=c.length:=by simp;omega
     rw [hm,zbz c b hl,zbk c b (λx y=>x.eqb y) hl (zax c b) (λj x y h1 h2=>by simp [zax,h1,h2])]
     have:(its.toArray.size==its'.toArray.size)=true:=by simp;omega
     rw [this,Bool.and_true]
    ·rw [zbw c b hl]
     have:(its.toArray.size==its'.toArray.size)=false:=by simp;omega
     rw [this,Bool.and_false]
   rw [e3] at this
   exact this
 | lst c=>
  obtain ⟨a,vs,rfl,q,zs⟩:=qx
  cases ru;have hu0:A.units<cLine:=by omega
  obtain ⟨its,ri,p⟩:=S.lst a vs q
  cases y with
  | non=>simp only [RdD,RepD] at qy;subst qy;cases rt;exact SeqAt.RcAt.list_none  p hu0
  | bl b=>simp only [RdD,RepD] at qy;subst qy;cases rt;exact SeqAt.RcAt.list_bool b p hu0
  | int b=>simp only [RdD,RepD] at qy;subst qy;obtain ⟨t',rfl⟩:=rt;exact SeqAt.RcAt.list_int b t' p hu0
  | str b=>simp only [RdD,RepD] at qy;subst qy;obtain ⟨t',rfl⟩:=rt;exact SeqAt.RcAt.list_str _ t' p hu0
  | tup b=>(simp only [RdD,RepD] at qy;obtain ⟨a',vs',rfl,q',_⟩:=qy;cases rt;obtain ⟨its',_,p'⟩:=S.tup a' vs' q';exact SeqAt.RcAt.list_tuple p p' hu0)
  | lst b=>
   obtain ⟨a',vs',rfl,q',zs'⟩:=qy
   cases rt;obtain ⟨its',ri',p'⟩:=S.lst a' vs' q'
   have key:=pairs_D S c b A.in1 vs vs' its its' zs zs' ri ri' (by show A.units+1+_<cLine;simp only [D.dep] at hu;omega)
   have l1:=zs.length;have l2:=zs'.length;have l3:=ri.length;have l4:=ri'.length
   show SeqAt.RcAt A s _ _ (D.eqbs c b)
   by_cases hl:c.length=b.length
   ·have:=SeqAt.RcAt.lists (e:=zax c b) p p' (by simp;omega) hu0 (λj h1 h2=>by have:=key j (by simpa using h1) (by simpa using h2);simpa using this)
    have hm:its.toArray.size=c.length:=by simp;omega
    rw [hm,zbk c b (λx y=>x.eqb y) hl (zax c b) (λj x y h1 h2=>by simp [zax,h1,h2]),<-zbz c b hl] at this
    exact this
   ·rw [zbw c b hl]
    exact SeqAt.RcAt.lists_lengths p p' (by simp;omega) hu0
theorem zk5 (S:zbm X s H) (x y:D) (A:Around) (v w:V) (u t:Value) (qx:RdD X.K A0 H x v) (qy:RdD X.K A0 H y w) (ru:RelV v u) (rt:RelV w t) (hu:A.units+min x.dep y.dep<cLine):SeqAt.RcNeAt A s u t (!x.eqb y):=by
 cases x with
 | non=>
  simp only [RdD,RepD] at qx;subst qx
  cases ru
  cases y with
  | non=>simp only [RdD,RepD] at qy;subst qy;cases rt;exact SeqAt.RcNeAt.none_none  
  | bl b=>simp only [RdD,RepD] at qy;subst qy;cases rt;exact SeqAt.RcNeAt.none_bool  b
  | int b=>simp only [RdD,RepD] at qy;subst qy;obtain ⟨t',rfl⟩:=rt;exact SeqAt.RcNeAt.none_int  b t'
  | str b=>simp only [RdD,RepD] at qy;subst qy;obtain ⟨t',rfl⟩:=rt;exact SeqAt.RcNeAt.none_str  _ t'
  | tup b=>(simp only [RdD,RepD] at qy;obtain ⟨a,vs,rfl,q,_⟩:=qy;cases rt;obtain ⟨its,_,p⟩:=S.tup a vs q;exact SeqAt.RcNeAt.none_tuple  p (by omega))
  | lst b=>(obtain ⟨a,vs,rfl,q,_⟩:=qy;cases rt;obtain ⟨its,_,p⟩:=S.lst a vs q;exact SeqAt.RcNeAt.none_list  p (by omega))
 | bl c=>
  simp only [RdD,RepD] at qx;subst qx
  cases ru
  cases y with
  | non=>simp only [RdD,RepD] at qy;subst qy;cases rt;exact SeqAt.RcNeAt.bool_none c 
  | bl b=>simp only [RdD,RepD] at qy;subst qy;cases rt;exact SeqAt.RcNeAt.bool_bool c b
  | int b=>simp only [RdD,RepD] at qy;subst qy;obtain ⟨t',rfl⟩:=rt;exact SeqAt.RcNeAt.bool_int c b t'
  | str b=>simp only [RdD,RepD] at qy;subst qy;obtain ⟨t',rfl⟩:=rt;exact SeqAt.RcNeAt.bool_str c _ t'
  | tup b=>(simp only [RdD,RepD] at qy;obtain ⟨a,vs,rfl,q,_⟩:=qy;cases rt;obtain ⟨its,_,p⟩:=S.tup a vs q;exact SeqAt.RcNeAt.bool_tuple c p (by omega))
  | lst b=>(obtain ⟨a,vs,rfl,q,_⟩:=qy;cases rt;obtain ⟨its,_,p⟩:=S.lst a vs q;exact SeqAt.RcNeAt.bool_list c p (by omega))
 | int c=>
  simp only [RdD,RepD] at qx;subst qx
  obtain ⟨u',rfl⟩:=ru
  cases y with
  | non=>simp only [RdD,RepD] at qy;subst qy;cases rt;exact SeqAt.RcNeAt.int_none c u' 
  | bl b=>simp only [RdD,RepD] at qy;subst qy;cases rt;exact SeqAt.RcNeAt.int_bool c u' b
  | int b=>simp only [RdD,RepD] at qy;subst qy;obtain ⟨t',rfl⟩:=rt;exact SeqAt.RcNeAt.int_int c u' b t'
  | str b=>simp only [RdD,RepD] at qy;subst qy;obtain ⟨t',rfl⟩:=rt;exact SeqAt.RcNeAt.int_str c u' _ t'
  | tup b=>(simp only [RdD,RepD] at qy;obtain ⟨a,vs,rfl,q,_⟩:=qy;cases rt;obtain ⟨its,_,p⟩:=S.tup a vs q;exact SeqAt.RcNeAt.int_tuple c u' p (by omega))
  | lst b=>(obtain ⟨a,vs,rfl,q,_⟩:=qy;cases rt;obtain ⟨its,_,p⟩:=S.lst a vs q;exact SeqAt.RcNeAt.int_list c u' p (by omega))
 | str c=>
  simp only [RdD,RepD] at qx;subst qx
  obtain ⟨u',rfl⟩:=ru
  cases y with
  | non=>simp only [RdD,RepD] at qy;subst qy;cases rt;exact SeqAt.RcNeAt.str_none _ u' 
  | bl b=>simp only [RdD,RepD] at qy;subst qy;cases rt;exact SeqAt.RcNeAt.str_bool _ u' b
  | int b=>simp only [RdD,RepD] at qy;subst qy;obtain ⟨t',rfl⟩:=rt;exact SeqAt.RcNeAt.str_int _ u' b t'
  | str b=>simp only [RdD,RepD] at qy;subst qy;obtain ⟨t',rfl⟩:=rt;(have z:=SeqAt.RcNeAt.str_str (A:=A) (s:=s) (zaB c) u' (zaB b) t';rw [zeX] at z;exact z)
  | tup b=>(simp only [RdD,RepD] at qy;obtain ⟨a,vs,rfl,q,_⟩:=qy;cases rt;obtain ⟨its,_,p⟩:=S.tup a vs q;exact SeqAt.RcNeAt.str_tuple _ u' p (by omega))
  | lst b=>(obtain ⟨a,vs,rfl,q,_⟩:=qy;cases rt;obtain ⟨its,_,p⟩:=S.lst a vs q;exact SeqAt.RcNeAt.str_list _ u' p (by omega))
 | tup c=>
  simp only [RdD,RepD] at qx;obtain ⟨a,vs,rfl,q,zs⟩:=qx
  cases ru;have hu0:A.units<cLine:=by omega
  obtain ⟨its,ri,p⟩:=S.tup a vs q
  cases y with
  | non=>simp only [RdD,RepD] at qy;subst qy;cases rt;exact SeqAt.RcNeAt.tuple_none  p hu0
  | bl b=>simp only [RdD,RepD] at qy;subst qy;cases rt;exact SeqAt.RcNeAt.tuple_bool b p hu0
  | int b=>simp only [RdD,RepD] at qy;subst qy;obtain ⟨t',rfl⟩:=rt;exact SeqAt.RcNeAt.tuple_int b t' p hu0
  | str b=>simp only [RdD,RepD] at qy;subst qy;obtain ⟨t',rfl⟩:=rt;exact SeqAt.RcNeAt.tuple_str _ t' p hu0
  | lst b=>(obtain ⟨a',vs',rfl,q',_⟩:=qy;cases rt;obtain ⟨its',_,p'⟩:=S.lst a' vs' q';exact SeqAt.RcNeAt.tuple_list p p' hu0)
  | tup b=>
   simp only [RdD,RepD] at qy;obtain ⟨a',vs',rfl,q',zs'⟩:=qy
   cases rt;obtain ⟨its',ri',p'⟩:=S.tup a' vs' q'
   have key:=pairs_D S c b A.in1 vs vs' its its' zs zs' ri ri' (by show A.units+1+_<cLine;simp only [D.dep] at hu;omega)
   have l1:=zs.length;have l2:=zs'.length;have l3:=ri.length;have l4:=ri'.length
   show SeqAt.RcNeAt A s _ _ (!D.eqbs c b)
   have:=SeqAt.RcNeAt.tuples (e:=zax c b) p p' hu0 (λj h1 h2=>by have:=key j (by simpa using h1) (by simpa using h2);simpa using this)
   have e3:((List.range (min its.toArray.size its'.toArray.size)).all (zax c b)&&its.toArray.size==its'.toArray.size)=D.eqbs c b:=by
    by_cases hl:c.length=b.length
    ·have hm:min its.toArray.size its'.toArray.size=c.length:=by simp;omega
     rw [hm,zbz c b hl,zbk c b (λx y=>x.eqb y) hl (zax c b) (λj x y h1 h2=>by simp [zax,h1,h2])]
     have:(its.toArray.size==its'.toArray.size)=true:=by simp;omega
     rw [this,Bool.and_true]
    ·rw [zbw c b hl]
     have:(its.toArray.size==its'.toArray.size)=false:=by simp;omega
     rw [this,Bool.and_false]
   rw [e3] at this
   exact this
 | lst c=>
  obtain ⟨a,vs,rfl,q,zs⟩:=qx
  cases ru;have hu0:A.units<cLine:=by omega
  obtain ⟨its,ri,p⟩:=S.lst a vs q
  cases y with
  | non=>simp only [RdD,RepD] at qy;subst qy;cases rt;exact SeqAt.RcNeAt.list_none  p hu0
  | bl b=>simp only [RdD,RepD] at qy;subst qy;cases rt;exact SeqAt.RcNeAt.list_bool b p hu0
  | int b=>simp only [RdD,RepD] at qy;subst qy;obtain ⟨t',rfl⟩:=rt;exact SeqAt.RcNeAt.list_int b t' p hu0
  | str b=>simp only [RdD,RepD] at qy;subst qy;obtain ⟨t',rfl⟩:=rt;exact SeqAt.RcNeAt.list_str _ t' p hu0
  | tup b=>(simp only [RdD,RepD] at qy;obtain ⟨a',vs',rfl,q',_⟩:=qy;cases rt;obtain ⟨its',_,p'⟩:=S.tup a' vs' q';exact SeqAt.RcNeAt.list_tuple p p' hu0)
  | lst b=>
   obtain ⟨a',vs',rfl,q',zs'⟩:=qy
   cases rt;obtain ⟨its',ri',p'⟩:=S.lst a' vs' q'
   have key:=pairs_D S c b A.in1 vs vs' its its' zs zs' ri ri' (by show A.units+1+_<cLine;simp only [D.dep] at hu;omega)
   have l1:=zs.length;have l2:=zs'.length;have l3:=ri.length;have l4:=ri'.length
   show SeqAt.RcNeAt A s _ _ (!D.eqbs c b)
   by_cases hl:c.length=b.length
   ·have:=SeqAt.RcNeAt.lists (e:=zax c b) p p' (by simp;omega) hu0 (λj h1 h2=>by have:=key j (by simpa using h1) (by simpa using h2);simpa using this)
    have hm:its.toArray.size=c.length:=by simp;omega
    rw [hm,zbk c b (λx y=>x.eqb y) hl (zax c b) (λj x y h1 h2=>by simp [zax,h1,h2]),<-zbz c b hl] at this
    exact this
   ·rw [zbw c b hl]
    exact SeqAt.RcNeAt.lists_lengths p p' (by simp;omega) hu0
end
section
variable {X:Cx}
theorem zmf:OpD X (binaryOp .Add) (bop .add):=by
 intro pins s σ H v u v' u' Q I rv ru q
 obtain ⟨μ,h,a,b,z,R0,qa,qb,e,k⟩:=q
 cases a with
 | int i=>
  cases b with
  | int j=>
   simp only [RdD,RepD] at qa qb
   replace e:=Option.some.inj e
   subst e
   exact znB pins s σ H v u v' u' Q I rv ru ⟨i,j,qa,qb,k μ H _ Stp.refl R0 (by simp only [RepD])⟩
  | _=>exact zad e
 | lst xs=>
  cases b with
  | lst ys=>
   obtain ⟨p,vs,rfl,q1,z1⟩:=qa
   obtain ⟨p',vs',rfl,q2,z2⟩:=qb
   change (if _=true then _ else _)=some _ at e
   split at e
   ·rename_i hf
    cases e
    have l1:=z1.length
    have l2:=z2.length
    have hlen:xs.length+ys.length<=sizeLine:=of_decide_eq_true hf
    refine zmj pins s σ H _ _ v' u' Q I rv ru ⟨p,p',vs,vs',rfl,rfl,q1,q2,by omega,λr hr=>?_⟩
    have s2:Stp μ h H μ h (upd H r (.lst (vs++vs'))):=Stp.fresh hr
    refine k μ _ (.ref r) s2 (R0.fresh hr) ?_
    simp only [RepD]
    refine ⟨r,vs++vs',rfl,.inl ⟨λl=>?_,.inl zaj⟩,RepDs.stp s2 R0 (z1.app z2)⟩
    obtain ⟨ws,w,_⟩:=R0.liveAt l
    rw [hr] at w;cases w
   ·cases e
  | _=>exact zad e
 | _=>cases b<;>exact zad e
theorem zk6:OpD X (binaryOp .FloorDiv) (bop .fdiv):=by
 intro pins s σ H v u v' u' Q I rv ru q
 obtain ⟨μ,h,a,b,z,R0,qa,qb,e,k⟩:=q
 cases a with
 | int i=>
  cases b with
  | int j=>
   simp only [RdD,RepD] at qa qb
   change (if _=true then _ else _)=some _ at e
   split at e
   ·rename_i hf
    rw [Bool.and_eq_true] at hf
    cases e
    have h0:(0:Int)<j:=of_decide_eq_true hf.1
    have h1:j<1000000000000000000000000000000000000000000000000000000000000:=of_decide_eq_true hf.2
    subst qa qb
    obtain ⟨t1,rfl⟩:=rv
    obtain ⟨t2,rfl⟩:=ru
    refine PyProof.Rows.floordiv_int (by omega) ?_ (.inl (PyProof.noPylong_of_log2 ?_))
    ·have ef:i.fdiv j=i / j:=Int.fdiv_eq_ediv_of_nonneg i (by omega)
     rw [ef]
     exact ⟨.int (i / j),H,I.tok _,⟨_,rfl⟩,k μ H _ Stp.refl R0 (by simp only [RepD])⟩
    ·have hj:j.natAbs<2 ^ 200:=by
      omega
     have hj0:j.natAbs≠0:=by omega
     have:=(Nat.log2_lt hj0).mpr hj
     omega
   ·cases e
  | _=>exact zad e
 | _=>cases b<;>exact zad e
theorem zlW:OpD X (binaryOp .Mod) (bop .mod):=by
 intro pins s σ H v u v' u' Q I rv ru q
 obtain ⟨μ,h,a,b,z,R0,qa,qb,e,k⟩:=q
 cases a with
 | int i=>
  cases b with
  | int j=>
   simp only [RdD,RepD] at qa qb
   change (if _=true then _ else _)=some _ at e
   split at e
   ·rename_i hf
    cases e
    exact zo7 pins s σ H v u v' u' Q I rv ru ⟨i,j,qa,qb,of_decide_eq_true hf,k μ H _ Stp.refl R0 (by simp only [RepD])⟩
   ·cases e
  | _=>exact zad e
 | _=>cases b<;>exact zad e
theorem znH (hu:X.A.units+64<cLine):OpD X (compareOp .Eq) (cop .eq):=by
 intro pins s σ H v u v' u' Q I rv ru q
 obtain ⟨μ,h,a,b,z,R0,qa,qb,e,k⟩:=q
 (delta cop at e;(try dsimp only at e))
 split at e
 ·rename_i hf
  cases e
  have hd:min a.dep b.dep<=60:=of_decide_eq_true hf
  exact zoD (zay I) a b X.A v u v' u' qa qb rv ru (by omega) X.prog X.w X.xe _ ⟨.bl _,H,I,rfl,k μ H _ Stp.refl R0 (by simp only [RepD])⟩
 ·cases e
theorem zo6 (hu:X.A.units+64<cLine):OpD X (compareOp .NotEq) (cop .ne):=by
 intro pins s σ H v u v' u' Q I rv ru q
 obtain ⟨μ,h,a,b,z,R0,qa,qb,e,k⟩:=q
 (delta cop at e;(try dsimp only at e))
 split at e
 ·rename_i hf
  cases e
  have hd:min a.dep b.dep<=60:=of_decide_eq_true hf
  exact zk5 (zay I) a b X.A v u v' u' qa qb rv ru (by omega) X.prog X.w X.xe _ ⟨.bl _,H,I,rfl,k μ H _ Stp.refl R0 (by simp only [RepD])⟩
 ·cases e
theorem znV:OpD X (compareOp .Lt) (cop .lt):=by
 intro pins s σ H v u v' u' Q I rv ru q
 obtain ⟨μ,h,a,b,z,R0,qa,qb,e,k⟩:=q
 cases a with
 | int i=>
  cases b with
  | int j=>
   simp only [RdD,RepD] at qa qb
   replace e:=Option.some.inj e
   subst e
   exact zpB pins s σ H v u v' u' Q I rv ru ⟨i,j,qa,qb,k μ H _ Stp.refl R0 (by simp only [RepD])⟩
  | _=>exact zad e
 | _=>cases b<;>exact zad e
theorem zoY:OpD X (compareOp .Gt) (cop .gt):=by
 intro pins s σ H v u v' u' Q I rv ru q
 obtain ⟨μ,h,a,b,z,R0,qa,qb,e,k⟩:=q
 cases a with
 | int i=>
  cases b with
  | int j=>
   simp only [RdD,RepD] at qa qb
   replace e:=Option.some.inj e
   subst e
   exact zpy pins s σ H v u v' u' Q I rv ru ⟨i,j,qa,qb,k μ H _ Stp.refl R0 (by simp only [RepD])⟩
  | _=>exact zad e
 | _=>cases b<;>exact zad e
theorem zkD (hu:X.A.units+64<cLine):OpD X (compareOp .In) (cop .isin):=by
 intro pins s σ H v u v' u' Q I rv ru q
 obtain ⟨μ,h,a,b,z,R0,qa,qb,e,k⟩:=q
 have S:=zay I
 (delta cop at e;(try dsimp only at e))
 have ans:∀ (xs:List D) (ws:List V) (its:List Value),RepDs X.K (Live μ h) H xs ws->Vals ws its->a.dep<=60 →
   ∃ f:Value->Bool,(∀ y,y∈its.toArray->SeqAt.EqAt X.A.in1 s y v' (f y))/\its.toArray.any f=xs.any λy=>y.eqb a:=by
  intro xs ws its q r hd
  classical
  refine ⟨λy=>decide (∃ (x:D) (w:V),RepD X.K (Live μ h) H x w/\RelV w y/\x.eqb a=true),λy hy=>?_,?_⟩
  ·obtain ⟨j,hj,e1⟩:=List.getElem_of_mem (show y∈its by simpa using hy)
   have hj2:j<ws.length:=by rw [r.length];exact hj
   obtain ⟨x,hx,qx⟩:=q.get' (List.getElem?_eq_getElem hj2)
   have rx:RelV ws[j] y:=by
    have:=zeu r (List.getElem?_eq_getElem hj2) hj
    rw [e1] at this
    exact this
   have base:∀ (x:D) (w:V),RepD X.K (Live μ h) H x w->RelV w y->SeqAt.EqAt X.A.in1 s y v' (x.eqb a):=λx w qx rx=>
    zjn S x a X.A.in1 w v y v' (RdD.of qx) qa rx rv (by show X.A.units+1+_<cLine;omega)
   dsimp only
   by_cases hx':∃ (x:D) (w:V),RepD X.K (Live μ h) H x w/\RelV w y/\x.eqb a=true
   ·rw [decide_eq_true hx']
    obtain ⟨x',w',q',r',e'⟩:=hx'
    rw [<-e']
    exact base x' w' q' r'
   ·rw [decide_eq_false hx']
    cases ex:x.eqb a with
    | true=>exact absurd ⟨x,_,qx,rx,ex⟩ hx'
    | false=>rw [<-ex];exact base x _ qx rx
  ·rw [Bool.eq_iff_iff,List.any_eq_true,Array.any_eq_true']
   constructor
   ·rintro ⟨y,hy,hf⟩
    obtain ⟨x',w',q',r',e'⟩:=of_decide_eq_true hf
    obtain ⟨j,hj,e1⟩:=List.getElem_of_mem (show y∈its by simpa using hy)
    have hj2:j<ws.length:=by rw [r.length];exact hj
    obtain ⟨x,hx,qx⟩:=q.get' (List.getElem?_eq_getElem hj2)
    have rx:RelV ws[j] y:=by
     have:=zeu r (List.getElem?_eq_getElem hj2) hj
     rw [e1] at this
     exact this
    have ew:=RelV.inj rx r'
    refine ⟨x,List.mem_of_getElem? hx,?_⟩
    rw [RepD.inj S x x' w' (ew▸qx) q']
    exact e'
   ·rintro ⟨x,hx,ex⟩
    obtain ⟨j,hj,e1⟩:=List.getElem_of_mem hx
    obtain ⟨w,hw,qx⟩:=q.get (List.getElem?_eq_getElem hj)
    rw [e1] at qx
    obtain ⟨y,hy,ry⟩:=r.get hw
    exact ⟨y,by simpa using List.mem_of_getElem? hy,decide_eq_true ⟨x,w,qx,ry,ex⟩⟩
 cases b with
 | tup ys=>
  simp only [items] at e
  split at e
  ·rename_i hf
   cases e
   simp only [RdD,RepD] at qb
   obtain ⟨p,vs,rfl,q1,z1⟩:=qb
   cases ru
   obtain ⟨its,r1,p1⟩:=S.tup p vs q1
   obtain ⟨f,hf1,hf2⟩:=ans ys vs its z1 r1 (of_decide_eq_true hf)
   exact SeqAt.in_tupleAt f p1 hf1 ⟨.bl _,H,I,rfl,by rw [hf2];exact k μ H _ Stp.refl R0 (by simp only [RepD])⟩
  ·cases e
 | lst ys=>
  simp only [items] at e
  split at e
  ·rename_i hf
   cases e
   obtain ⟨p,vs,rfl,q1,z1⟩:=qb
   cases ru
   obtain ⟨its,r1,p1⟩:=S.lst p vs q1
   obtain ⟨f,hf1,hf2⟩:=ans ys vs its z1 r1 (of_decide_eq_true hf)
   exact SeqAt.in_listAt f p1 hf1 ⟨.bl _,H,I,rfl,by rw [hf2];exact k μ H _ Stp.refl R0 (by simp only [RepD])⟩
  ·cases e
 | _=>exact zad e
end
end IT
set_option linter.all false
set_option maxHeartbeats 4000000
set_option maxRecDepth 100000
namespace PySem
open Sem (wp)
open Builtin
end PySem
namespace PySem
open Sem (wp)
open Builtin
end PySem
set_option linter.all false
set_option maxHeartbeats 4000000
set_option maxRecDepth 100000
namespace IT
open PySem PySem.Spec L2
section
variable {X:Cx}
theorem zl9:OpD X (binaryOp .Mult) (bop .mul):=by
 intro pins s σ H v u v' u' Q I rv ru q
 obtain ⟨μ,h,a,b,z,R0,qa,qb,e,k⟩:=q
 cases a with
 | int i=>
  cases b with
  | int j=>
   simp only [RdD,RepD] at qa qb
   change (if _=true then _ else _)=some _ at e
   split at e
   ·rename_i hf
    cases e
    refine znC pins s σ H v u v' u' Q I rv ru ⟨i,j,qa,qb,?_,k μ H _ Stp.refl R0 (by simp only [RepD])⟩
    rw [Bool.or_eq_true] at hf
    rcases hf with hf | hf
    ·simp only [zga,Bool.and_eq_true] at hf
     exact .inl ⟨of_decide_eq_true hf.1,of_decide_eq_true hf.2⟩
    ·simp only [zga,Bool.and_eq_true] at hf
     exact .inr ⟨of_decide_eq_true hf.1,of_decide_eq_true hf.2⟩
   ·cases e
  | _=>exact zad e
 | _=>cases b<;>exact zad e
theorem zkJ {A0:Addr->Prop} {H:Hp} {K:PySem.W.Frag} {a:D} {v:V} (q:RdD K A0 H a v):decide (v=.non)=zoh a:=by
 cases a with
 | non=>simp only [RdD,RepD] at q;subst q;rfl
 | bl b=>simp only [RdD,RepD] at q;subst q;rfl
 | int b=>simp only [RdD,RepD] at q;subst q;rfl
 | str b=>simp only [RdD,RepD] at q;subst q;rfl
 | tup b=>simp only [RdD,RepD] at q;obtain ⟨p,vs,rfl,_⟩:=q;rfl
 | lst b=>obtain ⟨p,vs,rfl,_⟩:=q;rfl
theorem zms:OpD X (compareOp .Is) (cop .isN):=by
 intro pins s σ H v u v' u' Q I rv ru q
 obtain ⟨μ,h,a,b,z,R0,qa,qb,e,k⟩:=q
 cases b with
 | non=>
  simp only [RdD,RepD] at qb
  replace e:=Option.some.inj e
  subst e
  exact znG pins s σ H v u v' u' Q I rv ru ⟨qb,by rw [zkJ qa];exact k μ H _ Stp.refl R0 (by simp only [RepD])⟩
 | _=>cases a<;>exact zad e
theorem zlu {α:Type} {xs:List α} {i:Int} {x:α} (e:at' xs i=some x):∃ j,ixN xs.length i=some j/\xs[j]?=some x:=by
 unfold at' at e
 cases q:ixn xs.length i with
 | none=>rw [q] at e;cases e
 | some j=>rw [q] at e;exact ⟨j,q,e⟩
theorem ix':IxR X (λv u H Q=>∃ μ h a b z,Rep X.K μ h H/\RdD X.K (Live μ h) H a v/\RdD X.K (Live μ h) H b u/\idxD a b=some z/\∀ μ' H' w,Stp μ h H μ' h H'->Rep X.K μ' h H'->RepD X.K (Live μ' h) H' z w->Q w H'):=by
 intro value slice pins s σ H v u v' u' Q I rv ru q hs
 obtain ⟨μ,h,a,b,z,R0,qa,qb,e,k⟩:=q
 cases a with
 | tup xs=>
  cases b with
  | int i=>
   simp only [RdD,RepD] at qa qb
   obtain ⟨p,vs,rfl,q1,z1⟩:=qa
   obtain ⟨j,e1,e2⟩:=zlu (show at' xs i=some z from e)
   obtain ⟨w,e3,qw⟩:=z1.get e2
   refine zpi value slice pins s σ H _ u v' u' Q I rv ru ⟨p,vs,i,w,rfl,qb,q1,?_,k μ H w Stp.refl R0 qw⟩ hs
   unfold atI
   rw [<-z1.length,e1]
   exact e3
  | _=>exact zad e
 | lst xs=>
  cases b with
  | int i=>
   simp only [RdD,RepD] at qb
   obtain ⟨p,vs,rfl,q1,z1⟩:=qa
   obtain ⟨j,e1,e2⟩:=zlu (show at' xs i=some z from e)
   obtain ⟨w,e3,qw⟩:=z1.get e2
   refine zmF value slice pins s σ H _ u v' u' Q I rv ru ⟨p,vs,i,w,rfl,qb,q1,?_,k μ H w Stp.refl R0 qw⟩ hs
   unfold atI
   rw [<-z1.length,e1]
   exact e3
  | _=>exact zad e
 | _=>exact zad e
theorem zpa {a b:Expr} {pos:Pos} {f g:IT.Env->M R} (ha:IE X a f) (hb:IE X b g) (hs:zds b):IE X (.Subscript a b pos) (λσ=>bnd (f σ) λx=>bnd (g σ) λy=>mD idxD x y):=by
 refine PE.imp (zmp ix' ha hb hs) λσ H Q q=>?_
 obtain ⟨μ,h,env,R0,re,r,h',e,k⟩:=q
 simp only [mD,zaa,zab,zaq] at e
 obtain ⟨x,h1,e1,y,h2,e2,dx,h3,e3,dy,h4,e4,z,h5,⟨e5,rfl⟩,rfl,rfl⟩:=e
 refine ⟨μ,h,env,R0,re,x,h1,e1,λμ1 H1 v s1 R1 q1=>⟨μ1,h1,env,R1,re.stp s1 R0,y,h2,e2,λμ2 H2 u s2 R2 q2=>?_⟩⟩
 obtain ⟨rfl,zx⟩:=zbg R2 (q1.stp s2 R1) e3
 obtain ⟨rfl,zy⟩:=zbg R2 q2 e4
 exact ⟨μ2,_,dx,dy,z,R2,zx,zy,e5,λμ3 H3 w s3 R3 q3=>k μ3 H3 w ((s1.trans s2).trans s3) R3 q3⟩
end
end IT
set_option linter.all false
set_option maxHeartbeats 4000000
set_option maxRecDepth 100000
namespace HT
open PySem PyProof.Rows
section
variable {prog:Program} {w:World} {A:Around} {E:Value->Shared->Prop} {s:Shared}
theorem getItem_tuple_whole {t sl:Addr} {items:Array Value} {vl vu:Value} {lo hi:Option Int} {Q:Value->Shared->Prop} (ht:IsTup s.heap t items) (hs:s.heap.IsSliceOf sl vl vu .none) (pl:IsPart vl lo) (pu:IsPart vu hi)
  (hw:sIx items.size 0 lo=0/\sIx items.size items.size hi=items.size) (h:Q (.ref t) s):wpAny (model prog w) A (getItem (.ref t) (.ref sl)) Q E s:=by
 obtain ⟨os,hos,hcs,hds⟩:=id hs
 have hTs:s.TypeIs (.ref sl) "slice":=⟨os,hos,hcs⟩
 unfold getItem
 try with_reducible refine wpAny_holding ?_
 first | refine wpAny_bind (wpAny_pure ?_) | skip
 refine wpAny_bind (wpAny_sequenceKey ht.typeIs (by decide) ?_)
 refine wpAny_bind (wpAny_callSpecial?_slot (name:=Str.ofString "__getitem__") ht.typeIs PyProof.Rows.slot_tuple_getitem
  (wpAny_call_entry PyProof.Rows.slot_tuple_getitem ht.typeIs entry_tuple_getitem ?_ (args_tuple_getitem _ _)))
 show wpAny _ _ (Builtin.Tuple.tupleItemsOf (.ref t) >>= _) _ _ s
 refine wpAny_bind (tupleItemsOf_ ht ?_)
 refine wpAny_bind (wpAny_typeOf hTs ?_)
 rw [if_pos (by decide)]
 refine wpAny_bind (zbD hs pl pu ?_)
 have hyes:(((sIx items.size 0 lo:Nat):Int)==0&&(1:Int)==1&&(sIx items.size items.size hi-sIx items.size 0 lo)==items.size)=true:=by
  rw [hw.1,hw.2]
  simp
 show wpAny _ _ (if (((sIx items.size 0 lo:Nat):Int)==0&&(1:Int)==1&&(sIx items.size items.size hi-sIx items.size 0 lo)==items.size)=true then _ else _) _ _ s
 rw [if_pos hyes]
 unfold Builtin.Tuple.tupleIsExact
 refine wpAny_bind (wpAny_bind (wpAny_typeOf ht.typeIs (wpAny_pure ?_)))
 rw [if_pos (by decide)]
 first
  | exact wpAny_bind (wpAny_rule (wpAny_pure ⟨_,rfl,wpAny_pure h⟩))
  | exact wpAny_bind (wpAny_rule (wpAny_bind (wpAny_pure (wpAny_pure ⟨_,rfl,wpAny_pure h⟩))))
  | exact wpAny_bind (wpAny_rule (wpAny_bind (wpAny_pure ⟨_,rfl,wpAny_pure h⟩)))
end
end HT
namespace IT
open PySem PySem.Spec L2
section
variable {X:Cx}
theorem znq:SlR X (λx lo hi H Q=>∃ a xs,x=.ref a/\SqT X.K H a xs/\(HT.sIx xs.length 0 lo=0/\HT.sIx xs.length xs.length hi=xs.length)/\Q (.ref a) H):=by
 intro pins s σ H x v vl vu lo hi sl Q I rx hs pl pu h
 obtain ⟨a,xs,rfl,hx,hw,q⟩:=h
 cases rx
 obtain ⟨its,r,ht,hz⟩:=I.tuple hx
 have hlen:its.toArray.size=xs.length:=by rw [List.size_toArray];exact r.length.symm
 refine ⟨"tuple",_,PyProof.Rows.slot_tuple_getitem.lookup,ht.typeIs,?_⟩
 exact HT.getItem_tuple_whole ht hs pl pu (by rw [hlen];exact hw) ⟨.ref a,H,I,rfl,q⟩
theorem zgZ (n d:Nat) (o:Option Int):sIx n d o=HT.sIx n d o:=by cases o<;>rfl
theorem RepDs.cut {K:PySem.W.Frag} {A:Addr->Prop} {H:Hp} {xs:List D} {vs:List V} (q:RepDs K A H xs vs) (lo hi:Option Int):RepDs K A H (IT.cut xs lo hi) (cutV vs lo hi):=by
 unfold IT.cut cutV
 rw [zgZ,zgZ,q.length]
 exact (q.drop _).take _
theorem sl':SlR X (λv lo hi H Q=>∃ μ h a z,Rep X.K μ h H/\RdD X.K (Live μ h) H a v/\cutD a lo hi=some z/\∀ μ' H' w,Stp μ h H μ' h H'->Rep X.K μ' h H'->RepD X.K (Live μ' h) H' z w->Q w H'):=by
 intro pins s σ H x v vl vu lo hi sl Q I rx hs pl pu q
 obtain ⟨μ,h,a,z,R0,qa,e,k⟩:=q
 cases a with
 | tup xs=>
  simp only [RdD,RepD] at qa
  obtain ⟨p,vs,rfl,q1,z1⟩:=qa
  cases e
  by_cases hw:HT.sIx vs.length 0 lo=0/\HT.sIx vs.length vs.length hi=vs.length
  ·refine znq pins s σ H _ v vl vu lo hi sl Q I rx hs pl pu ⟨p,vs,rfl,q1,hw,k μ H _ Stp.refl R0 ?_⟩
   simp only [RepD]
   refine ⟨p,vs,rfl,q1,?_⟩
   have e2:cut xs lo hi=xs:=by
    unfold cut
    rw [zgZ,zgZ,z1.length,hw.1,hw.2,List.drop_zero,Nat.sub_zero,<-z1.length,List.take_length]
   rw [e2]
   exact z1
  ·refine zn5 pins s σ H _ v vl vu lo hi sl Q I rx hs pl pu ⟨p,vs,rfl,q1,hw,λr hr=>?_⟩
   have s2:Stp μ h H μ h (upd H r (.tup (cutV vs lo hi))):=Stp.fresh hr
   refine k μ _ (.ref r) s2 (R0.fresh hr) ?_
   simp only [RepD]
   exact ⟨r,cutV vs lo hi,rfl,SqT.of zaj,RepDs.stp s2 R0 (z1.cut lo hi)⟩
 | _=>cases e
inductive tO (K:PySem.W.Frag) (f:IT.Env->M R) (σ:St) (H:Hp) (Q:Option Int->Hp->Prop):Prop where
 | mk (μ:List Addr) (h:Sto) (env:IT.Env) (R0:Rep K μ h H) (re:RepE K μ h H env σ) (d:D) (h':Sto) (o:Option Int) (e:f env h=some (.d d,h')) (ep:part d=some o) (k:∀ μ' H',Stp μ h H μ' h' H'->Rep K μ' h' H'->Q o H')
theorem PO.imp {oe:Option Expr} {t t':TO} (h:PO X oe t) (i:∀ σ H Q,t' σ H Q->t σ H Q):PO X oe t':=λpins s σ H Q I q=>h pins s σ H Q I (i σ H Q q)
theorem zni:PO X none (tO X.K λ_=>ok (.d .non)):=by
 refine PO.imp zmq λσ H Q q0=>?_
 obtain ⟨μ,h,env,R0,re,d,h',o,e,ep,k⟩:=q0
 simp only [zab,R.d.injEq] at e
 obtain ⟨rfl,rfl⟩:=e
 simp only [part,Option.some.injEq] at ep
 subst ep
 exact k μ H Stp.refl R0
theorem ziV {e:Expr} {f:IT.Env->M R} (h:IE X e f):PO X (some e) (tO X.K f):=by
 intro pins s σ H Q I ⟨μ,h0,env,R0,re,d,h',o,ef,ep,k⟩
 rw [evalPart_some]
 refine thn (h pins s σ H (λx H1=>(∃ i,x=.int i/\Q (some i) H1)\/(x=.non/\Q none H1)) I ⟨μ,h0,env,R0,re,.d d,h',ef,λμ1 H1 v s1 R1 q1=>?_⟩) λu s1 ⟨x,H1,I1,r1,q1⟩=>?_
 ·cases d with
  | int i=>
   simp only [RepR,RepD] at q1
   simp only [part,Option.some.injEq] at ep
   subst ep
   exact .inl ⟨i,q1,k μ1 H1 s1 R1⟩
  | non=>
   simp only [RepR,RepD] at q1
   simp only [part,Option.some.injEq] at ep
   subst ep
   exact .inr ⟨q1,k μ1 H1 s1 R1⟩
  | _=>simp [part] at ep
 ·rcases q1 with ⟨i,rfl,q⟩ | ⟨rfl,q⟩
  ·obtain ⟨t,rfl⟩:=r1
   exact ⟨some i,H1,I1,.int i t,q⟩
  ·cases r1
   exact ⟨none,H1,I1,.none,q⟩
theorem zo3 {a:Expr} {lo hi:Option Expr} {p2 pos:Pos} {f g k:IT.Env->M R} (ha:IE X a f) (hl:PO X lo (tO X.K g)) (hu:PO X hi (tO X.K k)):IE X (.Subscript a (.Slice lo hi none p2) pos)
  (λσ=>bnd (f σ) λx=>bnd (g σ) λl=>bnd (k σ) λu=>bnd (rd x) λx=>bnd (rd l) λl=>bnd (rd u) λu=>bnd (opt (sliD x l u)) λz=>ok (.d z)):=by
 refine PE.imp (zkj sl' ha hl hu) λσ H Q q0=>?_
 obtain ⟨μ,h,env,R0,re,r,h',e,kk⟩:=q0
 simp only [zaa,zab,zaq] at e
 obtain ⟨x,h1,e1,l,h2,e2,u,h3,e3,dx,h4,e4,dl,h5,e5,du,h6,e6,z,h7,⟨e7,rfl⟩,rfl,rfl⟩:=e
 (delta sliD at e7;(try dsimp only at e7))
 have isd:∀ (r:R) (d:D) (h h':Sto),rd r h=some (d,h')->∀ o,part d=some o->r=.d d/\h'=h:=by
  intro r d h h' e o ep
  cases r with
  | d x=>simp only [rd,zab] at e;exact ⟨by rw [e.1],e.2.symm⟩
  | loc l=>
   obtain ⟨o,_,_,rfl,_⟩:=zek e
   simp [part] at ep
 cases pl:part dl with
 | none=>rw [pl] at e7;cases e7
 | some lo'=>
  cases pu:part du with
  | none=>rw [pl,pu] at e7;cases e7
  | some hi'=>
   rw [pl,pu] at e7
   replace e7:cutD dx lo' hi'=some z:=e7
   obtain ⟨rfl,hh5⟩:=isd l dl h4 h5 e5 lo' pl
   subst hh5
   obtain ⟨rfl,hh6⟩:=isd u du _ h6 e6 hi' pu
   subst hh6
   refine ⟨μ,h,env,R0,re,x,h1,e1,λμ1 H1 v s1 R1 q1=>⟨μ1,h1,env,R1,re.stp s1 R0,dl,h2,lo',e2,pl,λμ2 H2 s2 R2=>⟨μ2,h2,env,R2,re.stp (s1.trans s2) R0,du,h3,hi',e3,pu,λμ3 H3 s3 R3=>?_⟩⟩⟩
   obtain ⟨rfl,zx⟩:=zbg R3 ((q1.stp s2 R1).stp s3 R2) e4
   exact ⟨μ3,_,dx,z,R3,zx,e7,λμ4 H4 w s4 R4 q4=>kk μ4 H4 w (((s1.trans s2).trans s3).trans s4) R4 q4⟩
inductive zlA (K:PySem.W.Frag) (g:List D->Option D) (vs:List V) (H:Hp) (Q:VK):Prop where
 | mk (μ:List Addr) (h:Sto) (ds:List D) (z:D) (R0:Rep K μ h H) (pr:Paired (RdD K (Live μ h) H) ds vs) (e:g ds=some z) (k:∀ μ' H' w,Stp μ h H μ' h H'->Rep K μ' h H'->RepD K (Live μ' h) H' z w->Q w H')
noncomputable def zkB (X:Cx) (f:Value) (g:List D->Option D):Prop:=zb7 X f λvs H Q=>zlA X.K g vs H Q
theorem ze8 {t:Bi} {fs:IT.Env->M (List R)} {σ:St} {H:Hp} {Q:VK}
  (q:tE X.K (λσ=>bnd (fs σ) λrs=>bnd (rds rs) λds=>bnd (opt (biD t ds)) λz=>ok (.d z)) σ H Q) :
  tAs X.K fs σ H λvs H1=>zlA X.K (biD t) vs H1 Q:=by
 obtain ⟨μ,h,env,R0,re,r,h',e,k⟩:=q
 simp only [zaa,zab,zaq] at e
 obtain ⟨rs,h1,e1,ds,h2,e2,z,h3,⟨e3,rfl⟩,rfl,rfl⟩:=e
 refine ⟨μ,h,env,R0,re,rs,h1,e1,λμ1 H1 vs s1 R1 q1=>?_⟩
 obtain ⟨rfl,zs⟩:=zlC R1 q1 e2
 exact ⟨μ1,_,ds,z,R1,zs,e3,λμ2 H2 w s2 R2 q2=>k μ2 H2 w (s1.trans s2) R2 q2⟩
theorem zjE:zkB X (.builtin "len") (biD .len):=by
 intro pins s σ H vs us Q I r q
 obtain ⟨μ,h,ds,z,R0,pr,e,k⟩:=q
 cases pr with
 | nil=>exact zad e
 | @cons d v ds vs qd pr=>
  cases pr with
  | cons _ _=>cases d<;>exact zad e
  | nil=>
   cases d with
   | tup xs=>
    simp only [RdD,RepD] at qd
    obtain ⟨p,ws,rfl,q1,z1⟩:=qd
    replace e:=Option.some.inj e
    subst e
    exact zhc pins s σ H _ us Q I r ⟨.ref p,ws.length,rfl,.inr ⟨ws,q1,rfl⟩,k μ H _ Stp.refl R0 (by simp only [RepD];rw [z1.length])⟩
   | lst xs=>
    obtain ⟨p,ws,rfl,q1,z1⟩:=qd
    replace e:=Option.some.inj e
    subst e
    exact zhc pins s σ H _ us Q I r ⟨.ref p,ws.length,rfl,.inl ⟨ws,q1,rfl⟩,k μ H _ Stp.refl R0 (by simp only [RepD];rw [z1.length])⟩
   | _=>exact zad e
theorem zgE:zkB X (.type "tuple") (biD .tuple):=by
 intro pins s σ H vs us Q I r q
 obtain ⟨μ,h,ds,z,R0,pr,e,k⟩:=q
 cases pr with
 | nil=>exact zad e
 | @cons d v ds vs qd pr=>
  cases pr with
  | cons _ _=>cases d<;>exact zad e
  | nil=>
   cases d with
   | lst xs=>
    obtain ⟨p,ws,rfl,q1,z1⟩:=qd
    replace e:=Option.some.inj e
    subst e
    refine zeR pins s σ H _ us Q I r ⟨p,ws,rfl,.inl ⟨q1,λl hl=>?_⟩⟩
    have s2:Stp μ h H μ h (upd H l (.tup ws)):=Stp.fresh hl
    refine k μ _ (.ref l) s2 (R0.fresh hl) ?_
    simp only [RepD]
    exact ⟨l,ws,rfl,SqT.of zaj,RepDs.stp s2 R0 z1⟩
   | _=>exact zad e
theorem zja:zkB X (.type "int") (biD .int):=by
 intro pins s σ H vs us Q I r q
 obtain ⟨μ,h,ds,z,R0,pr,e,k⟩:=q
 cases pr with
 | nil=>exact zad e
 | @cons d v ds vs qd pr=>
  cases pr with
  | cons _ _=>cases d<;>exact zad e
  | nil=>
   cases d with
   | bl b=>
    simp only [RdD,RepD] at qd
    subst qd
    replace e:=Option.some.inj e
    subst e
    exact zi2 pins s σ H _ us Q I r (.inr ⟨b,rfl,k μ H _ Stp.refl R0 (by simp only [RepD])⟩)
   | _=>exact zad e
end
end IT
set_option linter.all false
set_option maxHeartbeats 4000000
set_option maxRecDepth 100000
namespace IT
open PySem PySem.Spec L2
section
variable {X:Cx}
theorem Rep.placeL {K:PySem.W.Frag} {μ:List Addr} {h:Sto} {H:Hp} (R0:Rep K μ h H) {l:Nat} {a:Addr} {o:Ob} (e:μ[l]?=some a) (ho:h[l]?=some o) (il:o.isL=true):∃ vs,H a=some (.lst vs)/\RepDs K (Live μ h) H o.items vs:=
 (R0.obj l a o e ho).isL il
theorem Rep.placeO {K:PySem.W.Frag} {μ:List Addr} {h:Sto} {H:Hp} (R0:Rep K μ h H) {l:Nat} {a:Addr} (e:μ[l]?=some a):∃ o,h[l]?=some o:=by
 have hl:l<h.length:=by rw [<-R0.len];exact (List.getElem?_eq_some_iff.mp e).1
 exact ⟨h[l],List.getElem?_eq_getElem hl⟩
theorem zjQ {o e:Expr} {es:List Expr} {name:Str} {apos cpos:Pos} {f:IT.Env->M R} {fs:IT.Env->M (List R)} (ho:IE X o f) (ha:IA X (e::es) fs) (hname:name=("append":Str))
  (hbase:attributeBase o name X.env (eval o X.env)=eval o X.env)
  (hfew:((backTo cpos (starEach (e::es) X.env)).all (λx=>!x.1)&&(backToKw cpos (keywordEach [] X.env)).all (λx=>x.1.isSome)
   && decide ((e::es).length+([]:List Keyword).length+(if ([]:List Keyword).isEmpty then 0 else 1)<30))=true)
  (hline:(apos.endLine==cpos.line)=true) (hs:starEach (e::es) X.env=(false,eval e X.env)::starEach es X.env) (hplain:(backTo cpos (starEach es X.env)).any (·.1)=false) :
  IE X (.Call (.Attribute o name apos) (e::es) [] cpos) (λσ=>bnd (f σ) λx=>bnd (zd0 x) λ_=>bnd (fs σ) λrs=>meth .append x rs):=by
 subst hname
 refine PE.imp (zkf PySem.F.plainAttrs_list PySem.F.slot_list_append PySem.F.type_list_append zj3 ho ha hbase hfew hline hs hplain) λσ H Q q0=>?_
 obtain ⟨μ,h,env,R0,re,r,h',e,k⟩:=q0
 simp only [zaa] at e
 obtain ⟨x,h1,e1,_,h1',e0,rs,h2,e2,e3⟩:=e
 obtain ⟨l,o1,rfl,ho1,il1,rfl⟩:=zeq e0
 refine ⟨μ,h,env,R0,re,.loc l,_,e1,λμ1 H1 v s1 R1 q1=>?_⟩
 ·skip
  obtain ⟨a,ea,rfl⟩:=q1
  obtain ⟨vs1,hH1,z1⟩:=R1.placeL ea ho1 il1
  refine ⟨.inl ⟨rfl,vs1,.inl (.inl hH1)⟩,μ1,_,env,R1,re.stp s1 R0,rs,h2,e2,λμ2 H2 ws s2 R2 q2=>?_⟩
  cases q2 with
  | nil=>exact zad e3
  | @cons rr w rs' ws' qr q2=>
   cases q2 with
   | cons _ _=>exact zad e3
   | nil=>
    (delta meth at e3;(try dsimp only at e3);simp only [zaa] at e3)
    obtain ⟨d,h3,e4,e5⟩:=e3
    obtain ⟨s3,R3,zd⟩:=zk9 R2 qr e4
    have ea2:=s2.pre l a ea
    split at e5
    ·rename_i xs hx
     split at e5
     ·rename_i hlen
      simp only [Option.some.injEq,Prod.mk.injEq] at e5
      obtain ⟨rfl,rfl⟩:=e5
      obtain ⟨vs3,hH3,z3⟩:=R3.placeL ea2 hx rfl
      have hlen':vs3.length<sizeLine:=by
       have:=z3.length
       have h4:xs.length<big:=of_decide_eq_true hlen
       have h5:big=sizeLine:=rfl
       simp only [Ob.items] at this
       omega
      refine ⟨a,vs3,w,rfl,rfl,hH3,hlen',?_⟩
      obtain ⟨s4,R4⟩:=write R3 ea2 hx (z3.app (RepDs.one zd))
      exact k μ2 _ .non (((s1.trans s2).trans s3).trans s4) R4 (by simp only [RepR,RepD])
     ·cases e5
    ·cases e5
noncomputable def spF (K:PySem.W.Frag) (np:Nat) (m:List R->M R):Sp:=λvs H Q _=>vs.length=np/\∃ μ h rs,Rep K μ h H/\zbi K μ h H rs vs/\Post K μ h H (RepR K) (m rs h) Q
structure zo0 (X:Cx) (n:Nat) (x:Str) (np:Nat) (dfl:List D) (m:List R->M R):Prop where
 ex:∃ f fd ps dvs,FnOk X.prog X.w X.K X.mg X.base CX0 n f fd ps (spF X.K np m)/\X.mg x=some (.ref f)/\PySem.W.keepIn X.K (.ref f)=true/\(∀ A H,RepDs X.K A H dfl dvs)/\(∀ j,j<=dfl.length->∃ ds,zaL X.K fd ps ds/\Vals (dvs.drop j) ds)
 fill:∀ rs,m rs=m (zaV np dfl rs)
 len:∀ rs h p,m rs h=some p->(zaV np dfl rs).length=np
theorem zc1 {np:Nat} {dfl:List D} {rs:List R} (h:rs.length+dfl.length<np):zaV np dfl rs=rs:=by unfold zaV;rw [if_pos h]
theorem zcF {np:Nat} {dfl:List D} {rs:List R} (h:¬ rs.length+dfl.length<np):zaV np dfl rs=rs++(dfl.drop (rs.length+dfl.length-np)).map R.d:=by unfold zaV;rw [if_neg h]
theorem zbi.app {K:PySem.W.Frag} {μ:List Addr} {h:Sto} {H:Hp} {rs ss:List R} {vs ws:List V} (a:zbi K μ h H rs vs) (b:zbi K μ h H ss ws):zbi K μ h H (rs++ss) (vs++ws):=by
 induction a with
 | nil=>exact b
 | cons q _ ih=>exact .cons q ih
theorem RepDs.rs {K:PySem.W.Frag} {μ:List Addr} {h:Sto} {H:Hp}:∀ {ds:List D} {vs:List V},RepDs K (Live μ h) H ds vs->zbi K μ h H (ds.map R.d) vs
 | [],vs,q=>by simp only [RepDs] at q;subst q;exact .nil
 | x::xs,vs,q=>by
  simp only [RepDs] at q
  obtain ⟨v,r,rfl,h1,h2⟩:=q
  exact .cons h1 h2.rs
theorem zng {n np:Nat} {dfl:List D} {x:Str} {m:List R->M R} {e:Expr} {es:List Expr} {p pos:Pos} {fs:IT.Env->M (List R)} (hF:zo0 X n x np dfl m) (hr:Room n X.A) (hg:Gl X x) (ha:IA X (e::es) fs) (hf:∀ σ h rs h',fs σ h=some (rs,h')->rs.length=(e::es).length)
  (hdb:(x==("__debug__":Str))=false) (he:starEach (e::es) X.env=(false,eval e X.env)::starEach es X.env) (hpl:(backTo pos (starEach es X.env)).any (·.1)=false) :
  IE X (.Call (.Name x p) (e::es) [] pos) (λσ=>bnd (fs σ) λrs=>m rs):=by
 obtain ⟨f,fd,ps,dvs,F,hm,hk,hd,hb⟩:=hF.ex
 by_cases hj:(e::es).length+dfl.length-np<=dfl.length/\¬ (e::es).length+dfl.length<np
 ·obtain ⟨hj,hj2⟩:=hj
  obtain ⟨ds,hb,hv⟩:=hb _ hj
  refine PE.imp (zjD F hr hg hm hk hb hv znx ha hdb he hpl) λσ H Q q0=>?_
  obtain ⟨μ,h,env,R0,re,r,h',ee,k⟩:=q0
  simp only [zaa] at ee
  obtain ⟨rs,h1,e1,e2⟩:=ee
  refine ⟨μ,h,env,R0,re,rs,h1,e1,λμ1 H1 vs s1 R1 q1=>?_⟩
  have hlen:=hF.len _ _ _ e2
  rw [hF.fill rs] at e2
  have qq:zbi X.K μ1 h1 H1 (zaV np dfl rs) (vs++dvs.drop ((e::es).length+dfl.length-np)):=by
   rw [zcF (by rw [hf _ _ _ _ e1];exact hj2),hf _ _ _ _ e1]
   exact q1.app (RepDs.drop _ (hd _ _)).rs
  exact ⟨by rw [<-qq.length];exact hlen,μ1,h1,zaV np dfl rs,R1,qq,r,h',e2,λμ2 H2 v s2 R2 q2=>k μ2 H2 v (s1.trans s2) R2 q2⟩
 ·obtain ⟨ds,hb,hv⟩:=hb dfl.length (Nat.le_refl _)
  refine PE.imp (zjD F hr hg hm hk hb hv znx ha hdb he hpl) λσ H Q q0=>?_
  obtain ⟨μ,h,env,R0,re,r,h',ee,k⟩:=q0
  simp only [zaa] at ee
  obtain ⟨rs,h1,e1,e2⟩:=ee
  refine ⟨μ,h,env,R0,re,rs,h1,e1,λμ1 H1 vs s1 R1 q1=>?_⟩
  exfalso
  have hlen:=hF.len _ _ _ e2
  have hrs:=hf _ _ _ _ e1
  by_cases hs:rs.length+dfl.length<np
  ·rw [zc1 hs] at hlen
   omega
  ·rw [zcF hs] at hlen
   simp only [List.length_append,List.length_map,List.length_drop] at hlen
   omega
inductive tG (K:PySem.W.Frag) (t:Tg) (v:V) (σ:St) (H:Hp) (Q:St->Hp->Prop):Prop where
 | mk (μ:List Addr) (h:Sto) (env:IT.Env) (r:R) (env':IT.Env) (R0:Rep K μ h H) (re:RepE K μ h H env σ) (qr:RepR K μ h H r v) (e:zaM t r env h=some (env',h)) (k:∀ σ',RepE K μ h H env' σ'->Q σ' H)
inductive tGs (K:PySem.W.Frag) (ts:List Tg) (vs:List V) (σ:St) (H:Hp) (Q:St->Hp->Prop):Prop where
 | mk (μ:List Addr) (h:Sto) (env:IT.Env) (xs:List D) (env':IT.Env) (R0:Rep K μ h H) (re:RepE K μ h H env σ) (qr:RepDs K (Live μ h) H xs vs) (e:bindTs ts xs env h=some (env',h)) (k:∀ σ',RepE K μ h H env' σ'->Q σ' H)
theorem PG.imp {tg:Expr} {t t':TG} (h:PG X tg t) (i:∀ v σ H Q,t' v σ H Q->t v σ H Q):PG X tg t':=λpins s σ H v u Q I r q=>h pins s σ H v u Q I r (i v σ H Q q)
theorem PGs.imp {tg:List Expr} {t t':TGs} (h:PGs X tg t) (i:∀ v σ H Q,t' v σ H Q->t v σ H Q):PGs X tg t':=λpins s σ H v u Q I r q=>h pins s σ H v u Q I r (i v σ H Q q)
theorem zl7 {i:Nat} {x:Str} {pos:Pos} (hN:X.N.Nodup) (hi:X.N[i]?=some x) (hx:Loc X.env.scope x) (hf:X.fn x=true\/X.env.scope.names.lookup x=some .local):PG X (.Name x pos) (tG X.K (.name i)):=by
 refine PG.imp (zjY hN hi hx hf) λv σ H Q ⟨μ,h,env,r,env',R0,re,qr,e,k⟩=>?_
 simp only [zaM,zab] at e
 obtain ⟨rfl,_⟩:=e
 exact k _ (re.set i qr)
theorem zl6:PGs X [] (tGs X.K []):=by
 refine PGs.imp zir λvs σ H Q ⟨μ,h,env,xs,env',R0,re,qx,e,k⟩=>?_
 cases xs with
 | nil=>
  simp only [RepDs] at qx
  simp only [bindTs,zab] at e
  obtain ⟨rfl,_⟩:=e
  exact ⟨qx,k σ re⟩
 | cons _ _=>exact zad e
theorem za4:∀ (t:Tg) (r:R) (env env':IT.Env) (h h':Sto),zaM t r env h=some (env',h')->h'=h:=by
 intro t
 refine Tg.rec (motive_1:=λt=>∀ (r:R) (env env':IT.Env) (h h':Sto),zaM t r env h=some (env',h')->h'=h)
  (motive_2:=λts=>∀ (xs:List D) (env env':IT.Env) (h h':Sto),bindTs ts xs env h=some (env',h')->h'=h) ?_ ?_ ?_ ?_ t
 ·intro i r env env' h h' e
  simp only [zaM,zab] at e
  exact e.2.symm
 ·intro ts ih r env env' h h' e
  simp only [zaM,zaa] at e
  obtain ⟨d,h1,e1,e2⟩:=e
  have hh:h1=h:=by
   cases r with
   | d x=>simp only [rd,zab] at e1;exact e1.2.symm
   | loc l=>
    exact (zek e1).choose_spec.2.2.2
  subst hh
  cases d with
  | tup xs=>exact ih xs env env' _ h' e2
  | _=>cases e2
 ·intro xs env env' h h' e
  cases xs with
  | nil=>simp only [bindTs,zab] at e;exact e.2.symm
  | cons _ _=>exact zad e
 ·intro t ts iht ihts xs env env' h h' e
  cases xs with
  | nil=>exact zad e
  | cons x xs=>
   simp only [bindTs,zaa] at e
   obtain ⟨env1,h1,e1,e2⟩:=e
   have:=iht _ _ _ _ _ e1
   subst this
   exact ihts _ _ _ _ _ e2
theorem zbZ:∀ (ts:List Tg) (xs:List D) (env env':IT.Env) (h h':Sto),bindTs ts xs env h=some (env',h')->xs.length=ts.length
 | [],[],_,_,_,_,_=>rfl
 | [],_::_,_,_,_,_,e=>by exact zad e
 | _::_,[],_,_,_,_,e=>by exact zad e
 | t::ts,x::xs,env,env',h,h',e=>by
  simp only [bindTs,zaa] at e
  obtain ⟨env1,h2,e3,e4⟩:=e
  simp only [List.length_cons]
  rw [zbZ ts xs env1 env' h2 h' e4]
theorem zk8 {e:Expr} {es:List Expr} {t:Tg} {ts:List Tg} (h1:PG X e (tG X.K t)) (h2:PGs X es (tGs X.K ts)) (hs:(assignEach (e::es) X.env).map (·.2)=assign e X.env::(assignEach es X.env).map (·.2)):PGs X (e::es) (tGs X.K (t::ts)):=by
 refine PGs.imp (ze5 h1 h2 hs) λvs σ H Q ⟨μ,h,env,xs,env',R0,re,qx,e,k⟩=>?_
 cases xs with
 | nil=>exact zad e
 | cons x xs=>
  simp only [RepDs] at qx
  obtain ⟨v,r,rfl,q1,q2⟩:=qx
  simp only [bindTs,zaa] at e
  obtain ⟨env1,h1',e1,e2⟩:=e
  have:=za4 _ _ _ _ _ _ e1
  subst this
  refine ⟨v,r,rfl,μ,_,env,.d x,env1,R0,re,q1,e1,λσ1 re1=>⟨μ,_,env1,xs,env',R0,re1,q2,e2,k⟩⟩
theorem zoT {es:List Expr} {n:Nat} {pos:Pos} {ts:List Tg} (hc:X.calm=true) (h:PGs X es (tGs X.K ts)) (hl:es.length=ts.length) (hn:(assignEach es X.env).length=es.length) (hst:(assignEach es X.env).findIdx? (·.1)=none):PG X (.Tuple es n pos) (tG X.K (.tup ts)):=by
 refine PG.imp (zlH (n:=es.length) hc h hn hst) λv σ H Q ⟨μ,h,env,r,env',R0,re,qr,e,k⟩=>?_
 simp only [zaM,zaa] at e
 obtain ⟨d,h1,e1,e2⟩:=e
 obtain ⟨rfl,zd⟩:=zbg R0 qr e1
 cases d with
 | tup xs=>
  simp only [RdD,RepD] at zd
  obtain ⟨a,vs,rfl,q1,z1⟩:=zd
  refine ⟨a,vs,rfl,q1,?_,μ,_,env,xs,env',R0,re,z1,e2,k⟩
  rw [<-z1.length,hl]
  exact zbZ _ _ _ _ _ _ e2
 | _=>cases e2
noncomputable def RepI (K:PySem.W.Frag) (μ:List Addr) (h:Sto) (H:Hp):Ite->V->Prop
 | .r r,v=>RepR K μ h H r v
 | .en i r,v=>∃ p w,v=.ref p/\H p=some (.tup [.int i,w])/\RepR K μ h H r w
inductive tGI (K:PySem.W.Frag) (t:Tg) (v:V) (σ:St) (H:Hp) (Q:St->Hp->Prop):Prop where
 | mk (μ:List Addr) (h:Sto) (env:IT.Env) (x:Ite) (env':IT.Env) (R0:Rep K μ h H) (re:RepE K μ h H env σ) (qx:RepI K μ h H x v) (e:zaE t x env h=some (env',h)) (k:∀ σ',RepE K μ h H env' σ'->Q σ' H)
inductive tGe (K:PySem.W.Frag) (a b:Tg) (vs:List V) (σ:St) (H:Hp) (Q:St->Hp->Prop):Prop where
 | mk (μ:List Addr) (h:Sto) (env:IT.Env) (i:Int) (r:R) (w:V) (env1 env':IT.Env) (R0:Rep K μ h H) (re:RepE K μ h H env σ) (ev:vs=[.int i,w]) (qr:RepR K μ h H r w) (e1:zaM a (.d (.int i)) env h=some (env1,h)) (e2:zaM b r env1 h=some (env',h)) (k:∀ σ',RepE K μ h H env' σ'->Q σ' H)
theorem zqh {ea eb:Expr} {a b:Tg} (ha:PG X ea (tG X.K a)) (hb:PG X eb (tG X.K b)) (h1:(assignEach [ea,eb] X.env).map (·.2)=assign ea X.env::(assignEach [eb] X.env).map (·.2)) (h2:(assignEach [eb] X.env).map (·.2)=assign eb X.env::(assignEach [] X.env).map (·.2)):PGs X [ea,eb] (tGe X.K a b):=by
 refine PGs.imp (ze5 ha (ze5 hb zir h2) h1) λvs σ H Q q0=>?_
 obtain ⟨μ,h,env,i,r,w,env1,env',R0,re,rfl,qr,e1,e2,k⟩:=q0
 exact ⟨.int i,[w],rfl,μ,h,env,.d (.int i),env1,R0,re,by simp only [RepR,RepD],e1,λσ1 re1=>⟨w,[],rfl,μ,h,env1,r,env',R0,re1,qr,e2,λσ2 re2=>⟨rfl,k σ2 re2⟩⟩⟩
theorem zfH {t:Tg} {x:Ite} {env env':IT.Env} {h h':Sto} (e:zaE t x env h=some (env',h')):h'=h:=by
 cases x with
 | r r=>rw [zaE] at e;exact za4 _ _ _ _ _ _ e
 | en i r=>
  match t,e with
  | .tup [a,b],e=>
   rw [zaE,zaa] at e
   obtain ⟨env1,h1,e1,e2⟩:=e
   have:=za4 _ _ _ _ _ _ e1
   subst this
   exact za4 _ _ _ _ _ _ e2
  | .name _,e=>exact zad e
  | .tup [],e=>exact zad e
  | .tup [_],e=>exact zad e
  | .tup (_::_::_::_),e=>exact zad e
theorem zki {e:Expr} {i:Nat} (hg:PG X e (tG X.K (.name i))):PG X e (tGI X.K (.name i)):=by
 refine PG.imp hg λv σ H Q q0=>?_
 obtain ⟨μ,h,env,x,env',R0,re,qx,eb,k⟩:=q0
 cases x with
 | r r=>exact ⟨μ,h,env,r,env',R0,re,qx,by rw [zaE] at eb;exact eb,k⟩
 | en i r=>exact zad eb
theorem zmL {e:Expr} {ts:List Tg} (hn:ts.length≠2) (hg:PG X e (tG X.K (.tup ts))):PG X e (tGI X.K (.tup ts)):=by
 refine PG.imp hg λv σ H Q q0=>?_
 obtain ⟨μ,h,env,x,env',R0,re,qx,eb,k⟩:=q0
 cases x with
 | r r=>exact ⟨μ,h,env,r,env',R0,re,qx,by rw [zaE] at eb;exact eb,k⟩
 | en i r=>
  match ts,hn,eb with
  | [],_,eb=>exact zad eb
  | [_],_,eb=>exact zad eb
  | [_,_],hn,_=>exact absurd rfl hn
  | _::_::_::_,_,eb=>exact zad eb
theorem zlZ {ea eb:Expr} {n:Nat} {pos:Pos} {a b:Tg} (hc:X.calm=true) (hs:PGs X [ea,eb] (tGs X.K [a,b])) (he:PGs X [ea,eb] (tGe X.K a b)) (hn:(assignEach [ea,eb] X.env).length=2) (hst:(assignEach [ea,eb] X.env).findIdx? (·.1)=none):PG X (.Tuple [ea,eb] n pos) (tGI X.K (.tup [a,b])):=by
 have both:PGs X [ea,eb] (λvs σ H Q=>tGs X.K [a,b] vs σ H Q\/tGe X.K a b vs σ H Q):=λpins s σ H v u Q I r q=>by
  rcases q with q | q
  ·exact hs pins s σ H v u Q I r q
  ·exact he pins s σ H v u Q I r q
 refine PG.imp (zlH (n:=2) hc both hn hst) λv σ H Q q0=>?_
 obtain ⟨μ,h,env,x,env',R0,re,qx,eb,k⟩:=q0
 cases x with
 | r r=>
  rw [zaE] at eb
  simp only [zaM,zaa] at eb
  obtain ⟨d,h1,e1,e2⟩:=eb
  obtain ⟨rfl,zd⟩:=zbg R0 qx e1
  cases d with
  | tup xs=>
   simp only [RdD,RepD] at zd
   obtain ⟨p,vs,rfl,q1,z1⟩:=zd
   refine ⟨p,vs,rfl,q1,?_,.inl ⟨μ,_,env,xs,env',R0,re,z1,e2,k⟩⟩
   rw [<-z1.length]
   exact zbZ _ _ _ _ _ _ e2
  | _=>cases e2
 | en i r=>
  obtain ⟨p,w,rfl,hp,qr⟩:=qx
  rw [zaE,zaa] at eb
  obtain ⟨env1,h1,e1,e2⟩:=eb
  have:=za4 _ _ _ _ _ _ e1
  subst this
  exact ⟨p,[.int i,w],rfl,SqT.of hp,rfl,.inr ⟨μ,_,env,i,r,w,env1,env',R0,re,rfl,qr,e1,e2,k⟩⟩
end
end IT
set_option linter.all false
set_option maxHeartbeats 4000000
set_option maxRecDepth 100000
namespace IT
open PySem PySem.Spec L2
structure Wlk (K:PySem.W.Frag) (J:L2.It) (w:Wk) (μ:List Addr) (h:Sto) (H:Hp):Prop where
 go:∀ μ1 h1 H1 (i:Nat) x,Stp μ h H μ1 h1 H1->Rep K μ1 h1 H1->zaJ w.l h h1=true->w.xs[i]?=some x->J.go i H1/\∀ v H',J.yld i H1 v H'->Stp μ1 h1 H1 μ1 h1 H'/\Rep K μ1 h1 H'/\RepI K μ1 h1 H' x v
 stop:∀ μ1 h1 H1,Stp μ h H μ1 h1 H1->Rep K μ1 h1 H1->zaJ w.l h h1=true->J.stop w.xs.length H1
theorem zgU {xs:List D} {i:Nat} {x:Ite} (e:(xs.map dI)[i]?=some x):∃ d,xs[i]?=some d/\x=.r (.d d):=by
 rw [List.getElem?_map,Option.map_eq_some_iff] at e
 obtain ⟨d,e1,e2⟩:=e
 exact ⟨d,e1,e2.symm⟩
section
variable {K:PySem.W.Frag} {μ:List Addr} {h:Sto} {H:Hp}
theorem zlg {a:Addr} {xs:List D} {vs:List V} (R0:Rep K μ h H) (q:LsR K (Live μ h) H a vs) (z:RepDs K (Live μ h) H xs vs):Wlk K (Itl K a) ⟨xs.map dI,none⟩ μ h H:=by
 refine ⟨λμ1 h1 H1 i x st R1 _ e=>?_,λμ1 h1 H1 st R1 _=>?_⟩
 ·obtain ⟨d,ed,rfl⟩:=zgU e
  have q1:=st.lsR q
  have z1:=RepDs.stp st R0 z
  obtain ⟨v,e1,z2⟩:=z1.get ed
  refine ⟨⟨vs,v,q1.sq,e1⟩,λv' H' ⟨hH,hv⟩=>?_⟩
  subst hH
  have:=hv vs q1.sq
  rw [e1] at this
  cases this
  exact ⟨Stp.refl,R1,z2⟩
 ·exact ⟨vs,(st.lsR q).sq,by rw [List.length_map,<-z.length];exact Nat.le_refl _⟩
theorem zmh {a:Addr} {xs:List D} {vs:List V} (R0:Rep K μ h H) (q:SqT K H a vs) (z:RepDs K (Live μ h) H xs vs):Wlk K (Itt K a) ⟨xs.map dI,none⟩ μ h H:=by
 have qs:∀ μ1 h1 H1,Stp μ h H μ1 h1 H1->SqT K H1 a vs:=λμ1 h1 H1 st=>q.imp (st.rdT R0 a vs) λz=>z
 refine ⟨λμ1 h1 H1 i x st R1 _ e=>?_,λμ1 h1 H1 st R1 _=>?_⟩
 ·obtain ⟨d,ed,rfl⟩:=zgU e
  have q1:=qs _ _ _ st
  have z1:=RepDs.stp st R0 z
  obtain ⟨v,e1,z2⟩:=z1.get ed
  refine ⟨⟨vs,v,q1,e1⟩,λv' H' ⟨hH,hv⟩=>?_⟩
  subst hH
  have:=hv vs q1
  rw [e1] at this
  cases this
  exact ⟨Stp.refl,R1,z2⟩
 ·exact ⟨vs,qs _ _ _ st,by rw [List.length_map,<-z.length];exact Nat.le_refl _⟩
theorem Ob.same_isL {o o':Ob} (s:o.same o'=true) (il:o.isL=true):o'.isL=true/\o'.items=o.items:=by
 cases o with
 | lst xs=>simp only [Ob.same,Bool.and_eq_true] at s;exact ⟨s.1,(D.sames_eq _ _ s.2).symm⟩
 | fro xs=>simp only [Ob.same,Bool.and_eq_true] at s;exact ⟨s.1,(D.sames_eq _ _ s.2).symm⟩
 | ins _ _=>cases il
 | ols _=>cases il
 | dic _=>cases il
 | dfr _=>cases il
theorem zdN:∀ {a b:List (D×D)},za5 a b=true->a=b
  | [],[],_=>rfl
  | [],_::_,h=>by cases h
  | _::_,[],h=>by cases h
  | (p1,p2)::r,(q1,q2)::t,h=>by
    simp only [za5,Bool.and_eq_true] at h
    rw [D.same_eq _ _ h.1.1,D.same_eq _ _ h.1.2,zdN h.2]
theorem zcf:∀ a:List (D×D),za5 a a=true
 | []=>rfl
 | p::r=>by simp only [za5,D.same_refl,zcf r,Bool.and_self]
theorem zfc {l:Nat} {h h1:Sto} {o:Ob} (ho:h[l]?=some o) (s:zaJ (some l) h h1=true):∃ o',h1[l]?=some o'/\o.same o'=true:=by
 simp only [zaJ,ho] at s
 cases q:h1[l]? with
 | none=>rw [q] at s;cases s
 | some o'=>rw [q] at s;exact ⟨o',rfl,s⟩
theorem zne {a:Addr} {l:Nat} {o:Ob} (R0:Rep K μ h H) (ea:μ[l]?=some a) (ho:h[l]?=some o) (il:o.isL=true):Wlk K (Itl K a) ⟨o.items.map dI,some l⟩ μ h H:=by
 refine ⟨λμ1 h1 H1 i x st R1 sy e=>?_,λμ1 h1 H1 st R1 sy=>?_⟩
 ·obtain ⟨d,ed,rfl⟩:=zgU e
  obtain ⟨o',ho',eo⟩:=zfc ho sy
  obtain ⟨il',eo⟩:=Ob.same_isL eo il
  obtain ⟨vs,q1,z1⟩:=R1.placeL (st.pre l a ea) ho' il'
  rw [eo] at z1
  obtain ⟨v,e1,z2⟩:=z1.get ed
  refine ⟨⟨vs,v,.inl (.inl q1),e1⟩,λv' H' ⟨hH,hv⟩=>?_⟩
  subst hH
  have:=hv vs (.inl (.inl q1))
  rw [e1] at this
  cases this
  exact ⟨Stp.refl,R1,z2⟩
 ·obtain ⟨o',ho',eo⟩:=zfc ho sy
  obtain ⟨il',eo⟩:=Ob.same_isL eo il
  obtain ⟨vs,q1,z1⟩:=R1.placeL (st.pre l a ea) ho' il'
  rw [eo] at z1
  exact ⟨vs,.inl (.inl q1),by rw [List.length_map,<-z1.length];exact Nat.le_refl _⟩
theorem zd8 {α β:Type} {F:α->β->Prop}:∀ {xs:List α} {ys:List β} {i:Nat} {x:α},Paired F xs ys->xs[i]?=some x->∃ y,ys[i]?=some y/\F x y
 | _,_,_,_,.nil,e=>by simp at e
 | _,_,0,_,.cons r _,e=>by simp at e;subst e;exact ⟨_,rfl,r⟩
 | _,_,i+1,x,.cons _ t,e=>by
  obtain ⟨y,h1,h2⟩:=zd8 (i:=i) (x:=x) t (by simpa using e)
  exact ⟨y,by simpa using h1,h2⟩
theorem zmy {a:Addr} {l:Nat} {ls:List Nat} (R0:Rep K μ h H) (ea:μ[l]?=some a) (ho:h[l]?=some (.ols ls)):Wlk K (Itl K a) ⟨ls.map λl=>.r (.loc l),some l⟩ μ h H:=by
 have at1:∀ μ1 h1 H1,Stp μ h H μ1 h1 H1->Rep K μ1 h1 H1->zaJ (some l) h h1=true->∃ vs,H1 a=some (.lst vs)/\Paired (λ(l:Nat) (v:V)=>∃ b,μ1[l]?=some b/\v=.ref b) ls vs:=by
  intro μ1 h1 H1 st R1 sy
  obtain ⟨o',ho',eo⟩:=zfc ho sy
  cases o' with
  | ols ls'=>
   simp only [Ob.same] at eo
   have:=eq_of_beq eo
   subst this
   exact R1.obj l a _ (st.pre l a ea) ho'
  | _=>cases eo
 refine ⟨λμ1 h1 H1 i x st R1 sy e=>?_,λμ1 h1 H1 st R1 sy=>?_⟩
 ·rw [List.getElem?_map,Option.map_eq_some_iff] at e
  obtain ⟨k,e,rfl⟩:=e
  obtain ⟨vs,q1,z1⟩:=at1 _ _ _ st R1 sy
  obtain ⟨v,e1,b,eb,rfl⟩:=zd8 z1 e
  refine ⟨⟨vs,.ref b,.inl (.inl q1),e1⟩,λv' H' ⟨hH,hv⟩=>?_⟩
  subst hH
  have:=hv vs (.inl (.inl q1))
  rw [e1] at this
  cases this
  exact ⟨Stp.refl,R1,b,eb,rfl⟩
 ·obtain ⟨vs,q1,z1⟩:=at1 _ _ _ st R1 sy
  exact ⟨vs,.inl (.inl q1),by rw [List.length_map,<-z1.length];exact Nat.le_refl _⟩
theorem zfJ:∀ (n:Nat) (lo:Int) (i:Nat) (x:D),(zbr lo n)[i]?=some x->i<n/\x=.int (lo+i)
 | 0,lo,i,x,e=>by simp [zbr] at e
 | n+1,lo,i,x,e=>by
  cases i with
  | zero=>simp [zbr] at e;exact ⟨by omega,by rw [<-e];simp⟩
  | succ i=>
   simp only [zbr,List.getElem?_cons_succ] at e
   obtain ⟨h1,h2⟩:=zfJ n (lo+1) i x e
   refine ⟨by omega,?_⟩
   rw [h2]
   congr 1
   push_cast
   omega
theorem zdP:∀ (n:Nat) (lo:Int),(zbr lo n).length=n
 | 0,_=>rfl
 | n+1,lo=>by simp [zbr,zdP n]
theorem zma (lo:Int) (n:Nat):Wlk K (Itr lo n) ⟨(zbr lo n).map dI,none⟩ μ h H:=by
 refine ⟨λμ1 h1 H1 i x st R1 _ e=>?_,λμ1 h1 H1 st R1 _=>?_⟩
 ·obtain ⟨d,ed,rfl⟩:=zgU e
  obtain ⟨h1',rfl⟩:=zfJ n lo i d ed
  exact ⟨h1',λv H' ⟨hH,hv⟩=>by subst hH;exact ⟨Stp.refl,R1,by rw [hv];simp only [RepI,RepR,RepD]⟩⟩
 ·show n<=((zbr lo n).map dI).length
  rw [List.length_map,zdP]
  exact Nat.le_refl _
end
inductive tI (K:PySem.W.Frag) (f:IT.Env->M Wk) (σ:St) (H:Hp) (R:It->Hp->Prop):Prop where
 | mk (μ:List Addr) (h:Sto) (env:IT.Env) (R0:Rep K μ h H) (re:RepE K μ h H env σ) (w:Wk) (h':Sto) (e:f env h=some (w,h')) (k:∀ μ' H' J,Stp μ h H μ' h' H'->Rep K μ' h' H'->Wlk K J w μ' h' H'->w.xs.length<=sizeLine->R J H')
section
variable {X:Cx} {tg:Expr}
theorem PI.imp {l:Expr} {t t':TI} (h:PI X tg l t) (i:∀ σ H R,t' σ H R->t σ H R):PI X tg l t':=λpins s σ H R I q=>h pins s σ H R I (i σ H R q)
theorem zou {l:Expr} {tl:TE} (hl:PE X l tl):PI X tg l (λσ H R=>tl σ H λx H1=>(∃ a xs,x=.ref a/\SqL X.K H1 a xs/\(xs.length<=sizeLine->R (Itl X.K a) H1))\/(∃ a xs,x=.ref a/\SqT X.K H1 a xs/\(xs.length<=sizeLine->R (Itt X.K a) H1))):=by
 intro pins s σ H R I h
 refine thn (hl pins s σ H _ I h) λv s1 ⟨x,H1,I1,r1,q1⟩=>?_
 rcases q1 with ⟨a,xs,e,hq,q⟩ | ⟨a,xs,e,hq,q⟩
 ·subst e
  cases r1
  obtain ⟨its,rv,p,hz⟩:=I1.list hq
  refine wpAny_pyIter_list p.isList ?_
  refine ⟨s1.heap.objs.size,[s1.heap.objs.size],_,_,H1,rfl,I1.kept (t':=s1.toks) λb o e=>Heap.get?_push_of_some _ e,zjI a _,⟨_,Heap.get?_push_size _ rfl,rfl,rfl⟩,λb hb=>?_,q hz⟩
  have e:b=s1.heap.objs.size:=by simpa using hb
  subst e
  exact I1.fpOk (Nat.le_refl _) (I1.hok.fresh (Nat.le_refl _))
 ·subst e
  cases r1
  obtain ⟨its,rv,p,hz⟩:=I1.tuple hq
  refine wpAny_pyIter_tuple (show s1.heap.IsTuple a its.toArray from p) ?_
  refine ⟨s1.heap.objs.size,[s1.heap.objs.size],_,_,H1,rfl,I1.kept (t':=s1.toks) λb o e=>Heap.get?_push_of_some _ e,zhw a _,⟨_,Heap.get?_push_size _ rfl,rfl,rfl⟩,λb hb=>?_,q hz⟩
  have e:b=s1.heap.objs.size:=by simpa using hb
  subst e
  exact I1.fpOk (Nat.le_refl _) (I1.hok.fresh (Nat.le_refl _))
theorem zep {r:R} {o:Option (List Nat)} {h h':Sto} (e:zdL r h=some (o,h')):h'=h/\match o with
  | some ls=>∃ l,r=.loc l/\h[l]?=some (.ols ls)
  | none=>True:=by
 cases r with
 | d x=>simp only [zdL,Option.some.injEq,Prod.mk.injEq] at e;obtain ⟨rfl,rfl⟩:=e;exact ⟨rfl,trivial⟩
 | loc l=>
  (delta zdL at e;(try dsimp only at e))
  split at e
  ·rename_i ls hl
   simp only [Option.some.injEq,Prod.mk.injEq] at e
   obtain ⟨rfl,rfl⟩:=e
   exact ⟨rfl,l,rfl,hl⟩
  ·simp only [Option.some.injEq,Prod.mk.injEq] at e
   obtain ⟨rfl,rfl⟩:=e
   exact ⟨rfl,trivial⟩
noncomputable def WkIs (K:PySem.W.Frag) (v:V) (w:Wk) (μ:List Addr) (h:Sto) (H:Hp):Prop:=
 (∃ a vs,v=.ref a/\SqL K H a vs/\vs.length=w.xs.length/\Wlk K (Itl K a) w μ h H)\/(∃ a vs,v=.ref a/\SqT K H a vs/\vs.length=w.xs.length/\Wlk K (Itt K a) w μ h H)
theorem zqd {K:PySem.W.Frag} {μ:List Addr} {h h':Sto} {H:Hp} {r:R} {v:V} {w:Wk} (R1:Rep K μ h H) (q1:RepR K μ h H r v) (e:zbE r h=some (w,h')):h'=h/\WkIs K v w μ h H:=by
 (delta zbE at e;simp only [zaa] at e)
 obtain ⟨o,h1,e1,e2⟩:=e
 obtain ⟨rfl,ho⟩:=zep e1
 cases o with
 | some ls=>
  obtain ⟨l,rfl,ho⟩:=ho
  obtain ⟨a,ea,rfl⟩:=q1
  simp only [zab] at e2
  obtain ⟨rfl,rfl⟩:=e2
  obtain ⟨vs,q2,z2⟩:=R1.obj l a _ ea ho
  exact ⟨rfl,.inl ⟨a,vs,rfl,.inl (.inl q2),by rw [List.length_map];exact z2.length.symm,zmy R1 ea ho⟩⟩
 | none=>
  simp only [zaa] at e2
  obtain ⟨d,h2,e3,e4⟩:=e2
  cases r with
  | loc l=>
   obtain ⟨a,ea,rfl⟩:=q1
   obtain ⟨o,ho,il,rfl,rfl⟩:=zek e3
   obtain ⟨vs,q2,z2⟩:=R1.placeL ea ho il
   (delta wkOf items at e4;(try dsimp only at e4);simp only [zab] at e4)
   obtain ⟨rfl,rfl⟩:=e4
   exact ⟨rfl,.inl ⟨a,vs,rfl,.inl (.inl q2),by rw [List.length_map];exact z2.length.symm,zne R1 ea ho il⟩⟩
  | d x=>
   simp only [rd,zab] at e3
   obtain ⟨rfl,rfl⟩:=e3
   cases x with
   | tup xs=>
    (delta wkOf items at e4;(try dsimp only at e4);simp only [zab] at e4)
    obtain ⟨rfl,rfl⟩:=e4
    simp only [RepR,RepD] at q1
    obtain ⟨a,vs,rfl,q2,z2⟩:=q1
    exact ⟨rfl,.inr ⟨a,vs,rfl,q2,by rw [List.length_map];exact z2.length.symm,zmh R1 q2 z2⟩⟩
   | lst xs=>
    (delta wkOf items at e4;(try dsimp only at e4);simp only [zab] at e4)
    obtain ⟨rfl,rfl⟩:=e4
    simp only [RepR,RepD] at q1
    obtain ⟨a,vs,rfl,q2,z2⟩:=q1
    exact ⟨rfl,.inl ⟨a,vs,rfl,q2.sq,by rw [List.length_map];exact z2.length.symm,zlg R1 q2 z2⟩⟩
   | _=>exact zad e4
theorem znT {l:Expr} {f:IT.Env->M R} (hl:IE X l f):PI X tg l (tI X.K λσ=>bnd (f σ) λr=>zbE r):=by
 refine PI.imp (zou hl) λσ H R q0=>?_
 obtain ⟨μ,h,env,R0,re,w,h',e,k⟩:=q0
 simp only [zaa] at e
 obtain ⟨r,h1,e1,e2⟩:=e
 refine ⟨μ,h,env,R0,re,r,h1,e1,λμ1 H1 v s1 R1 q1=>?_⟩
 obtain ⟨rfl,W⟩:=zqd R1 q1 e2
 rcases W with ⟨a,vs,rfl,q2,hl,W⟩ | ⟨a,vs,rfl,q2,hl,W⟩
 ·exact .inl ⟨a,vs,rfl,q2,λhz=>k μ1 H1 _ s1 R1 W (by rw [<-hl];exact hz)⟩
 ·exact .inr ⟨a,vs,rfl,q2,λhz=>k μ1 H1 _ s1 R1 W (by rw [<-hl];exact hz)⟩
theorem zoC {e:Expr} {p pos:Pos} {f:IT.Env->M R} (hg:Gl X "range") (hm:X.mg "range"=none) (ha:IE X e f) (hs:starEach [e] X.env=[(false,eval e X.env)]):PI X tg (.Call (.Name "range" p) [e] [] pos) (tI X.K λσ=>bnd (f σ) λr=>zes r):=by
 refine PI.imp (zjV hg hm (zaY ha zbI hs) hs) λσ H R q0=>?_
 obtain ⟨μ,h,env,R0,re,w,h',e,k⟩:=q0
 simp only [zaa] at e
 obtain ⟨r,h1,e1,e2⟩:=e
 refine ⟨μ,h,env,R0,re,r,h1,e1,λμ1 H1 v s1 R1 q1=>?_⟩
 (delta zes at e2;(try dsimp only at e2))
 split at e2
 ·rename_i n
  split at e2
  ·rename_i hb
   rw [Bool.and_eq_true] at hb
   obtain ⟨rfl,rfl⟩:=zab.mp e2
   simp only [RepR,RepD] at q1
   have h3:n<=16777216:=of_decide_eq_true hb.2
   exact ⟨n,by rw [q1],of_decide_eq_true hb.1,by omega,k μ1 H1 _ s1 R1 (zma 0 n.toNat) (by show ((zbr 0 n.toNat).map dI).length<=sizeLine;rw [List.length_map,zdP];show n.toNat<=16777216;omega)⟩
  ·cases e2
 ·cases e2
noncomputable def zql (K:PySem.W.Frag) (μ:List Addr) (h:Sto) (D:Ends) (fl:Fl) (σ:St) (H:Hp):Prop:=match fl with
 | .nx=>D.nx σ H
 | .brk=>D.bk σ H
 | .cnt=>D.ct σ H
 | .ret r=>∀ v,RepR K μ h H r v->D.rt v H
inductive tS (K:PySem.W.Frag) (f:IT.Env->M (Fl×IT.Env)) (D:Ends) (σ:St) (H:Hp):Prop where
 | mk (μ:List Addr) (h:Sto) (env:IT.Env) (R0:Rep K μ h H) (re:RepE K μ h H env σ) (fl:Fl) (env':IT.Env) (h':Sto) (e:f env h=some ((fl,env'),h')) (k:∀ μ' H' σ',Stp μ h H μ' h' H'->Rep K μ' h' H'->RepE K μ' h' H' env' σ'->zql K μ' h' D fl σ' H')
theorem PS.imp {st:Stmt} {t t':TS} (h:PS X st t) (i:∀ D σ H,t' D σ H->t D σ H):PS X st t':=λpins s σ H D I q=>h pins s σ H D I (i D σ H q)
theorem PSs.imp {st:List Stmt} {t t':TS} (h:PSs X st t) (i:∀ D σ H,t' D σ H->t D σ H):PSs X st t':=λpins s σ H D I q=>h pins s σ H D I (i D σ H q)
theorem zog {e:Expr} {pos:Pos} {f:IT.Env->M R} (he:IE X e f):PS X (.Return (some e) pos) (tS X.K λσ=>bnd (f σ) λr=>ok (.ret r,σ)):=by
 refine PS.imp (zoZ he) λD σ H q0=>?_
 obtain ⟨μ,h,env,R0,re,fl,env',h',e,k⟩:=q0
 simp only [zaa,zab,Prod.mk.injEq] at e
 obtain ⟨r,h1,e1,⟨rfl,rfl⟩,rfl⟩:=e
 exact ⟨μ,h,env,R0,re,r,h1,e1,λμ1 H1 v s1 R1 q1=>k μ1 H1 σ s1 R1 (re.stp s1 R0) v q1⟩
theorem zpq {e:Expr} {pos:Pos} {f:IT.Env->M R} (he:IE X e f) (hs:swapsWith e none pos.line X.env=pure false):PS X (.Expr e pos) (tS X.K λσ=>bnd (f σ) λ_=>ok (.nx,σ)):=by
 refine PS.imp (zmT he hs) λD σ H q0=>?_
 obtain ⟨μ,h,env,R0,re,fl,env',h',e,k⟩:=q0
 simp only [zaa,zab,Prod.mk.injEq] at e
 obtain ⟨r,h1,e1,⟨rfl,rfl⟩,rfl⟩:=e
 exact ⟨μ,h,env,R0,re,r,h1,e1,λμ1 H1 v s1 R1 q1=>k μ1 H1 σ s1 R1 (re.stp s1 R0)⟩
theorem zlG {tge e:Expr} {pos:Pos} {t:Tg} {f:IT.Env->M R} (he:IE X e f) (hg:PG X tge (tG X.K t)) (hs:swapsWithSole [tge] e pos.line X.env=pure false) (hw:swappedStores [tge] e X.env=pure none) (h1:(assignEach [tge] X.env).map (·.2)=[assign tge X.env]) :
  PS X (.Assign [tge] e pos) (tS X.K λσ=>bnd (f σ) λr=>bnd (zaM t r σ) λσ'=>ok (.nx,σ')):=by
 refine PS.imp (ziH he hg hs hw h1) λD σ H q0=>?_
 obtain ⟨μ,h,env,R0,re,fl,env',h',e,k⟩:=q0
 simp only [zaa,zab,Prod.mk.injEq] at e
 obtain ⟨r,h1,e1,env1,h2,e2,⟨rfl,rfl⟩,rfl⟩:=e
 have:=za4 _ _ _ _ _ _ e2
 subst this
 exact ⟨μ,h,env,R0,re,r,_,e1,λμ1 H1 v s1 R1 q1=>⟨μ1,_,env,r,env1,R1,re.stp s1 R0,q1,e2,λσ' re'=>k μ1 H1 σ' s1 R1 re'⟩⟩
theorem zpC {c:Expr} {a b:List Stmt} {pos:Pos} {ft:IT.Env->M Bool} {fa fb:IT.Env->M (Fl×IT.Env)} (hc:IT' X c ft) (ha:PSs X a (tS X.K fa)) (hb:PSs X b (tS X.K fb)) :
  PS X (.If c a b pos) (tS X.K λσ=>bnd (ft σ) λt=>if t then fa σ else fb σ):=by
 refine PS.imp (zp3 hc ha hb) λD σ H q0=>?_
 obtain ⟨μ,h,env,R0,re,fl,env',h',e,k⟩:=q0
 simp only [zaa] at e
 obtain ⟨t,h1,e1,e2⟩:=e
 refine ⟨μ,h,env,R0,re,t,h1,e1,λμ1 H1 v s1 R1 hv=>?_⟩
 subst hv
 cases t with
 | true=>
  simp only [if_true] at e2 ⊢
  exact ⟨μ1,h1,env,R1,re.stp s1 R0,fl,env',h',e2,λμ2 H2 σ2 s2 R2 q2=>k μ2 H2 σ2 (s1.trans s2) R2 q2⟩
 | false=>
  simp only [Bool.false_eq_true,if_false] at e2 ⊢
  exact ⟨μ1,h1,env,R1,re.stp s1 R0,fl,env',h',e2,λμ2 H2 σ2 s2 R2 q2=>k μ2 H2 σ2 (s1.trans s2) R2 q2⟩
theorem zmK:PSs X [] (tS X.K λσ=>ok (.nx,σ)):=by
 refine PSs.imp zmC λD σ H q0=>?_
 obtain ⟨μ,h,env,R0,re,fl,env',h',e,k⟩:=q0
 simp only [zab,Prod.mk.injEq] at e
 obtain ⟨⟨rfl,rfl⟩,rfl⟩:=e
 exact k μ H σ Stp.refl R0 re
theorem zk3 {st:Stmt} {sts:List Stmt} {f g:IT.Env->M (Fl×IT.Env)} (h1:PS X st (tS X.K f)) (h2:PSs X sts (tS X.K g)):PSs X (st::sts) (tS X.K λσ=>bnd (f σ) λp=>match p.1 with | .nx=>g p.2 | _=>ok p):=by
 refine PSs.imp (zka h1 h2) λD σ H q0=>?_
 obtain ⟨μ,h,env,R0,re,fl,env',h',e,k⟩:=q0
 simp only [zaa] at e
 obtain ⟨⟨fl1,env1⟩,h1,e1,e2⟩:=e
 refine ⟨μ,h,env,R0,re,fl1,env1,h1,e1,λμ1 H1 σ1 s1 R1 q1=>?_⟩
 cases fl1 with
 | nx=>exact ⟨μ1,h1,env1,R1,q1,fl,env',h',e2,λμ2 H2 σ2 s2 R2 q2=>k μ2 H2 σ2 (s1.trans s2) R2 q2⟩
 | brk=>simp only [zab,Prod.mk.injEq] at e2;obtain ⟨⟨rfl,rfl⟩,rfl⟩:=e2;exact k μ1 H1 σ1 s1 R1 q1
 | cnt=>simp only [zab,Prod.mk.injEq] at e2;obtain ⟨⟨rfl,rfl⟩,rfl⟩:=e2;exact k μ1 H1 σ1 s1 R1 q1
 | ret r=>simp only [zab,Prod.mk.injEq] at e2;obtain ⟨⟨rfl,rfl⟩,rfl⟩:=e2;exact k μ1 H1 σ1 s1 R1 q1
theorem Ob.same_refl {o:Ob} (n:∀ c fs,o≠.ins c fs):o.same o=true:=by
 cases o with
 | lst xs=>simp only [Ob.same,Ob.isL,Ob.items,Bool.true_and];exact D.sames_refl _
 | fro xs=>simp only [Ob.same,Ob.isL,Ob.items,Bool.true_and];exact D.sames_refl _
 | ins c fs=>exact absurd rfl (n c fs)
 | ols ls=>simp only [Ob.same,beq_self_eq_true]
 | dic kvs=>exact zcf kvs
 | dfr kvs=>exact zcf kvs
theorem Ob.same_trans {a b c:Ob} (h1:a.same b=true) (h2:b.same c=true):a.same c=true:=by
 cases a with
 | ins _ _=>cases h1
 | dic ls=>
  cases b with
  | dic ls'=>have:=zdN (show za5 ls ls'=true from h1);subst this;exact h2
  | _=>cases h1
 | dfr ls=>
  cases b with
  | dfr ls'=>have:=zdN (show za5 ls ls'=true from h1);subst this;exact h2
  | _=>cases h1
 | ols ls=>
  cases b with
  | ols ls'=>simp only [Ob.same] at h1;have:=eq_of_beq h1;subst this;exact h2
  | _=>cases h1
 | lst xs=>
  obtain ⟨i1,e1⟩:=Ob.same_isL h1 rfl
  obtain ⟨i2,e2⟩:=Ob.same_isL h2 i1
  simp only [Ob.same,i2,Bool.true_and]
  rw [e2,e1]
  exact D.sames_refl _
 | fro xs=>
  obtain ⟨i1,e1⟩:=Ob.same_isL h1 rfl
  obtain ⟨i2,e2⟩:=Ob.same_isL h2 i1
  simp only [Ob.same,i2,Bool.true_and]
  rw [e2,e1]
  exact D.sames_refl _
noncomputable def WlOk (w:Wk) (h:Sto):Prop:=∀ i,w.l=some i->∃ o,h[i]?=some o/\∀ c fs,o≠.ins c fs
theorem zem (l:Option Nat) (h:Sto) (hl:∀ i,l=some i->∃ o,h[i]?=some o/\∀ c fs,o≠.ins c fs):zaJ l h h=true:=by
 cases l with
 | none=>rfl
 | some i=>
  obtain ⟨o,ho,n⟩:=hl i rfl
  simp only [zaJ,ho]
  exact Ob.same_refl n
theorem zbu {l:Option Nat} {h h1 h2:Sto} (a:zaJ l h h1=true) (b:zaJ l h1 h2=true):zaJ l h h2=true:=by
 cases l with
 | none=>rfl
 | some i=>
  simp only [zaJ] at a b ⊢
  cases e0:h[i]? with
  | none=>rw [e0] at a;cases a
  | some o0=>
   cases e1:h1[i]? with
   | none=>rw [e0,e1] at a;cases a
   | some o1=>
    cases e2:h2[i]? with
    | none=>rw [e1,e2] at b;cases b
    | some o2=>
     rw [e0,e1] at a
     rw [e1,e2] at b
     exact Ob.same_trans a b
theorem zn8 {iter:Expr} {body:List Stmt} {pos:Pos} {t:Tg} {fi:IT.Env->M Wk} {fb:IT.Env->M (Fl×IT.Env)} (hp:PassesOwn (model X.prog X.w) X.A X.env X.xe) (hc:X.calm=true) (hi:PI X tg iter (tI X.K fi)) (hg:PG X tg (tGI X.K t)) (hb:PSs X body (tS X.K fb))
  (hs:∀ x,foldedSetIterable iter X.env x=pure x) (hwl:∀ σ h w h',fi σ h=some (w,h')->WlOk w h') :
  PS X (.For tg iter body [] pos) (tS X.K λσ=>bnd (fi σ) λw=>loop w.l (λx σ=>bnd (zaE t x σ) λσ'=>fb σ') w.xs σ):=by
 refine PS.imp (zos hp hc hi hg hb hs) λD σ H q0=>?_
 obtain ⟨μ,h,env,R0,re,fl,env',h',e,k⟩:=q0
 simp only [zaa] at e
 obtain ⟨w,h1,e1,e2⟩:=e
 refine ⟨μ,h,env,R0,re,w,h1,e1,λμ1 H1 J s1 R1 W1 _=>?_⟩
 refine ⟨λi m σ2 H2=>∃ μ2 h2 env2,Stp μ1 h1 H1 μ2 h2 H2/\zaJ w.l h1 h2=true/\Rep X.K μ2 h2 H2/\RepE X.K μ2 h2 H2 env2 σ2/\i+m=w.xs.length ∧
   loop w.l (λx σ=>bnd (zaE t x σ) λσ'=>fb σ') (w.xs.drop i) env2 h2=some ((fl,env'),h'),⟨w.xs.length,μ1,h1,env,Stp.refl,zem _ _ (hwl _ _ _ _ e1),R1,re.stp s1 R0,by omega,by rw [List.drop_zero];exact e2⟩,?_⟩
 rintro i m σ2 H2 ⟨μ2,h2,env2,s2,sy2,R2,re2,him,el⟩
 cases hx:w.xs[i]? with
 | none=>
  have hi':w.xs.length<=i:=by simpa using hx
  have hi2:i=w.xs.length:=by omega
  subst hi2
  rw [List.drop_of_length_le (Nat.le_refl _)] at el
  simp only [loop,zab,Prod.mk.injEq] at el
  obtain ⟨⟨rfl,rfl⟩,rfl⟩:=el
  exact .inl ⟨W1.stop μ2 h2 H2 s2 R2 sy2,k μ2 H2 σ2 (s1.trans s2) R2 re2⟩
 | some x=>
  have hil:i<w.xs.length:=(List.getElem?_eq_some_iff.mp hx).1
  have hdrop:w.xs.drop i=x::w.xs.drop (i+1):=by
   rw [List.drop_eq_getElem_cons hil]
   have:=(List.getElem?_eq_some_iff.mp hx).2
   rw [this]
  rw [hdrop] at el
  simp only [loop] at el
  obtain ⟨go,yld⟩:=W1.go μ2 h2 H2 i x s2 R2 sy2 hx
  cases ef:bnd (zaE t x env2) (λσ'=>fb σ') h2 with
  | none=>rw [ef] at el;cases el
  | some p=>
   obtain ⟨⟨fl3,env3⟩,h3⟩:=p
   rw [ef] at el
   simp only [zaa] at ef
   obtain ⟨env4,h4,e4,e5⟩:=ef
   have:=zfH e4
   subst this
   refine .inr ⟨go,λσ' H'=>∃ m',m'<m/\∃ μ5 h5 env5,Stp μ1 h1 H1 μ5 h5 H'/\zaJ w.l h1 h5=true/\Rep X.K μ5 h5 H'/\RepE X.K μ5 h5 H' env5 σ'/\(i+1)+m'=w.xs.length ∧
    loop w.l (λx σ=>bnd (zaE t x σ) λσ'=>fb σ') (w.xs.drop (i+1)) env5 h5=some ((fl,env'),h'),λσ' H' hN=>hN,λv H' hy=>?_⟩
   obtain ⟨sy,Ry,zx⟩:=yld v H' hy
   refine ⟨μ2,_,env2,x,env4,Ry,re2.stp sy R2,zx,e4,λσ4 re4=>⟨μ2,_,env4,Ry,re4,fl3,env3,h3,e5,λμ5 H5 σ5 s5' R5 re5=>?_⟩⟩
   have s5:=sy.trans s5'
   cases fl3 with
   | nx=>
    simp only at el
    split at el
    ·rename_i sy5
     exact ⟨m-1,by omega,μ5,h3,env3,s2.trans s5,zbu sy2 sy5,R5,re5,by omega,el⟩
    ·cases el
   | cnt=>
    simp only at el
    split at el
    ·rename_i sy5
     exact ⟨m-1,by omega,μ5,h3,env3,s2.trans s5,zbu sy2 sy5,R5,re5,by omega,el⟩
    ·cases el
   | brk=>
    simp only [Option.some.injEq,Prod.mk.injEq] at el
    obtain ⟨⟨rfl,rfl⟩,rfl⟩:=el
    exact k μ5 H5 σ5 ((s1.trans s2).trans s5) R5 re5
   | ret r=>
    simp only [Option.some.injEq,Prod.mk.injEq] at el
    obtain ⟨⟨rfl,rfl⟩,rfl⟩:=el
    exact k μ5 H5 σ5 ((s1.trans s2).trans s5) R5 re5
end
end IT
set_option linter.all false
set_option maxHeartbeats 4000000
set_option maxRecDepth 100000
namespace PySem
section
variable {prog:Program} {w:World} {A:Around} {R:Result->Shared->Prop} {s:Shared}
theorem zgr {elt target iter:Expr} {ifs:List Expr} {scope:Scope} {pos:Pos} {it acc:Value} {env:Env} (I:Nat->Shared->Prop)
  (turn : ∀ n s,I n s->wpAny (model prog w) A (pyNext it) (λr s₁=>match r with
   | none=>R (.ok .next) s₁
   | some v=>wpAny (model prog w) A (letOwnedTupleGo target it v) (λ_ s₁'=>wpAny (model prog w) A (assign target env v) (λ_ s₂=>
     wpAny (model prog w) A (forIn ifs true λc r=>if r=true then do let ok<-isTrue c env (eval c env);pure (ForInStep.yield ok) else pure (ForInStep.yield r)) (λok s₃=>
      if ok=true then wpAny (model prog w) A (eval elt env) (λx s₄=>
       wpAny (model prog w) A (call (.builtin "list.append") [acc,x]) (λ_ s₅=>∃ m,m<n/\I m s₅) (λ_ _=>False) s₄) (λ_ _=>False) s₃
      else ∃ m,m<n/\I m s₃) (λ_ _=>False) s₂) (λ_ _=>False) s₁') (λ_ _=>False) s₁) (λ_ _=>False) s)
  (n:Nat) (h:I n s) :
  codeAny (model prog w) A (.compLoop (.ListComp elt [⟨target,iter,ifs,0⟩] scope pos) 0 it acc env) R s:=by
 refine codeAny_loop rfl I (λn s hI=>?_) n h
 show wpAny _ A ((compTurn (.ListComp elt [⟨target,iter,ifs,0⟩] scope pos) 0 it acc env).onRaise (λx=>do noteFrame x env;theTreesLotGoes x)) _ _ s
 refine wpAny_noted ?_
 rw [compTurn_list]
 refine wpAny_bind (wpAny_standAt (wpAny_bind (wpAny_mono (turn n s hI) (λr s₁ h₁=>?_) λ_ _ h'=>h'.elim)))
 cases r with
 | none=>exact wpAny_pure h₁
 | some v=>
  refine wpAny_bind (wpAny_mono h₁ (λ_ s₁' h₁'=>?_) λ_ _ h'=>h'.elim)
  refine wpAny_bind (wpAny_mono h₁' (λ_ s₂ h₂=>wpAny_bind (wpAny_mono h₂ (λok s₃ h₃=>?_) λ_ _ h'=>h'.elim)) λ_ _ h'=>h'.elim)
  cases ok with
  | false=>exact wpAny_pure ⟨rfl,h₃⟩
  | true=>
   exact wpAny_bind (wpAny_bind (wpAny_mono h₃ (λx s₄ h₄=>wpAny_bind (wpAny_mono h₄ (λ_ s₅ h₅=>wpAny_pure (wpAny_pure ⟨rfl,h₅⟩)) λ_ _ h'=>h'.elim)) λ_ _ h'=>h'.elim))
end
theorem zcm {scope:Scope} {env:Env} (h:∀ x∈scope.names,x.2=.free->∃ c,env.cells.lookup x.1=some c) :
  ∃ cl,closureFor scope env=pure cl/\(∀ x c,cl.lookup x=some c->env.cells.lookup x=some c)/\∀ x∈scope.names,x.2=.free->∃ c,cl.lookup x.1=some c:=by
 unfold closureFor
 have gen:∀ (l:List (Str×NameKind)) (cs:List (Str×Addr)),(∀ x∈l,x.2=.free->∃ c,env.cells.lookup x.1=some c)->(∀ x c,cs.lookup x=some c->env.cells.lookup x=some c) →
   ∃ cl,(forIn l cs λ(x:Str×NameKind) (r:List (Str×Addr))=>(if x.2==.free then do let c<-cellOf env x.1;pure (ForInStep.yield ((x.1,c)::r)) else pure (ForInStep.yield r):Sem (ForInStep (List (Str×Addr)))))=pure cl ∧
    (∀ x c,cl.lookup x=some c->env.cells.lookup x=some c)/\(∀ x c,cs.lookup x=some c->∃ c',cl.lookup x=some c')/\∀ x∈l,x.2=.free->∃ c,cl.lookup x.1=some c:=by
  intro l
  induction l with
  | nil=>intro cs _ h2;exact ⟨cs,rfl,h2,λx c e=>⟨c,e⟩,λx hx=>absurd hx (by simp)⟩
  | cons y l ih=>
   intro cs h1 h2
   by_cases hy:y.2=.free
   ·obtain ⟨c,hc⟩:=h1 y (by simp) hy
    have hcell:cellOf env y.1=pure c:=by unfold cellOf;rw [hc]
    obtain ⟨cl,e,a1,a2,a3⟩:=ih ((y.1,c)::cs) (λx hx=>h1 x (by simp [hx])) (λx c' e=>by
     rw [List.lookup_cons] at e
     split at e
     ·rename_i hb
      cases e
      rw [eq_of_beq hb]
      exact hc
     ·exact h2 x c' e)
    refine ⟨cl,?_,a1,λx c' e'=>?_,λx hx hf=>?_⟩
    ·rw [List.forIn_cons,if_pos (by rw [hy];rfl),hcell]
     exact e
    ·by_cases hb:(x==y.1)=true
     ·exact a2 x c (by rw [List.lookup_cons,hb])
     ·exact a2 x c' (by rw [List.lookup_cons];simp only [Bool.not_eq_true] at hb;rw [hb];exact e')
    ·rcases List.mem_cons.mp hx with rfl | hx
     ·exact a2 x.1 c (by rw [List.lookup_cons];simp)
     ·exact a3 x hx hf
   ·obtain ⟨cl,e,a1,a2,a3⟩:=ih cs (λx hx=>h1 x (by simp [hx])) h2
    refine ⟨cl,?_,a1,a2,λx hx hf=>?_⟩
    ·rw [List.forIn_cons,if_neg (by intro z;exact hy (eq_of_beq z))]
     exact e
    ·rcases List.mem_cons.mp hx with rfl | hx
     ·exact absurd hf hy
     ·exact a3 x hx hf
 obtain ⟨cl,e,a1,_,a3⟩:=gen scope.names [] h (λx c e=>by simp at e)
 refine ⟨cl,?_,a1,a3⟩
 show (forIn scope.names ([]:List (Str×Addr)) (λ(x:Str×NameKind) (r:List (Str×Addr))=>(if x.2==.free then do let c<-cellOf env x.1;pure (ForInStep.yield ((x.1,c)::r)) else pure (ForInStep.yield r):Sem (ForInStep (List (Str×Addr))))) >>= λcs=>pure cs)=pure cl
 rw [e]
 rfl
end PySem
set_option linter.all false
set_option maxHeartbeats 4000000
set_option maxRecDepth 100000
namespace IT
open PySem PySem.Spec L2
noncomputable def clrS:List Nat->St->St
 | [],σ=>σ
 | i::r,σ=>clrS r (σ.set i none)
theorem zeP:∀ (own:List Nat) (σ:St),(clrS own σ).length=σ.length
 | [],_=>rfl
 | i::r,σ=>by simp [clrS,zeP r]
theorem ze7:∀ (own:List Nat) (σ:St) (i:Nat) (v:V),(clrS own σ)[i]?=some (some v)->σ[i]?=some (some v)/\i ∉ own
 | [],σ,i,v,e=>⟨e,by simp⟩
 | j::r,σ,i,v,e=>by
  obtain ⟨e1,n1⟩:=ze7 r (σ.set j none) i v e
  by_cases hij:i=j
  ·subst hij
   rw [List.getElem?_set] at e1
   simp only [if_true] at e1
   split at e1<;>cases e1
  ·rw [List.getElem?_set_ne (Ne.symm hij)] at e1
   exact ⟨e1,by simp [hij,n1]⟩
noncomputable def blk (X:Cx) (N':List Str) (s₂:Shared) (H₂:Hp) (cenv:PySem.Env) (fp:List Addr) (pins:List (Addr×Obj)):Cx:=
 { X with N:=N',s₀:=s₂,H₀:=H₂,env:=cenv,outer:=X.stack,ex:=fp,fn:=λ_=>false,pn:=X.pn++pins }
noncomputable def PTs (X:Cx) (ifs:List Expr) (t:TT):Prop:=
 ∀ (pins:List (Addr×Obj)) (s:Shared) (σ:St) (H:Hp) (Q:Bool->Hp->Prop),Inv X pins σ H s->t σ H Q →
  wpAny (model X.prog X.w) X.A (forIn ifs true λc r=>if r=true then do let ok<-isTrue c X.env (eval c X.env);pure (ForInStep.yield ok) else pure (ForInStep.yield r)) (TP X pins σ Q) X.xe s
theorem zme {X:Cx}:PTs X [] (λ_ H Q=>Q true H):=λpins s σ H Q I q=>wpAny_tests_nil ⟨H,I,q⟩
theorem zl2 {X:Cx} {c:Expr} {t:TT} (h:PT X c t):PTs X [c] t:=λpins s σ H Q I q=>wpAny_tests_one (h pins s σ H Q I q)
noncomputable def zhx (wi:TI) (own:List Nat) (g:TG) (tc:TT) (te:TE):TE:=λσ H Q=>wi σ H λJ H1=>∃ W:Nat->Nat->List V->Hp->Prop,(∃ m,W 0 m [] H1)/\∀ i m vs H,W i m vs H →
 (J.stop i H/\vs.length<=sizeLine/\∀ a,H a=none->Q (.ref a) (upd H a (.lst vs))) ∨
 (J.go i H/\vs.length<sizeLine/\∀ x H',J.yld i H x H'->g x (clrS own σ) H' λσ2 H2=>tc σ2 H2 λb H3=>if b=true then te σ2 H3 λv H4=>∃ m',m'<m/\W (i+1) m' (vs++[v]) H4 else ∃ m',m'<m/\W (i+1) m' vs H3)
section
variable {X:Cx}
theorem zlr {scope:Scope} {cl:List (Str×Addr)} (hcell:∀ y∈scope.names,y.2≠.cell) (hcl2:∀ x∈scope.names,x.2=.free->∃ c,cl.lookup x.1=some c):∀ x,Vis (relabel scope X.env) x->(relabel scope X.env).names.lookup x≠some .local->∃ c,cl.lookup x=some c:=by
 intro x hv hnl
 have : ∀ (l:List (Str×NameKind)),(∀ y∈l,y.2≠.cell)->(∀ y∈l,y.2=.free->∃ c,cl.lookup y.1=some c)->∀ k,(k=.cell\/k=.free) →
   (l.map λ(n,k)=>if (k==NameKind.free&&X.env.scope.kind==.function&&X.env.kindOf n==some .cell) then (n,NameKind.cell) else (n,k)).lookup x=some k->∃ c,cl.lookup x=some c:=by
  intro l
  induction l with
  | nil=>intro _ _ k _ e;simp at e
  | cons y l ih=>
   intro h1 h2 k hkk e
   obtain ⟨n,kd⟩:=y
   rw [List.map_cons] at e
   by_cases hb:(kd==NameKind.free&&X.env.scope.kind==.function&&X.env.kindOf n==some .cell)=true
   ·simp only [hb,if_true] at e
    rw [List.lookup_cons] at e
    split at e
    ·rename_i hx
     rw [eq_of_beq hx]
     refine h2 (n,kd) (by simp) ?_
     rw [Bool.and_eq_true,Bool.and_eq_true] at hb
     exact eq_of_beq hb.1.1
    ·exact ih (λy hy=>h1 y (by simp [hy])) (λy hy=>h2 y (by simp [hy])) k hkk e
   ·simp only [hb] at e
    rw [List.lookup_cons] at e
    split at e
    ·rename_i hx
     have e':kd=k:=by simpa using e
     subst e'
     rw [eq_of_beq hx]
     rcases hkk with z | z
     ·exact absurd z (h1 (n,kd) (by simp))
     ·exact h2 (n,kd) (by simp) z
    ·exact ih (λy hy=>h1 y (by simp [hy])) (λy hy=>h2 y (by simp [hy])) k hkk e
 rcases hv with z | z | z
 ·exact absurd z hnl
 ·exact this scope.names hcell hcl2 .cell (.inl rfl) z
 ·exact this scope.names hcell hcl2 .free (.inr rfl) z
theorem zl3 {N':List Str} {own:List Nat} {scope:Scope} {cl:List (Str×Addr)} {pins:List (Addr×Obj)} {σ:St} {H₂:Hp} {s₂:Shared} {fp:List Addr} {h₄:Heap} {tk:Nat}
  (hkind:scope.kind=.function) (hcell:∀ y∈scope.names,y.2≠.cell)
  (hN:∀ (i:Nat) (x:Str),N'[i]?=some x->Vis (relabel scope X.env) x->i∈own\/(X.N[i]?=some x/\(X.env.kindOf x=some .cell\/X.env.kindOf x=some .free)/\(relabel scope X.env).names.lookup x≠some .local))
  (hlen:N'.length=X.N.length) (hcl1:∀ x c,cl.lookup x=some c->X.env.cells.lookup x=some c) (hcl2:∀ x∈scope.names,x.2=.free->∃ c,cl.lookup x.1=some c)
  (I:Inv X pins σ H₂ s₂) (hf:∀ b∈fp,FpOk X pins H₂ b) (hex:∀ b∈fp,b<s₂.heap.objs.size)
  (hk:∀ b o,s₂.heap.get? b=some o->h₄.get? b=some o) (hns:∃ m,h₄.Ns (s₂.heap.objs.size+1) m) (hacc:h₄.get? s₂.heap.objs.size=some { cls:=.type "list",data:=.seq #[] }) :
  Inv (blk X N' s₂ H₂ (compEnvC scope cl (s₂.heap.objs.size+1) X.env) fp pins) [(s₂.heap.objs.size,{ cls:=.type "list",data:=.seq #[] })] (clrS own σ) H₂ { s₂ with heap:=h₄,toks:=tk }:=by
 have fsub:∀ b∈frs X.stack,b=X.env.locals\/b∈X.fs:=λb hb=>List.mem_cons.mp (I.stkSub b hb)
 have fresh:∀ b,s₂.heap.objs.size<=b->H₂ b=none:=λb hb=>I.hok.fresh hb
 have flt:∀ b∈frs X.stack,b<s₂.heap.objs.size:=λb hb=>by
  obtain ⟨_,o,ho,_⟩:=I.stack.mem hb
  exact Heap.lt_size ho
 have vis_free:=zlr (X:=X) hcell hcl2
 refine ⟨⟨I.ok.mod,?_,I.ok.glob,I.ok.blt,Nat.le_succ _,λx y c e1 e2=>I.ok.inj x y c (hcl1 x c e1) (hcl1 y c e2),λx hx=>?_,λx c e=>absurd (show false=true from e) Bool.false_ne_true,I.ok.hd,I.ok.frames,.inl rfl,λb hb=>⟨?_,λx c e=>?_⟩,I.bs,Nat.le_trans I.ok.bsz I.sz,λb o e hb=>?_,λb hb hb2=>?_,I.stack,I.stkFree⟩,
  rfl,I.bare,Un.kept hk,?_,λx c e=>?_,fresh _ (Nat.le_succ _),λx c e=>I.freeC x c (hcl1 x c e),λp hp=>?_,I.hok.kept hk,?_⟩
 ·exact hkind
 ·rcases hx with z | z
  ·exact vis_free x (.inr (.inl z)) (by
    have z':(relabel scope X.env).names.lookup x=some .cell:=z
    rw [z'];decide)
  ·exact vis_free x (.inr (.inr z)) (by
    have z':(relabel scope X.env).names.lookup x=some .free:=z
    rw [z'];decide)
 ·exact Nat.ne_of_lt (Nat.lt_succ_of_lt (hex b hb))
 ·exact (hf b hb).2.2.2.2.1 x c (hcl1 x c e)
 ·rcases (hf b hb).2.2.2.1 with z | z
  ·exact I.ok.noex b o e z
  ·have h1:b<X.base.objs.size:=Heap.lt_size e
   have h2:=I.ok.bsz
   exact absurd (Nat.lt_of_lt_of_le h1 (Nat.le_trans h2 z)) (Nat.lt_irrefl _)
 ·rcases fsub b hb2 with z | z
  ·exact (hf b hb).2.1 z
  ·exact (hf b hb).2.2.1 z
 ·obtain ⟨m,hm⟩:=hns
  obtain ⟨mX,_,hl⟩:=I.loc
  refine ⟨m,hm,λi x v e1 e2 e3=>?_⟩
  obtain ⟨e2',ni⟩:=ze7 own σ i v e2
  rcases hN i x e1 e3 with z | ⟨z,zk,nl⟩
  ·exact absurd z ni
  ·have vx:Vis X.env.scope x:=by
    rcases zk with q | q
    ·exact .inr (.inl q)
    ·exact .inr (.inr q)
   obtain ⟨u,ru,lk⟩:=hl i x v z e2' vx
   refine ⟨u,ru,?_⟩
   rcases lk with ⟨q,_⟩ | ⟨_,c,ec,hcv⟩
   ·rcases zk with q' | q'
    ·rw [q] at q';cases q'
    ·rw [q] at q';cases q'
   ·obtain ⟨c',ec'⟩:=vis_free x e3 nl
    have:=hcl1 x c' ec'
    rw [ec] at this
    cases this
    refine .inr ⟨?_,c,ec',hcv.keeps hk⟩
    rcases e3 with q | q | q
    ·exact absurd q nl
    ·exact .inl q
    ·exact .inr q
 ·obtain ⟨v,q⟩:=I.cell x c (hcl1 x c e)
  exact ⟨v,q.keeps hk⟩
 ·rcases List.mem_append.mp hp with z | z
  ·obtain ⟨e1,e2,e3,e4,e5⟩:=I.pin p z
   refine ⟨hk _ _ e1,e2,Nat.ne_of_lt (Nat.lt_succ_of_lt (Heap.lt_size e1)),λhb=>?_,e5⟩
   rcases fsub p.1 hb with q | q
   ·exact e3 q
   ·exact e4 q
  ·have ep:p=(s₂.heap.objs.size,({ cls:=.type "list",data:=.seq #[] }:Obj)):=by simpa using z
   subst ep
   exact ⟨hacc,fresh _ (Nat.le_refl _),Nat.ne_of_lt (Nat.lt_succ_self _),λhb=>absurd (flt _ hb) (Nat.lt_irrefl _),λv q=>by cases q⟩
 ·show (clrS own σ).length=N'.length
  rw [zeP,hlen]
  exact I.len
theorem zf3 {N':List Str} {own:List Nat} {scope:Scope} {cl:List (Str×Addr)} {C:Addr} {pins pl:List (Addr×Obj)} {σ σ':St} {H₂ H':Hp} {s₂ s':Shared} {fp:List Addr}
  (hcell:∀ y∈scope.names,y.2≠.cell)
  (hN:∀ (i:Nat) (x:Str),N'[i]?=some x->Vis (relabel scope X.env) x->i∈own\/(X.N[i]?=some x/\(X.env.kindOf x=some .cell\/X.env.kindOf x=some .free)/\(relabel scope X.env).names.lookup x≠some .local))
  (hlen:N'.length=X.N.length) (hcl1:∀ x c,cl.lookup x=some c->X.env.cells.lookup x=some c) (hcl2:∀ x∈scope.names,x.2=.free->∃ c,cl.lookup x.1=some c)
  (I:Inv X pins σ H₂ s₂) (hf:∀ b∈fp,FpOk X pins H₂ b) (J:Inv (blk X N' s₂ H₂ (compEnvC scope cl C X.env) fp pins) pl σ' H' s'):Inv (blk X N' s₂ H₂ (compEnvC scope cl C X.env) fp pins) pl (clrS own σ) H' s':=by
 refine ⟨J.ok,J.os,J.bare,J.base,?_,J.cell,J.free,J.freeC,J.pin,J.hok,?_⟩
 ·obtain ⟨m,hm,_⟩:=J.loc
  obtain ⟨mX,_,hl⟩:=I.loc
  refine ⟨m,hm,λi x v e1 e2 e3=>?_⟩
  obtain ⟨e2',ni⟩:=ze7 own σ i v e2
  rcases hN i x e1 e3 with z | ⟨z,zk,nl⟩
  ·exact absurd z ni
  ·have vx:Vis X.env.scope x:=by
    rcases zk with q | q
    ·exact .inr (.inl q)
    ·exact .inr (.inr q)
   obtain ⟨u,ru,lk⟩:=hl i x v z e2' vx
   refine ⟨u,ru,?_⟩
   rcases lk with ⟨q,_⟩ | ⟨_,c,ec,o,ho,hd⟩
   ·rcases zk with q' | q'
    ·rw [q] at q';cases q'
    ·rw [q] at q';cases q'
   ·obtain ⟨c',ec'⟩:=zlr (X:=X) hcell hcl2 x e3 nl
    have:=hcl1 x c' ec'
    rw [ec] at this
    cases this
    have hcv:s'.heap.IsCell c (some u):=by
     obtain ⟨sl,q⟩:=J.base.any ho (I.freeC x c ec) λhb=>(hf c hb).2.2.2.2.1 x c ec rfl
     exact ⟨_,q,hd⟩
    refine .inr ⟨?_,c,ec',hcv⟩
    rcases e3 with q | q | q
    ·exact absurd q nl
    ·exact .inl q
    ·exact .inr q
 ·show (clrS own σ).length=N'.length
  rw [zeP,hlen]
  exact I.len
theorem zk0 {N':List Str} {cenv:PySem.Env} {pins pl:List (Addr×Obj)} {σ σ':St} {H₂ H':Hp} {s₂ s':Shared} {fp:List Addr} {acc:Addr} {its:List Value} {n:Nat} {vs:List V}
  (I:Inv X pins σ H₂ s₂) (hf:∀ b∈fp,FpOk X pins H₂ b) (J:Inv (blk X N' s₂ H₂ cenv fp pins) pl σ' H' s') (hacc:s₂.heap.objs.size<=acc) (hn:H' acc=none)
  (ho:s'.heap.get? acc=some { cls:=.type "list",data:=.seq its.toArray n }) (r:Vals vs its) (hz:vs.length<=sizeLine):Inv X pins σ (upd H' acc (.lst vs)) s':=by
 have lt:∀ b o,s₂.heap.get? b=some o->b≠acc:=λb o e z=>absurd (Nat.lt_of_lt_of_le (Heap.lt_size e) (by rw [z];exact hacc)) (Nat.lt_irrefl _)
 refine I.call' (ch:=fp) J.os ⟨J.base.keep,J.base.slot,λb o e n hx=>?_,J.base.there,λb xs e=>?_,λb o u e=>?_,λb ps e=>?_⟩ (λb u e=>?_) J.bare (λb hb=>?_)
 ·rw [zak (lt b o e)]
  exact J.base.free b o e n hx
 ·have:=J.base.tups b xs e
  rw [zak (zao this hn)]
  exact this
 ·have:=J.base.frzs b o u e
  rw [zak (zao this hn)]
  exact this
 ·obtain ⟨more,this⟩:=J.base.tbls b ps e
  refine ⟨more,?_⟩
  rw [zak (zao this hn)]
  exact this
 ·by_cases hb:b=acc
  ·subst hb
   rw [zaj] at e
   cases e
   exact ⟨hz,its,n,r,ho⟩
  ·rw [zak hb] at e
   exact (J.hok b u e).stay (λc o _ q=>q) (λc q=>by rw [zak (zao q hn)];exact q) λc xs q=>by rw [zak (zao q hn)];exact q
 ·obtain ⟨_,h1,_,h3,h4,h5⟩:=hf b hb
  exact ⟨h3,h1,h4,h5⟩
end
end IT
set_option linter.all false
set_option maxHeartbeats 4000000
set_option maxRecDepth 100000
namespace IT
open PySem PySem.Spec L2
section
variable {X:Cx}
structure Gone (X:Cx) (pins:List (Addr×Obj)) (H:Hp) (C:Addr) (s:Shared):Prop where
 ns:∃ m,s.heap.Ns C m
 free:H C=none
 loc:C≠X.env.locals
 fs:C ∉ X.fs
 new:X.s₀.heap.objs.size<=C
 cel:∀ x c,X.env.cells.lookup x=some c->c≠C
 pin:∀ p∈X.pn++pins,p.1≠C
theorem zfW {elt iter tg:Expr} {ifs:List Expr} {scope:Scope} {pos:Pos} {N':List Str} {own:List Nat} {wi:TI} {g:TG} {tc:TT} {te:TE} {pins:List (Addr×Obj)} {s:Shared} {σ:St} {H:Hp} {Q:VK}
  {cl:List (Str×Addr)} {RR:Value->Addr->Result->Shared->Prop}
  (hx:X.xe=λ_ _=>False) (hc:X.calm=true) (hkind:scope.kind=.function) (hcell:∀ y∈scope.names,y.2≠.cell)
  (hN:∀ (i:Nat) (x:Str),N'[i]?=some x->Vis (relabel scope X.env) x->i∈own\/(X.N[i]?=some x/\(X.env.kindOf x=some .cell\/X.env.kindOf x=some .free)/\(relabel scope X.env).names.lookup x≠some .local))
  (hlen:N'.length=X.N.length) (hcl1:∀ x c,cl.lookup x=some c->X.env.cells.lookup x=some c) (hcl2:∀ x∈scope.names,x.2=.free->∃ c,cl.lookup x.1=some c)
  (hi:PI X tg iter wi)
  (hB:∀ s₂ H₂ C fp,PG (blk X N' s₂ H₂ (compEnvC scope cl C X.env) fp pins) tg g/\PTs (blk X N' s₂ H₂ (compEnvC scope cl C X.env) fp pins) ifs tc/\PE (blk X N' s₂ H₂ (compEnvC scope cl C X.env) fp pins) elt te)
  (I:Inv X pins σ H s) (q:zhx wi own g tc te σ H Q)
  (hRR:∀ a C s' H',Inv X pins σ H' s'->Q (.ref a) H'->Gone X pins H' C s'->RR (.ref a) C (.ok .next) s') :
  wpAny (model X.prog X.w) X.A (eval iter X.env) (λx s₁=>wpAny (model X.prog X.w) X.A (pyIter x) (λit s₂=>wpAny (model X.prog X.w) X.A (newList []) (λacc s₃=>
   wpAny (model X.prog X.w) X.A (newFunctionEnv scope X.env.globals cl [] X.env.qual none .none (some X.env)) (λcenv s₄=>
    codeAny (model X.prog X.w) X.A (.compStart (.ListComp elt [⟨tg,iter,ifs,0⟩] scope pos) 0 it acc { cenv with scope:=relabel scope X.env }) (RR acc cenv.locals) s₄) X.xe s₃) X.xe s₂) X.xe s₁) X.xe s:=by
 refine thn (hi pins s σ H _ I q) λv s1 h1=>thn h1 λitv s2 h2=>?_
 obtain ⟨it,fp,tn,J,H2,e,I2,T,st2,f2,W,⟨m0,w0⟩,turn⟩:=h2
 subst e
 refine wpAny_newObj_type (wpAny_newFunctionEnv hcell (by intro y hy;simp at hy) (λh₁ hns₁ hsb₁=>?_) hkind)
 dsimp only at hns₁ hsb₁ ⊢
 generalize hG:s2.heap.push { cls:=.type "list",dict:=none,data:=.seq ([]:List Value).toArray }=G at hns₁ hsb₁ ⊢
 have hGs:G.objs.size=s2.heap.objs.size+1:=by rw [<-hG,Heap.size_push]
 rw [hGs] at hns₁ hsb₁ ⊢
 have hold:∀ b o,s2.heap.get? b=some o->h₁.get? b=some o:=λb o e=>hsb₁.extBut b o (Nat.ne_of_lt (Nat.lt_succ_of_lt (Heap.lt_size e))) (Heap.get?_push_of_some _ (hG▸Heap.get?_push_of_some _ e))
 have hacc:h₁.get? s2.heap.objs.size=some { cls:=.type "list",data:=.seq #[] }:=hsb₁.extBut _ _ (Nat.ne_of_lt (Nat.lt_succ_self _)) (Heap.get?_push_of_some _ (hG▸Heap.get?_push_size _ rfl))
 have hex:∀ b∈fp,b<s2.heap.objs.size:=λb hb=>by
  obtain ⟨o,ho,_⟩:=T.obj _ _ st2 b hb
  exact Heap.lt_size ho
 have J0:=zl3 (X:=X) (own:=own) (tk:=s2.toks+([]:List (Str×Value)).length) hkind hcell hN hlen hcl1 hcl2 I2 f2 hex hold ⟨_,hns₁⟩ hacc
 have st4:tn 0 h₁:=T.keep _ _ _ st2 λb hb o e=>hold b o e
 have frame:∀ b∈frs X.stack,b≠X.env.locals->b∈X.fs:=λb hb hne=>by
  rcases List.mem_cons.mp (I2.stkSub b hb) with z | z
  ·exact absurd z hne
  ·exact z
 have stat:∀ {H':Hp} {pl:List (Addr×Obj)},(∀ b∈fp,H' b=none)->(∀ p∈pl,∀ b∈fp,p.1≠b)->∀ b∈fp,FpOk (blk X N' s2 H2 (compEnvC scope cl (s2.heap.objs.size+1) X.env) fp pins) pl H' b:=by
  intro H' pl hn hp b hb
  obtain ⟨g0,g1,g2,g3,g4,g5⟩:=f2 b hb
  refine ⟨hn b hb,Nat.ne_of_lt (Nat.lt_succ_of_lt (hex b hb)),λhs=>?_,.inl hb,λx c e=>g4 x c (hcl1 x c e),λp hpp=>?_⟩
  ·exact g2 (frame b hs g1)
  ·rcases List.mem_append.mp hpp with z | z
   ·exact g5 p z
   ·exact hp p z b hb
 have accne:∀ b∈fp,s2.heap.objs.size≠b:=λb hb z=>absurd (hex b hb) (by rw [<-z];exact Nat.lt_irrefl _)
 have loop:codeAny (model X.prog X.w) X.A (.compLoop (.ListComp elt [⟨tg,iter,ifs,0⟩] scope pos) 0 (.ref it) (.ref s2.heap.objs.size) (compEnvC scope cl (s2.heap.objs.size+1) X.env)) (RR (.ref s2.heap.objs.size) (s2.heap.objs.size+1))
   { s2 with heap:=h₁,toks:=s2.toks+([]:List (Str×Value)).length }:=by
  refine zgr (λn s'=>∃ (i:Nat) (vs:List V) (H':Hp) (its:List Value) (nn:Nat),Inv (blk X N' s2 H2 (compEnvC scope cl (s2.heap.objs.size+1) X.env) fp pins) [(s2.heap.objs.size,{ cls:=.type "list",data:=.seq its.toArray nn })] (clrS own σ) H' s'/\tn i s'.heap ∧
    (∀ b∈fp,H' b=none)/\Vals vs its/\W i n vs H') ?_ m0 ⟨0,[],H2,[],0,J0,st4,λb hb=>(f2 b hb).1,.nil,w0⟩
  rintro n s3 ⟨i,vs,H3,its,nn,J3,st3,fr3,rv,w3⟩
  have pne:∀ p∈[(s2.heap.objs.size,({ cls:=.type "list",data:=.seq its.toArray nn }:Obj))],∀ b∈fp,p.1≠b:=by
   intro p hp b hb
   have ep:p=(s2.heap.objs.size,({ cls:=.type "list",data:=.seq its.toArray nn }:Obj)):=by simpa using hp
   rw [ep]
   exact accne b hb
  rcases turn i n vs H3 w3 with ⟨stop,hz,qn⟩ | ⟨go,hz,step⟩
  ·refine wpAny_mono (T.done (blk X N' s2 H2 (compEnvC scope cl (s2.heap.objs.size+1) X.env) fp pins) rfl rfl rfl hc i _ s3 _ H3 (λ_ _=>False) J3 (stat fr3 pne) st3 stop) (λr s4 ⟨hr,I4⟩=>?_) λ_ _ z=>z
   subst hr
   obtain ⟨ea,na,_,_,_⟩:=I4.pin (s2.heap.objs.size,_) (List.mem_append_right _ (List.mem_singleton.mpr rfl))
   have I5:=zk0 (X:=X) I2 f2 I4 (Nat.le_refl _) na ea rv hz
   obtain ⟨m,hm,_⟩:=I4.loc
   refine hRR _ _ s4 _ I5 (qn _ na) ⟨⟨m,hm⟩,?_,?_,λhb=>?_,?_,λx c e=>?_,λp hp=>?_⟩
   ·rw [zak (Nat.ne_of_gt (Nat.lt_succ_self _))]
    exact I4.free
   ·exact Nat.ne_of_gt (Nat.lt_succ_of_lt I2.lt)
   ·exact I2.nofs (Nat.le_succ _) hb
   ·exact Nat.le_trans I2.sz (Nat.le_succ _)
   ·obtain ⟨v,z⟩:=I2.cell x c e
    exact Nat.ne_of_lt (Nat.lt_succ_of_lt z.lt)
   ·exact Nat.ne_of_lt (Nat.lt_succ_of_lt (Heap.lt_size (I2.pin p hp).1))
  ·refine wpAny_mono (T.item (blk X N' s2 H2 (compEnvC scope cl (s2.heap.objs.size+1) X.env) fp pins) rfl rfl rfl hc i _ s3 _ H3 (λ_ _=>False) J3 (stat fr3 pne) st3 go) (λr s4 ⟨u,hr,h4⟩=>?_) λ_ _ z=>z
   subst hr
   refine wpAny_mono h4 (λ_ s5 ⟨x,H5,I5,r5,y5,st5,fr5⟩=>?_) λ_ _ z=>z
   have I5':=I5.pinned (stat fr5 pne) (T.obj _ _ st5)
   obtain ⟨hg,ht,he⟩:=hB s2 H2 (s2.heap.objs.size+1) fp
   have nx:∀ {e:Value} {s:Shared},(blk X N' s2 H2 (compEnvC scope cl (s2.heap.objs.size+1) X.env) fp pins).xe e s->False:=λz=>by
    have z':X.xe _ _:=z
    rw [hx] at z'
    exact z'
   refine wpAny_mono (hg _ s5 _ H5 x u _ I5' r5 (step x H5 y5)) (λ_ s6 ⟨σ6,H6,I6,q6⟩=>?_) λ_ _ z=>nx z
   refine wpAny_mono (ht _ s6 σ6 H6 _ I6 q6) (λok s7 ⟨H7,I7,q7⟩=>?_) λ_ _ z=>nx z
   have keepIt:∀ {σ8:St} {H8:Hp} {s8:Shared},Inv (blk X N' s2 H2 (compEnvC scope cl (s2.heap.objs.size+1) X.env) fp pins) ([(s2.heap.objs.size,({ cls:=.type "list",data:=.seq its.toArray nn }:Obj))]++zf0 fp s5.heap) σ8 H8 s8 →
     tn (i+1) s8.heap/\∀ b∈fp,H8 b=none:=λ{σ8 H8 s8} I8=>by
    refine ⟨T.keep _ _ _ st5 λb hb o e=>(I8.pin (b,o) (List.mem_append_right _ (List.mem_append_right _ (zbY hb e)))).1,λb hb=>?_⟩
    obtain ⟨o,e,d⟩:=T.obj _ _ st5 b hb
    exact (I8.pin (b,o) (List.mem_append_right _ (List.mem_append_right _ (zbY hb e)))).2.1
   cases ok with
   | false=>
    simp only [Bool.false_eq_true,if_false] at q7 ⊢
    obtain ⟨m',hm',w7⟩:=q7
    obtain ⟨k1,k2⟩:=keepIt I7
    exact ⟨m',hm',i+1,vs,H7,its,nn,zf3 hcell hN hlen hcl1 hcl2 I2 f2 I7.unpinned,k1,k2,rv,w7⟩
   | true=>
    simp only [if_true] at q7 ⊢
    refine wpAny_mono (he _ s7 σ6 H7 _ I7 q7) (λy s8 ⟨vy,H8,I8,r8,m',hm',w8⟩=>?_) λ_ _ z=>nx z
    obtain ⟨k1,k2⟩:=keepIt I8
    obtain ⟨ea,na,nl,nf,nd⟩:=I8.unpinned.pin (s2.heap.objs.size,_) (List.mem_append_right _ (List.mem_singleton.mpr rfl))
    have hl:=rv.length
    refine call_meets F.slot_list_append ⟨_,ea,rfl⟩ F.entry_list_append (F.args_list_append_2 _ _) (PySem.list_append s2.heap.objs.size its.toArray nn y (by rw [List.size_toArray];omega)) ⟨ea,?_⟩
    have J8:=zf3 hcell hN hlen hcl1 hcl2 I2 f2 (I8.unpinned)
    have J8':Inv (blk X N' s2 H2 (compEnvC scope cl (s2.heap.objs.size+1) X.env) fp pins) [] (clrS own σ) H8 s8:=J8.pins_of λp hp=>absurd hp (by simp)
    have up:=Heap.get?_update_self (Obj.mapSeq λx_1=>x_1.push y) ea rfl
    obtain ⟨n',en⟩:∃ n',Obj.mapSeq (λx_1=>x_1.push y) ({ cls:=.type "list",data:=.seq its.toArray nn }:Obj)={ cls:=.type "list",data:=.seq (its.toArray.push y) n' }:=⟨_,rfl⟩
    have J9:=J8'.turned (t':=s8.toks) (it:=s2.heap.objs.size) (h':=s8.heap.update s2.heap.objs.size (Obj.mapSeq λx_1=>x_1.push y)) (λb o hb e=>(Heap.get?_update_other _ _ (Ne.symm hb)).trans e) na nl (.inr (Nat.le_refl _))
     (fun x c e=>by
      obtain ⟨v,z⟩:=I2.cell x c (hcl1 x c e)
      exact Nat.ne_of_lt z.lt)
     (fun p hp=>by
      have hp':p∈X.pn++pins:=by simpa [blk] using hp
      exact Nat.ne_of_lt (Heap.lt_size (I2.pin p hp').1))
    refine ⟨m',hm',i+1,vs++[vy],H8,its++[y],n',?_,T.keep _ _ _ k1 λb hb o e=>(Heap.get?_update_other _ _ (accne b hb)).trans e,k2,rv.append (.cons r8 .nil),w8⟩
    refine J9.pins_of λp hp=>?_
    have ep:p=(s2.heap.objs.size,({ cls:=.type "list",data:=.seq (its++[y]).toArray n' }:Obj)):=by simpa using hp
    subst ep
    refine ⟨?_,na,nl,nf,λv q=>by cases q⟩
    show (s8.heap.update s2.heap.objs.size (Obj.mapSeq λx_1=>x_1.push y)).get? s2.heap.objs.size=_
    rw [up]
    show some (Obj.mapSeq (λx_1=>x_1.push y) ({ cls:=.type "list",data:=.seq its.toArray nn }:Obj))=_
    rw [en]
    simp
 exact codeAny_compStart_list loop (T.self _ 0 _ _ _ st4 loop)
end
end IT
set_option linter.all false
set_option maxHeartbeats 4000000
set_option maxRecDepth 100000
namespace IT
open PySem PySem.Spec L2
section
variable {X:Cx}
structure zgN (X:Cx) (scope:Scope) (N':List Str) (own:List Nat):Prop where
 kind:scope.kind=.function
 cell:∀ y∈scope.names,y.2≠.cell
 names:∀ x∈scope.names,x.2=.local->scope.names.lookup x.1=some .local
 free:∀ x∈scope.names,x.2=.free->X.env.kindOf x.1=some .cell\/X.env.kindOf x.1=some .free
 slots:∀ (i:Nat) (x:Str),N'[i]?=some x->Vis (relabel scope X.env) x->i∈own\/(X.N[i]?=some x/\(X.env.kindOf x=some .cell\/X.env.kindOf x=some .free)/\(relabel scope X.env).names.lookup x≠some .local)
 len:N'.length=X.N.length
theorem Gone.turned {pins:List (Addr×Obj)} {σ:St} {H:Hp} {C:Addr} {s:Shared} {h':Heap} (g:Gone X pins H C s) (I:Inv X pins σ H s) (sb:Heap.SameBut C s.heap h'):Inv X pins σ H { s with heap:=h' }:=
 I.turned (t':=s.toks) (λb o hb e=>(sb.2 b hb).trans e) g.free g.loc (.inr g.new) g.cel g.pin
theorem znm {elt iter tg:Expr} {ifs:List Expr} {scope:Scope} {pos:Pos} {N':List Str} {own:List Nat} {wi:TI} {g:TG} {tc:TT} {te:TE}
  (hx:X.xe=λ_ _=>False) (hc:X.calm=true) (K:zgN X scope N' own) (hi:PI X tg iter wi)
  (hB:∀ cl pins s₂ H₂ C fp,PG (blk X N' s₂ H₂ (compEnvC scope cl C X.env) fp pins) tg g/\PTs (blk X N' s₂ H₂ (compEnvC scope cl C X.env) fp pins) ifs tc/\PE (blk X N' s₂ H₂ (compEnvC scope cl C X.env) fp pins) elt te)
  (hs:∀ x,foldedSetIterable iter X.env x=pure x):PE X (.ListComp elt [⟨tg,iter,ifs,0⟩] scope pos) (zhx wi own g tc te):=by
 intro pins s σ H Q I q
 obtain ⟨cl,hclos,hcl1,hcl2⟩:=zcm (scope:=scope) (env:=X.env) (λx hx hf=>I.ok.has x.1 (K.free x hx hf))
 rw [eval_ListComp]
 refine wpAny_comprehension_free (use:=none) rfl hs hclos K.kind K.names (zfW hx hc K.kind K.cell K.slots K.len hcl1 hcl2 hi (hB cl pins) I q ?_)
 intro a C s' H' I' q' gn
 obtain ⟨m,hm⟩:=gn.ns
 exact ⟨m,hm,λh' sb=>⟨.ref a,H',gn.turned I' sb,rfl,q'⟩⟩
theorem zgz {elt iter tg:Expr} {ifs:List Expr} {scope:Scope} {pos spos py:Pos} {y:Str} {iy:Nat} {N':List Str} {own:List Nat} {wi:TI} {g:TG} {tc:TT} {te:TE}
  (hx:X.xe=λ_ _=>False) (hc:X.calm=true) (K:zgN X scope N' own) (hi:PI X tg iter wi)
  (hB:∀ cl pins s₂ H₂ C fp,PG (blk X N' s₂ H₂ (compEnvC scope cl C X.env) fp pins) tg g/\PTs (blk X N' s₂ H₂ (compEnvC scope cl C X.env) fp pins) ifs tc/\PE (blk X N' s₂ H₂ (compEnvC scope cl C X.env) fp pins) elt te)
  (hs:∀ x,foldedSetIterable iter X.env x=pure x) (hsw:swapsWith (.ListComp elt [⟨tg,iter,ifs,0⟩] scope pos) (some (.Name y py)) spos.line X.env=pure true)
  (hg:PG X (.Name y py) (zkR iy)):PS X (.Assign [.Name y py] (.ListComp elt [⟨tg,iter,ifs,0⟩] scope pos) spos) (tAsg (zhx wi own g tc te) (zkR iy)):=by
 intro pins s σ H D I q
 obtain ⟨cl,hclos,hcl1,hcl2⟩:=zcm (scope:=scope) (env:=X.env) (λx hx hf=>I.ok.has x.1 (K.free x hx hf))
 rw [exec_Assign_Name_used _ _ _ _ hsw]
 refine wpAny_bind (wpAny_standAt (wpAny_bind ?_))
 show wpAny _ X.A (do let _<-comprehension (.ListComp elt [⟨tg,iter,ifs,0⟩] scope pos) scope X.env _ (newList []) false (eval iter X.env) (some (assign (.Name y py) X.env))) _ _ s
 refine wpAny_bind (wpAny_mono (wpAny_comprehension_free (use:=some (assign (.Name y py) X.env)) (Q:=λ_ s'=>SP X pins D .next s') rfl hs hclos K.kind K.names
  (zfW hx hc K.kind K.cell K.slots K.len hcl1 hcl2 hi (hB cl pins) I q ?_)) (λ_ s' hq=>wpAny_pure (wpAny_pure hq)) λ_ _ e=>e)
 intro a C s' H' I' q' gn
 obtain ⟨m,o,es,ep,ho,hd,hr⟩:=id gn.ns
 have Ip:Inv X (pins++[(C,o)]) σ H' s':=I'.pins_of λp hp=>(List.mem_append.mp hp).elim (λz=>I'.pin p (List.mem_append_right _ z)) λz=>by
  have ep:p=(C,o):=by simpa using z
  subst ep
  exact ⟨ho,gn.free,gn.loc,gn.fs,λv z=>by rw [hd] at z;cases z⟩
 refine thn (hg _ s' σ H' (.ref a) (.ref a) _ Ip rfl q') λ_ s'' ⟨σ2,H2,I2,q2⟩=>?_
 obtain ⟨e1,e2,_,_,_⟩:=I2.pin (C,o) (List.mem_append_right _ (List.mem_append_right _ (List.mem_singleton.mpr rfl)))
 have gn2:Gone X pins H2 C s'':=⟨⟨m,o,es,ep,e1,hd,hr⟩,e2,gn.loc,gn.fs,gn.new,gn.cel,gn.pin⟩
 exact ⟨m,⟨o,es,ep,e1,hd,hr⟩,λh' sb=>⟨σ2,H2,gn2.turned I2.unpinned sb,q2⟩⟩
theorem RepE.clr {K:PySem.W.Frag} {μ:List Addr} {h:Sto} {H:Hp}:∀ (own:List Nat) {env:IT.Env} {σ:St},RepE K μ h H env σ->RepE K μ h H (clr own env) (clrS own σ)
 | [],env,σ,q=>q
 | i::r,env,σ,q=>by
  refine RepE.clr r ⟨by simp [q.len],λj rr e=>?_⟩
  by_cases hj:j=i
  ·subst hj
   rw [List.getElem?_set] at e
   simp only [if_true] at e
   split at e<;>cases e
  ·rw [List.getElem?_set_ne (Ne.symm hj)] at e ⊢
   exact q.get j rr e
structure ElK {α:Type} (K:PySem.W.Frag) (kp:R->M α) (Rel:List Addr->Sto->Hp->α->V->Prop):Prop where
 kp:∀ {μ h H r v d h'},Rep K μ h H->RepR K μ h H r v->kp r h=some (d,h')->Stp μ h H μ h' H/\Rep K μ h' H/\Rel μ h' H d v
 stp:∀ {μ h H μ' h' H' d v},Stp μ h H μ' h' H'->Rep K μ h H->Rel μ h H d v->Rel μ' h' H' d v
noncomputable def zf7 {α:Type} (kp:R->M α) (t:Tg) (ft:IT.Env->M Bool) (fe:IT.Env->M R) (σ:IT.Env) (x:Ite):M (Option α):=
 bnd (zaE t x (clr t.slots σ)) λσ'=>bnd (ft σ') λb=>if b then bnd (fe σ') λr=>bnd (kp r) λd=>ok (some d) else ok none
noncomputable def tLsG {α:Type} (K:PySem.W.Frag) (Rel:List Addr->Sto->Hp->α->V->Prop) (f:IT.Env->M (List α)):TE:=λσ H Q=>∃ μ h env,Rep K μ h H/\RepE K μ h H env σ/\∃ xs h',f env h=some (xs,h') ∧
 ∀ μ' H' a vs,Stp μ h H μ' h' H'->Rep K μ' h' H'->Paired (Rel μ' h' H') xs vs->H' a=none->Q (.ref a) (upd H' a (.lst vs))
theorem zea {α β:Type} {F:α->β->Prop}:∀ {xs xs':List α} {ys ys':List β},Paired F xs ys->Paired F xs' ys'->Paired F (xs++xs') (ys++ys')
 | _,_,_,_,.nil,q=>q
 | _,_,_,_,.cons r t,q=>.cons r (zea t q)
theorem zh1 {α:Type} {K:PySem.W.Frag} {kp:R->M α} {Rel:List Addr->Sto->Hp->α->V->Prop} (el:ElK K kp Rel) {t:Tg} {fi:IT.Env->M Wk} {ft:IT.Env->M Bool} {fe:IT.Env->M R} (hwl:∀ σ h w h',fi σ h=some (w,h')->WlOk w h') {σ:St} {H:Hp} {Q:VK}
  (q:tLsG K Rel (λσ=>bnd (fi σ) λw=>zbN w.l (zf7 kp t ft fe σ) w.xs) σ H Q):zhx (tI K fi) t.slots (tGI K t) (tTv K ft) (tE K fe) σ H Q:=by
 obtain ⟨μ,h,env,R0,re,zs,h',e,k⟩:=q
 simp only [zaa] at e
 obtain ⟨w,h1,e1,e2⟩:=e
 refine ⟨μ,h,env,R0,re,w,h1,e1,λμ1 H1 J s1 R1 W1 hz=>?_⟩
 refine ⟨λi m vs H2=>∃ μ2 h2 ys rest,Stp μ1 h1 H1 μ2 h2 H2/\zaJ w.l h1 h2=true/\Rep K μ2 h2 H2/\Paired (Rel μ2 h2 H2) ys vs/\i+m=w.xs.length/\ys.length<=i ∧
   zbN w.l (zf7 kp t ft fe env) (w.xs.drop i) h2=some (rest,h')/\ys++rest=zs,⟨w.xs.length,μ1,h1,[],zs,Stp.refl,zem _ _ (hwl _ _ _ _ e1),R1,.nil,by omega,Nat.le_refl _,by rw [List.drop_zero];exact e2,rfl⟩,?_⟩
 rintro i m vs H2 ⟨μ2,h2,ys,rest,s2,sy2,R2,zy,him,hyl,el',eys⟩
 have hl:=zy.length
 cases hxx:w.xs[i]? with
 | none=>
  have hi':w.xs.length<=i:=by simpa using hxx
  have hi2:i=w.xs.length:=by omega
  subst hi2
  rw [List.drop_of_length_le (Nat.le_refl _)] at el'
  simp only [zbN,zab] at el'
  obtain ⟨rfl,rfl⟩:=el'
  rw [List.append_nil] at eys
  subst eys
  exact .inl ⟨W1.stop μ2 h2 H2 s2 R2 sy2,by omega,λa ha=>k μ2 H2 a vs (s1.trans s2) R2 zy ha⟩
 | some x=>
  have hil:i<w.xs.length:=(List.getElem?_eq_some_iff.mp hxx).1
  have hdrop:w.xs.drop i=x::w.xs.drop (i+1):=by
   rw [List.drop_eq_getElem_cons hil]
   have:=(List.getElem?_eq_some_iff.mp hxx).2
   rw [this]
  rw [hdrop] at el'
  simp only [zbN] at el'
  obtain ⟨go,yld⟩:=W1.go μ2 h2 H2 i x s2 R2 sy2 hxx
  cases ef:zf7 kp t ft fe env x h2 with
  | none=>rw [ef] at el';cases el'
  | some p=>
   obtain ⟨od,h3⟩:=p
   rw [ef] at el'
   simp only [zf7,zaa] at ef
   obtain ⟨env4,h4,e4,tt,h5,e5,e6⟩:=ef
   have:=zfH e4
   subst this
   refine .inr ⟨go,by omega,λv H' hy=>?_⟩
   obtain ⟨sY,RY,zx⟩:=yld v H' hy
   refine ⟨μ2,_,clr t.slots env,x,env4,RY,RepE.clr _ ((re.stp (s1.trans s2) R0).stp sY R2),zx,e4,λσ4 re4=>⟨μ2,_,env4,RY,re4,tt,h5,e5,λμ5 H5 b s5' R5 hb=>?_⟩⟩
   have s5:=sY.trans s5'
   subst hb
   simp only at el'
   split at el'
   ·rename_i sy3
    simp only [zaa,zab] at el'
    obtain ⟨rest',h6,el'',er,rfl⟩:=el'
    cases tt with
    | false=>
     simp only [Bool.false_eq_true,if_false,zab] at e6 ⊢
     obtain ⟨rfl,rfl⟩:=e6
     refine ⟨m-1,by omega,μ5,_,ys,rest',s2.trans s5,zbu sy2 sy3,R5,L2.Paired.mapP zy λd v z=>el.stp s5 R2 z,by omega,by omega,el'',?_⟩
     rw [<-eys,<-er]
    | true=>
     simp only [if_true,zaa,zab] at e6 ⊢
     obtain ⟨r,h7,e7,d,h8,e8,rfl,rfl⟩:=e6
     refine ⟨μ5,h5,env4,R5,re4.stp s5' RY,r,h7,e7,λμ6 H6 v6 s6 R6 q6=>?_⟩
     obtain ⟨s7,R7,zd⟩:=el.kp R6 q6 e8
     refine ⟨m-1,by omega,μ6,_,ys++[d],rest',((s2.trans s5).trans s6).trans s7,zbu sy2 sy3,R7,zea (L2.Paired.mapP zy λd v z=>el.stp s7 R6 (el.stp s6 R5 (el.stp s5 R2 z))) (.cons zd .nil),by omega,by simp;omega,el'',?_⟩
     rw [<-eys,<-er]
     simp
   ·cases el'
theorem zqi (K:PySem.W.Frag):ElK K fz (λμ h H d v=>RepD K (Live μ h) H d v):=⟨zk9,λs r q=>RepD.stp s r q⟩
theorem zhi:∀ {K:PySem.W.Frag} {A:Addr->Prop} {H:Hp} {xs:List D} {vs:List V},Paired (RepD K A H) xs vs->RepDs K A H xs vs
 | _,_,_,_,_,.nil=>.nil
 | _,_,_,_,_,.cons r t=>.cons r (zhi t)
noncomputable def zny (t:Tg) (ft:IT.Env->M Bool) (fe:IT.Env->M R) (σ:IT.Env) (x:Ite):M (Option D):=zf7 fz t ft fe σ x
theorem zjg {K:PySem.W.Frag} {t:Tg} {fi:IT.Env->M Wk} {ft:IT.Env->M Bool} {fe:IT.Env->M R} (hwl:∀ σ h w h',fi σ h=some (w,h')->WlOk w h') {σ:St} {H:Hp} {Q:VK}
  (q:tLs K (λσ=>bnd (fi σ) λw=>zbN w.l (zny t ft fe σ) w.xs) σ H Q):zhx (tI K fi) t.slots (tGI K t) (tTv K ft) (tE K fe) σ H Q:=by
 refine zh1 (zqi K) hwl ?_
 obtain ⟨μ,h,env,R0,re,zs,h',e,k⟩:=q
 exact ⟨μ,h,env,R0,re,zs,h',e,λμ' H' a vs st R1 z ha=>k μ' H' a vs st R1 (zhi z) ha⟩
end
end IT
set_option linter.all false
set_option maxHeartbeats 4000000
set_option maxRecDepth 100000
namespace IT
open PySem PySem.Spec L2
section
variable {X:Cx}
theorem zkt {st:Stmt}:PS X st (tS X.K λ_ _=>none):=λpins s σ H D I ⟨μ,h,env,R0,re,fl,env',h',e,k⟩=>by cases e
theorem zkv {e:Expr}:IE X e (λ_ _=>none):=λpins s σ H Q I ⟨μ,h,env,R0,re,r,h',e,k⟩=>by cases e
theorem RepDs.rev {K:PySem.W.Frag} {A:Addr->Prop} {H:Hp}:∀ {xs:List D} {vs:List V},RepDs K A H xs vs->RepDs K A H xs.reverse vs.reverse
 | [],vs,q=>by simp only [RepDs] at q;subst q;exact .nil
 | x::xs,vs,q=>by
  simp only [RepDs] at q
  obtain ⟨v,r,rfl,q1,q2⟩:=q
  rw [List.reverse_cons,List.reverse_cons]
  exact (RepDs.rev q2).app (.one q1)
theorem zo5 {a st:Expr} {p2 pos:Pos} {f:IT.Env->M R} (ha:IE X a f) (hst:PE X st (tC (.int (-1)))):IL X (.Subscript a (.Slice none none (some st) p2) pos) (λσ=>bnd (f σ) λr=>bnd (rd r) λd=>opt (revD d)):=by
 intro pins s σ H Q I ⟨μ,h,env,R0,re,xs,h',e,k⟩
 simp only [zaa,zaq] at e
 obtain ⟨r,h1,e1,d,h2,e2,e3,rfl⟩:=e
 refine PyProof.Rows.Subscript_ (thn (ha pins s σ H (λv H1=>∃ a vs,v=.ref a/\SqL X.K H1 a vs/\∀ l,H1 l=none->Q (.ref l) (upd H1 l (.lst vs.reverse))) I ⟨μ,h,env,R0,re,r,h1,e1,λμ1 H1 v s1 R1 q1=>?_⟩) λv s1 ⟨x,H1,I1,r1,q1⟩=>?_)
 ·obtain ⟨rfl,z⟩:=zbg R1 q1 e2
  cases d with
  | lst ys=>
   obtain ⟨a,vs,rfl,q,zs⟩:=z
   replace e3:=Option.some.inj e3
   subst e3
   exact ⟨a,vs,rfl,q,λl hl=>k μ1 H1 l _ s1 R1 (RepDs.rev zs) hl⟩
  | _=>exact zad e3
 ·obtain ⟨a',vs,rfl,hq,q⟩:=q1
  cases r1
  refine wpAny_Slice (by
   rw [evalPart_none]
   refine wpAny_pure ?_
   refine wpAny_pure ?_
   rw [evalPart_some]
   refine thn (hst pins s1 σ H1 (λx H'=>x=.int (-1)/\H'=H1) I1 ⟨rfl,rfl⟩) λu s3 ⟨x,H3,I3,r3,q3⟩=>?_
   obtain ⟨rfl,rfl⟩:=q3
   obtain ⟨t,rfl⟩:=r3
   have I4:Inv X pins σ H3 { s3 with heap:=s3.heap.push { cls:=.type "slice",data:=.fields #[.none,.none,.int (-1) t] } }:=I3.kept (t':=s3.toks) λb ob q=>Heap.get?_push_of_some _ q
   obtain ⟨its,ri,pl,hz⟩:=I4.list hq
   have hlen:=ri.length
   show wpAny (model X.prog X.w) X.A (PyProof.Rows.subscriptTail a (.Slice none none (some st) p2) (.ref a') (.ref s3.heap.objs.size)) (EP X pins σ Q) X.xe { s3 with heap:=s3.heap.push { cls:=.type "slice",data:=.fields #[.none,.none,.int (-1) t] } }
   refine PyProof.Rows.tail_any (ops:=[.ref a',.ref s3.heap.objs.size]) pl.isList.typeIs PySem.slot_list_getitem.lookup ?_ (by with_unfolding_all rfl)
   refine wpAny_getItem_list_slice pl.isList (Heap.IsSliceOf.new ..) .none .none (.int (-1) t) (by decide) ?_ (by rw [List.size_toArray];omega)
   rw [PySem.W.krv_pick]
   exact ⟨.ref _,_,I4.lnew (t':=s3.toks) ri.reverse (by rw [List.length_reverse];exact hz),rfl,q _ I4.fresh⟩)
theorem zfB:∀ {xs:List D} {bs:List Bool},zaK xs=some bs->bs.length=xs.length
 | [],bs,e=>by simp only [zaK,Option.some.injEq] at e;subst e;rfl
 | x :: xs,bs,e=>by
  simp only [zaK] at e
  split at e
  ·split at e
   ·rename_i es
    simp only [Option.some.injEq] at e
    subst e
    simp only [List.length_cons,zfB es]
   ·cases e
  ·cases e
theorem zgM:∀ {xs:List D} {bs:List Bool} {i:Nat} {d:D},zaK xs=some bs->xs[i]?=some d->∃ b,bs[i]?=some b/\tru d=some b
 | [],bs,i,d,e,ed=>by simp at ed
 | x :: xs,bs,i,d,e,ed=>by
  simp only [zaK] at e
  split at e
  ·rename_i b eb
   split at e
   ·rename_i l es
    simp only [Option.some.injEq] at e
    subst e
    cases i with
    | zero=>
     simp only [List.getElem?_cons_zero,Option.some.injEq] at ed
     subst ed
     exact ⟨b,rfl,eb⟩
    | succ i=>
     obtain ⟨c,e1,e2⟩:=zgM (i:=i) (d:=d) es (by simpa using ed)
     exact ⟨c,by simpa using e1,e2⟩
   ·cases e
  ·cases e
theorem ziQ (bs:List Bool):(List.range bs.length).all (λi=>bs.getD i false)=bs.all id:=by
 rw [Bool.eq_iff_iff,List.all_eq_true,List.all_eq_true]
 constructor
 ·intro h b hb
  obtain ⟨i,hi,e⟩:=List.getElem_of_mem hb
  have:=h i (by simpa using hi)
  rw [List.getD_eq_getElem?_getD,List.getElem?_eq_getElem hi] at this
  simpa [e] using this
 ·intro h i hi
  have hi':i<bs.length:=by simpa using hi
  rw [List.getD_eq_getElem?_getD,List.getElem?_eq_getElem hi']
  exact h _ (List.getElem_mem hi')
noncomputable def ziy (prog:Program) (w:World) (A:Around) (Hs:Shared->Prop) (P:Nat->Value->Prop) (tr:Nat->Bool):Prop:=
 ∀ i v (t:Shared) (Q:Bool->Shared->Prop) (E:Value->Shared->Prop),P i v->Hs t->(∀ tk,Q (tr i) { t with toks:=tk })->wpAny (model prog w) A (truthy v) Q E t
theorem zei {n i:Nat} (h:i<n):(List.range n).drop i=i::(List.range n).drop (i+1):=by
 rw [List.drop_eq_getElem_cons (by simpa using h)]
 simp
section
variable {prog:Program} {w:World} {A:Around} {R:Result->Shared->Prop} {I:Addr} {fp wr:List Addr} {n:Nat} {P:Nat->Value->Prop} {St:Nat->Heap->Prop} {Hs:Shared->Prop}
theorem zii (W:Walks prog w A.in1 I fp wr n P St) (tr:Nat->Bool) (hs:∀ t h' tk,Hs t->(∀ b o,b ∉ wr->t.heap.get? b=some o->h'.get? b=some o)->Hs { t with heap:=h',toks:=tk }) (htr:ziy prog w A.in1 Hs P tr) (k:Nat) :
  ∀ (i:Nat) (t:Shared),n-i=k->i<=n->St i t.heap->Hs t →
   (∀ h' tk,(∀ b o,b ∉ wr->t.heap.get? b=some o->h'.get? b=some o)->R (.ok (.ret (.bool (((List.range n).drop i).all tr)))) { t with heap:=h',toks:=tk })->codeAny (model prog w) A (.builtin "all.loop" ⟨[.ref I],[]⟩) R t:=by
 induction k with
 | zero=>
  intro i t hk hi st ht hR
  obtain rfl:i=n:=by omega
  refine codeAny_builtin F.entry_all_loop ?_
  rw [Around.under_plainId F.plain_all_loop _]
  refine wpAny_bind (m:=pyNext (.ref I)) (W.done t _ _ st λh' tk e=>wpAny_bind (wpAny_rule (wpAny_pure ?_)))
  have z:=hR h' tk e
  rwa [List.drop_of_length_le (by simp)] at z
 | succ k ih=>
  intro i t hk hi st ht hR
  have hlt:i<n:=by omega
  refine codeAny_builtin F.entry_all_loop ?_
  rw [Around.under_plainId F.plain_all_loop _]
  refine wpAny_bind (m:=pyNext (.ref I)) (W.item i t _ _ hlt st λv h' tk hP st' e=>wpAny_bind (wpAny_holding (htr i v _ _ _ hP (hs t h' tk ht e) λtk2=>wpAny_bind (wpAny_letGo ?_))))
  cases hb:tr i with
  | true=>
   simp only [if_true]
   refine wpAny_pure ⟨plainId_quiet F.plain_all_loop _,ih (i+1) _ (by omega) hlt st' (hs t h' tk2 ht e) λh2 tk3 e2=>?_⟩
   have z:=hR h2 tk3 λb o hbw eb=>e2 b o hbw (e b o hbw eb)
   rwa [zei hlt,List.all_cons,hb,Bool.true_and] at z
  | false=>
   simp only [Bool.false_eq_true,if_false]
   refine wpAny_bind (wpAny_rule (wpAny_pure ?_))
   have z:=hR h' tk2 e
   rwa [zei hlt,List.all_cons,hb,Bool.false_and] at z
end
theorem zgu (hc:X.calm=true):zkB X (.builtin "all") (biD .all):=by
 intro pins s σ H vs us Q I r q
 obtain ⟨μ,h,ds,z,R0,pr,e,k⟩:=q
 cases pr with
 | nil=>exact zad e
 | @cons d v ds vs qd pr=>
  cases pr with
  | cons _ _=>cases d<;>exact zad e
  | nil=>
   cases d with
   | lst xs=>
    obtain ⟨p,ws,rfl,q1,z1⟩:=qd
    have eb:∃ bs,zaK xs=some bs/\z=.bl (bs.all id):=by
     cases hb:zaK xs with
     | none=>(change (match zaK xs with | some bs=>_ | none=>_)=_ at e;rw [hb] at e;exact zad e)
     | some bs=>(change (match zaK xs with | some bs=>_ | none=>_)=_ at e;rw [hb] at e;exact ⟨bs,rfl,(Option.some.inj e).symm⟩)
    obtain ⟨bs,eb,rfl⟩:=eb
    obtain ⟨u,rfl,rx⟩:=zhy r
    cases rx
    obtain ⟨its,ri,pl,hz⟩:=I.list q1
    have hl1:=z1.length
    have hl2:=ri.length
    have hl3:=zfB eb
    have hne:p≠s.heap.objs.size:=by
     obtain ⟨o,n,eo,_⟩:=id pl
     exact Nat.ne_of_lt (Heap.lt_size eo)
    have W:=Walks.list (prog:=X.prog) (w:=X.w) (A:=X.A.in1) (I.ok.hd hc) s.heap.objs.size p hne its.toArray
    let Hs:Shared->Prop:=λt=>∃ h' tk,t={ s with heap:=h',toks:=tk }/\∀ a o,s.heap.get? a=some o->h'.get? a=some o
    have hs:∀ t h' tk,Hs t->(∀ b o,b ∉ [s.heap.objs.size]->t.heap.get? b=some o->h'.get? b=some o)->Hs { t with heap:=h',toks:=tk }:=by
     rintro t h' tk ⟨h1,tk1,rfl,e1⟩ e2
     exact ⟨h',tk,rfl,λa o ea=>e2 a o (by simp;exact Nat.ne_of_lt (Heap.lt_size ea)) (e1 a o ea)⟩
    have htr:ziy X.prog X.w X.A.in1 Hs (λi v=>its.toArray[i]?=some v) (λi=>bs.getD i false):=by
     rintro i v t Q1 E1 ei ⟨h1,tk1,rfl,e1⟩ hq
     have ei':its[i]?=some v:=by simpa using ei
     have hi:i<its.length:=(List.getElem?_eq_some_iff.mp ei').1
     obtain ⟨d,ed⟩:∃ d,xs[i]?=some d:=⟨xs[i]'(by omega),List.getElem?_eq_getElem _⟩
     obtain ⟨b,e2,e3⟩:=zgM eb ed
     obtain ⟨v2,e4,e5⟩:=z1.get ed
     have rv:RelV v2 v:=by
      have:=zeu ri e4 hi
      rwa [(List.getElem?_eq_some_iff.mp ei').2] at this
     have e6:bs.getD i false=b:=by rw [List.getD_eq_getElem?_getD,e2];rfl
     simp only [e6] at hq
     exact zjd (I.kept (t':=tk1) e1) (RdD.of e5) rv e3 hq
    have st0:(s.heap.push { cls:=.type "list_iterator",data:=.fields #[.ref p,.int 0 0] }).IsListIter s.heap.objs.size p 0/\(s.heap.push { cls:=.type "list_iterator",data:=.fields #[.ref p,.int 0 0] }).IsList p its.toArray:=by
     refine ⟨⟨_,Heap.get?_push_size _ rfl,rfl,rfl⟩,?_⟩
     obtain ⟨o,eo,hcl,n,hd⟩:=pl.isList
     exact ⟨o,Heap.get?_push_of_some _ eo,hcl,n,hd⟩
    have hs0:Hs { s with heap:=s.heap.push { cls:=.type "list_iterator",data:=.fields #[.ref p,.int 0 0] } }:=⟨_,s.toks,rfl,λa o ea=>Heap.get?_push_of_some _ ea⟩
    have hsz:its.toArray.size=bs.length:=by simp;omega
    have fin:∀ (b:Bool) (h':Heap) (tk:Nat),(∀ b o,b ∉ [s.heap.objs.size]->(s.heap.push { cls:=.type "list_iterator",data:=.fields #[.ref p,.int 0 0] }).get? b=some o->h'.get? b=some o)->Q (.bl b) H->EP X pins σ Q (.bool b) { s with heap:=h',toks:=tk }:=by
     intro b h' tk hk q
     refine ⟨.bl b,H,I.kept (t':=tk) λa o ea=>hk a o (by simp;exact Nat.ne_of_lt (Heap.lt_size ea)) (Heap.get?_push_of_some _ ea),rfl,q⟩
    have hq:=k μ H (.bl (bs.all id)) Stp.refl R0 (by simp only [RepD])
    refine call_function_tree F.kind_all F.plain_all F.entry_all (F.args_all1 _) ?_
    unfold Builtin.«all»
    refine wpAny_bind (m:=oneArg "all" _) (wpAny_pure (wpAny_bind (wpAny_pyIter_list pl.isList (wpAny_pure ⟨plainId_quiet F.plain_all_loop _,zii W _ hs htr _ 0 _ rfl (Nat.zero_le _) st0 hs0 λh' tk hk=>?_⟩))))
    rw [List.drop_zero,hsz,ziQ]
    exact fin _ h' tk hk hq
   | _=>exact zad e
end
end IT
set_option linter.all false
set_option maxHeartbeats 4000000
set_option maxRecDepth 100000
namespace IT
open PySem PySem.Spec L2
noncomputable def tyS:Ty->String
 | .bool=>"bool"
section
variable {K:PySem.W.Frag}
theorem zm5 (t:Ty):PySem.W.kitOne K (.type "NoneType") (.type (tyS t))=some (isiD t .non):=by cases t<;>rfl
theorem zod (t:Ty) (b:Bool):PySem.W.kitOne K (.type "bool") (.type (tyS t))=some (isiD t (.bl b)):=by cases t<;>rfl
theorem znb (t:Ty) (i:Int):PySem.W.kitOne K (.type "int") (.type (tyS t))=some (isiD t (.int i)):=by cases t<;>rfl
theorem zmi (t:Ty) (x:List Nat):PySem.W.kitOne K (.type "str") (.type (tyS t))=some (isiD t (.str x)):=by cases t<;>rfl
theorem znl (t:Ty) (x:List D):PySem.W.kitOne K (.type "tuple") (.type (tyS t))=some (isiD t (.tup x)):=by cases t<;>rfl
theorem zl1 (t:Ty) (x:List D):PySem.W.kitOne K (.type "list") (.type (tyS t))=some (isiD t (.lst x)):=by cases t<;>rfl
end
section
variable {X:Cx}
theorem zke (t:Ty):zb7 X (.builtin "isinstance") (λvs H Q=>∃ A d v,RdD X.K A H d v/\vs=[v,.ty (tyS t)]/\Q (.bl (isiD t d)) H):=by
 intro pins s σ H vs us Q I r q
 obtain ⟨A,d,v,qd,rfl,q⟩:=q
 cases r with
 | cons r1 r=>
  cases r with
  | cons r2 r=>
   cases r
   rename_i u1 u2
   have e2:u2=Value.type (tyS t):=r2
   subst e2
   have fin:∀ tk:Nat,EP X pins σ Q (.bool (isiD t d)) { s with toks:=tk }:=λtk=>⟨.bl (isiD t d),H,I.tok tk,rfl,q⟩
   cases d with
   | non=>
    simp only [RdD,RepD] at qd;subst qd
    have e1:u1=Value.none:=r1
    subst e1
    exact PySem.W.kia_one PySem.W.kitx_none I.kIn True.intro (zm5 t) (λz=>nomatch z) fin
   | bl b=>
    simp only [RdD,RepD] at qd;subst qd
    have e1:u1=Value.bool b:=r1
    subst e1
    exact PySem.W.kia_one PySem.W.kitx_bool I.kIn True.intro (zod t b) (λz=>nomatch z) fin
   | int i=>
    simp only [RdD,RepD] at qd;subst qd
    obtain ⟨t',e1⟩:=(show ∃ t',u1=Value.int i t' from r1)
    subst e1
    exact PySem.W.kia_one PySem.W.kitx_int I.kIn True.intro (znb t i) (λz=>nomatch z) fin
   | str x=>
    simp only [RdD,RepD] at qd;subst qd
    obtain ⟨t',e1⟩:=(show ∃ t',u1=Value.str (zaB x) t' from r1)
    subst e1
    exact PySem.W.kia_one PySem.W.kitx_str I.kIn True.intro (zmi t x) (λz=>nomatch z) fin
   | tup xs=>
    simp only [RdD,RepD] at qd
    obtain ⟨a,ws,rfl,q1,_⟩:=qd
    have e1:u1=Value.ref a:=r1
    subst e1
    obtain ⟨its,ri,⟨o,h1,h2,_⟩,hz⟩:=I.tuple q1
    exact PySem.W.kia_one PySem.W.kitx_tuple I.kIn ⟨o,h1,h2⟩ (znl t xs) (λz=>nomatch z) fin
   | lst xs=>
    obtain ⟨a,ws,rfl,q1,_⟩:=qd
    have e1:u1=Value.ref a:=r1
    subst e1
    obtain ⟨its,ri,⟨o,n,h1,h2,_⟩,hz⟩:=I.list q1
    exact PySem.W.kia_one PySem.W.kitx_list I.kIn ⟨o,h1,h2⟩ (zl1 t xs) (λz=>nomatch z) fin
theorem zm2 (t:Ty):bootBuiltins (Str.ofString (tyS t))=some (.type (tyS t)):=by cases t<;>decide +kernel
theorem zph {t:Ty} {e:Expr} {x:Str} {p p2 pos:Pos} {f:IT.Env->M R} (hg:Gl X "isinstance") (hm:X.mg "isinstance"=none) (he:IE X e f) (hx:x=Str.ofString (tyS t)) (hg2:Gl X x) (hm2:X.mg x=none) (hs:starEach [e,.Name x p2] X.env=[(false,eval e X.env),(false,eval (.Name x p2) X.env)]) :
  IE X (.Call (.Name "isinstance" p) [e,.Name x p2] [] pos) (λσ=>bnd (f σ) λr=>bnd (rd r) λd=>ok (.d (.bl (isiD t d)))):=by
 subst hx
 have hn:Str.ofString (tyS t) ≠ "__name__":=by cases t<;>decide
 have hdb:(Str.ofString (tyS t)==("__debug__":Str))=false:=by cases t<;>decide
 have h2:PE X (.Name (Str.ofString (tyS t)) p2) (tC (.ty (tyS t))):=zmR hg2 hm2 (zm2 t) rfl hn hdb
 refine PE.imp (zcj (zke t) hg hm PyProof.Rows.boot_isinstance (zaY he (zaY h2 zbI rfl) hs) (by decide) (by decide) hs rfl) λσ H Q q0=>?_
 obtain ⟨μ,h,env,R0,re,r,h',e,k⟩:=q0
 simp only [zaa,zab] at e
 obtain ⟨r1,h1,e1,d,h2',e2,rfl,rfl⟩:=e
 refine ⟨μ,h,env,R0,re,r1,h1,e1,λμ1 H1 v s1 R1 q1=>?_⟩
 obtain ⟨rfl,z⟩:=zbg R1 q1 e2
 exact ⟨_,d,v,z,rfl,k μ1 H1 _ s1 R1 (by simp only [RepR,RepD])⟩
theorem RepDs.dropLast {K:PySem.W.Frag} {A:Addr->Prop} {H:Hp} {xs:List D} {vs:List V} (q:RepDs K A H xs vs):RepDs K A H xs.dropLast vs.dropLast:=by
 rw [List.dropLast_eq_take,List.dropLast_eq_take,q.length]
 exact q.take _
theorem RepDs.eraseIdx {K:PySem.W.Frag} {A:Addr->Prop} {H:Hp} {xs:List D} {vs:List V} (k:Nat) (q:RepDs K A H xs vs):RepDs K A H (xs.eraseIdx k) (vs.eraseIdx k):=by
 rw [List.eraseIdx_eq_take_drop_succ,List.eraseIdx_eq_take_drop_succ]
 exact (q.take k).app (q.drop (k+1))
theorem zoy {o:Expr} {name:Str} {apos cpos:Pos} {f:IT.Env->M R} (ho:IE X o f) (hname:name=("pop":Str)) (hbase:attributeBase o name X.env (eval o X.env)=eval o X.env) (hline:(apos.endLine==cpos.line)=true) :
  IE X (.Call (.Attribute o name apos) [] [] cpos) (λσ=>bnd (f σ) λx=>bnd (zd0 x) λ_=>bnd (ok []) λrs=>meth .pop x rs):=by
 subst hname
 refine PE.imp (zlv PySem.F.plainAttrs_list PySem.F.slot_list_pop PySem.F.type_list_pop znQ ho hbase hline) λσ H Q q0=>?_
 obtain ⟨μ,h,env,R0,re,r,h',e,k⟩:=q0
 simp only [zaa,zab] at e
 obtain ⟨x,h1,e1,_,h1',e0,rs,h2,⟨rfl,rfl⟩,e3⟩:=e
 obtain ⟨l,o1,rfl,ho1,il1,rfl⟩:=zeq e0
 refine ⟨μ,h,env,R0,re,.loc l,_,e1,λμ1 H1 v s1 R1 q1=>?_⟩
 ·skip
  obtain ⟨a,ea,rfl⟩:=q1
  obtain ⟨vs1,hH1,z1⟩:=R1.placeL ea ho1 il1
  (delta meth at e3;(try dsimp only at e3))
  rw [ho1] at e3
  cases o1 with
  | fro xs=>simp at e3
  | ins _ _=>cases il1
  | ols _=>cases il1
  | dic _=>cases il1
  | dfr _=>cases il1
  | lst xs=>
   simp only at e3
   split at e3
   ·rename_i y hy
    simp only [Option.some.injEq,Prod.mk.injEq] at e3
    obtain ⟨rfl,rfl⟩:=e3
    simp only [Ob.items] at z1
    obtain ⟨w,hw,zw⟩:=z1.get hy
    refine ⟨.inl ⟨rfl,vs1,.inl (.inl hH1)⟩,a,vs1,w,rfl,rfl,hH1,by rw [<-z1.length];exact hw,?_⟩
    obtain ⟨s4,R4⟩:=write R1 ea ho1 z1.dropLast
    exact k μ1 _ w (s1.trans s4) R4 (zw.stp s4 R1)
   ·cases e3
end
end IT
set_option linter.all false
set_option maxHeartbeats 4000000
set_option maxRecDepth 100000
namespace IT
open PySem PySem.Spec L2
open PySem.StrLaws Builtin.Str
section
variable {X:Cx}
theorem zlL {pins:List (Addr×Obj)} {s:Shared} {σ:St} {H:Hp} {μ:List Addr} {h:Sto} (hu:X.A.units+64<cLine) (I:Inv X pins σ H s) {a:D} {v:V} {v':Value} (qa:RdD X.K (Live μ h) H a v) (rv:RelV v v') (hd:a.dep<=60)
  {xs:List D} {ws:List V} {its:List Value} (q:RepDs X.K (Live μ h) H xs ws) (r:Vals ws its) :
  ∃ f:Value->Bool,(∀ y,y∈its.toArray->SeqAt.EqAt X.A.in1 s y v' (f y))/\∀ (j:Nat) (x:D) (y:Value),xs[j]?=some x->its[j]?=some y->f y=x.eqb a:=by
 have S:=zay I
 classical
 have base:∀ (y:Value) (x:D) (w:V),RepD X.K (Live μ h) H x w->RelV w y->SeqAt.EqAt X.A.in1 s y v' (x.eqb a):=λy x w qx rx=>
  zjn S x a X.A.in1 w v y v' (RdD.of qx) qa rx rv (by show X.A.units+1+_<cLine;omega)
 have at':∀ (j:Nat) (y:Value),its[j]?=some y->∃ x w,xs[j]?=some x/\RepD X.K (Live μ h) H x w/\RelV w y:=by
  intro j y hy
  have hj:j<its.length:=(List.getElem?_eq_some_iff.mp hy).1
  have hj2:j<ws.length:=by rw [r.length];exact hj
  obtain ⟨x,hx,qx⟩:=q.get' (List.getElem?_eq_getElem hj2)
  obtain ⟨u,hu',ru⟩:=r.get (List.getElem?_eq_getElem hj2)
  rw [hy] at hu'
  cases hu'
  exact ⟨x,_,hx,qx,ru⟩
 refine ⟨λy=>decide (∃ (x:D) (w:V),RepD X.K (Live μ h) H x w/\RelV w y/\x.eqb a=true),λy hy=>?_,λj x y hx hy=>?_⟩
 ·obtain ⟨j,hj⟩:=List.getElem?_of_mem (show y∈its by simpa using hy)
  obtain ⟨x,w,hx,qx,rx⟩:=at' j y hj
  dsimp only
  by_cases hx':∃ (x:D) (w:V),RepD X.K (Live μ h) H x w/\RelV w y/\x.eqb a=true
  ·rw [decide_eq_true hx']
   obtain ⟨x',w',q',r',e'⟩:=hx'
   rw [<-e']
   exact base y x' w' q' r'
  ·rw [decide_eq_false hx']
   cases ex:x.eqb a with
   | true=>exact absurd ⟨x,_,qx,rx,ex⟩ hx'
   | false=>rw [<-ex];exact base y x _ qx rx
 ·obtain ⟨x1,w,hx1,qx,rx⟩:=at' j y hy
  rw [hx] at hx1
  cases hx1
  dsimp only
  cases ex:x.eqb a with
  | true=>exact decide_eq_true ⟨x,w,qx,rx,ex⟩
  | false=>
   refine decide_eq_false λ⟨x',w',q',r',e'⟩=>?_
   have ew:=RelV.inj rx r'
   rw [RepD.inj S x x' w' (ew▸qx) q'] at ex
   rw [ex] at e'
   cases e'
theorem zdq {α β:Type} {p:α->Bool} {f:β->Bool}:∀ {xs:List α} {ys:List β},xs.length=ys.length->(∀ (j:Nat) (x:α) (y:β),xs[j]?=some x->ys[j]?=some y->f y=p x)->ys.countP f=xs.countP p
 | [],[],_,_=>rfl
 | [],_::_,h,_=>by simp at h
 | _::_,[],h,_=>by simp at h
 | x::xs,y::ys,h,k=>by
  rw [List.countP_cons,List.countP_cons,zdq (xs:=xs) (ys:=ys) (by simpa using h) (λj x y hx hy=>k (j+1) x y (by simpa using hx) (by simpa using hy)),k 0 x y rfl rfl]
noncomputable def lmI:Lm->String
 | .count=>"list.count"
 | .countT=>"tuple.count"
theorem zpE (hu:X.A.units+64<cLine) (m:Lm):MtR X (lmI m) (λx vs H Q=>∃ μ h xs d v z,Rep X.K μ h H/\RdD X.K (Live μ h) H (.lst xs) x/\vs=[v]/\RdD X.K (Live μ h) H d v/\lmD m (.lst xs) d=some z/\(∀ w,RepD X.K (Live μ h) H z w->Q w H)):=by
 intro pins s σ H x vs v us Q I rx rs q
 obtain ⟨μ,h,xs,d,vd,z,R0,qx,rfl,qd,e,k⟩:=q
 obtain ⟨p,ws,rfl,sq,zz⟩:=qx
 cases rx
 obtain ⟨u,rfl,ru⟩:=rs.one
 obtain ⟨its,ri,⟨o,n,e1,hc,hdd,hs⟩,hz⟩:=I.list sq
 obtain ⟨cls,dd,data,sl⟩:=o
 simp only at hc hdd hs
 subst hc hdd hs
 have hlen:xs.length=its.length:=by rw [zz.length,ri.length]
 cases m with
 | count=>
  (delta lmD at e;(try dsimp only at e))
  split at e
  ·rename_i hd
   cases e
   obtain ⟨f,f1,f2⟩:=zlL hu I qd ru (of_decide_eq_true hd) zz ri
   refine call_meets F.slot_list_count ⟨_,e1,rfl⟩ F.entry_list_count (F.args_list_count_2 _ _) (SeqAt.list_countAt p its.toArray n none sl u f) ⟨e1,f1,?_⟩
   have ec:(its.toArray.toList.countP f:Nat)=xs.countP λy=>y.eqb d:=by simpa using zdq hlen f2
   rw [ec]
   exact ⟨.int _,H,I.tok _,⟨_,rfl⟩,k _ (by simp only [RepD])⟩
  ·cases e
 | countT=>exact zad e
noncomputable def lmS:Lm->Str
 | .count=>"count"
 | .countT=>"count"
theorem zqf {m:Lm} {o e:Expr} {name:Str} {apos cpos:Pos} {f g:IT.Env->M R} (hu:X.A.units+64<cLine) (hnt:m≠.countT) (ho:IE X o f) (he:IE X e g) (hname:name=lmS m)
  (hbase:attributeBase o name X.env (eval o X.env)=eval o X.env)
  (hfew:((backTo cpos (starEach [e] X.env)).all (λx=>!x.1)&&(backToKw cpos (keywordEach [] X.env)).all (λx=>x.1.isSome)
   && decide ([e].length+([]:List Keyword).length+(if ([]:List Keyword).isEmpty then 0 else 1)<30))=true)
  (hline:(apos.endLine==cpos.line)=true) (hs:starEach [e] X.env=[(false,eval e X.env)]) (hplain:(backTo cpos (starEach [] X.env)).any (·.1)=false) :
  IE X (.Call (.Attribute o name apos) [e] [] cpos) (λσ=>bnd (f σ) λx=>bnd (rd x) λ_=>bnd (g σ) λy=>bnd (rd x) λx=>bnd (rd y) λy=>bnd (opt (lmD m x y)) λz=>ok (.d z)):=by
 have slot:Slot "list" name (lmI m):=by
  subst hname
  cases m with
  | count=>exact PySem.F.slot_list_count
  | countT=>exact absurd rfl hnt
 have hty:typeOf (.builtin (lmI m))=pure (.type "method_descriptor"):=by
  cases m with
  | count=>exact PySem.F.type_list_count
  | countT=>exact absurd rfl hnt
 refine PE.imp (zkf PySem.F.plainAttrs_list slot hty (zpE hu m) ho (zaY he zbI hs) hbase hfew hline hs hplain) λσ H Q q0=>?_
 obtain ⟨μ,h,env,R0,re,r,h',e,k⟩:=q0
 simp only [zaa,zaq,zab] at e
 obtain ⟨x,h1,e1,d1,h1',e0,y,h2,e2,dx,h3,e3,dy,h4,e4,z,h5,⟨e5,rfl⟩,rfl,rfl⟩:=e
 refine ⟨μ,h,env,R0,re,x,h1,e1,λμ1 H1 v s1 R1 q1=>?_⟩
 obtain ⟨rfl,_⟩:=zbg R1 q1 e0
 have hd:∃ xs,dx=.lst xs:=by
  cases dx with
  | lst xs=>exact ⟨xs,rfl⟩
  | _=>cases m<;>first | exact absurd rfl hnt | exact zad e5
 obtain ⟨xs,rfl⟩:=hd
 have ty:tyV X.K "list" v H1:=by
  cases x with
  | loc l=>
   obtain ⟨a,ea,rfl⟩:=q1
   obtain ⟨o1,ho1,il1,_,_⟩:=zek e0
   obtain ⟨vs1,hH1,z1⟩:=R1.placeL ea ho1 il1
   exact .inl ⟨rfl,vs1,.inl (.inl hH1)⟩
  | d d0=>
   simp only [rd,zab] at e3
   obtain ⟨rfl,rfl⟩:=e3
   simp only [RepR,RepD] at q1
   obtain ⟨a,ws,rfl,sq,zz⟩:=q1
   exact .inl ⟨rfl,ws,sq.sq⟩
 refine ⟨ty,μ1,_,env,R1,re.stp s1 R0,y,h2,e2,λμ2 H2 w s2 R2 q2=>?_⟩
 have q1':=RepR.stp s2 R1 q1
 obtain ⟨rfl,zx⟩:=zbg R2 q1' e3
 obtain ⟨rfl,zy⟩:=zbg R2 q2 e4
 exact ⟨μ2,_,xs,dy,w,z,R2,zx,rfl,zy,e5,λu qu=>k μ2 H2 u (s1.trans s2) R2 qu⟩
theorem zpo (hu:X.A.units+64<cLine):MtR X "tuple.count" (λx vs H Q=>∃ μ h xs d v z,Rep X.K μ h H/\RdD X.K (Live μ h) H (.tup xs) x/\vs=[v]/\RdD X.K (Live μ h) H d v/\lmD .countT (.tup xs) d=some z/\(∀ w,RepD X.K (Live μ h) H z w->Q w H)):=by
 intro pins s σ H x vs v us Q I rx rs q
 obtain ⟨μ,h,xs,d,vd,z,R0,qx,rfl,qd,e,k⟩:=q
 simp only [RdD,RepD] at qx
 obtain ⟨p,ws,rfl,sq,zz⟩:=qx
 cases rx
 obtain ⟨u,rfl,ru⟩:=rs.one
 obtain ⟨its,ri,pt,hz⟩:=I.tuple sq
 obtain ⟨⟨cls,dd,data,sl⟩,e1,hc,n,hdd⟩:=id pt
 simp only at hc hdd
 subst hc hdd
 have hlen:xs.length=its.length:=by rw [zz.length,ri.length]
 change (if _=true then _ else _)=some _ at e
 split at e
 ·rename_i hd
  cases e
  obtain ⟨f,f1,f2⟩:=zlL hu I qd ru (of_decide_eq_true hd) zz ri
  refine call_meets F.slot_tuple_count ⟨_,e1,rfl⟩ F.entry_tuple_count (F.args_tuple_count_2 _ _) (SeqAt.tuple_countAt p its.toArray n dd sl u f) ⟨e1,f1,?_⟩
  have ec:(its.toArray.toList.countP f:Nat)=xs.countP λy=>y.eqb d:=by simpa using zdq hlen f2
  rw [ec]
  exact ⟨.int _,H,I.tok _,⟨_,rfl⟩,k _ (by simp only [RepD])⟩
 ·cases e
theorem zpj {o e:Expr} {name:Str} {apos cpos:Pos} {f g:IT.Env->M R} (hu:X.A.units+64<cLine) (ho:IE X o f) (he:IE X e g) (hname:name=lmS .countT)
  (hbase:attributeBase o name X.env (eval o X.env)=eval o X.env)
  (hfew:((backTo cpos (starEach [e] X.env)).all (λx=>!x.1)&&(backToKw cpos (keywordEach [] X.env)).all (λx=>x.1.isSome)
   && decide ([e].length+([]:List Keyword).length+(if ([]:List Keyword).isEmpty then 0 else 1)<30))=true)
  (hline:(apos.endLine==cpos.line)=true) (hs:starEach [e] X.env=[(false,eval e X.env)]) (hplain:(backTo cpos (starEach [] X.env)).any (·.1)=false) :
  IE X (.Call (.Attribute o name apos) [e] [] cpos) (λσ=>bnd (f σ) λx=>bnd (rd x) λ_=>bnd (g σ) λy=>bnd (rd x) λx=>bnd (rd y) λy=>bnd (opt (lmD .countT x y)) λz=>ok (.d z)):=by
 have slot:Slot "tuple" name "tuple.count":=by subst hname;exact PySem.F.slot_tuple_count
 refine PE.imp (zkf PySem.F.plainAttrs_tuple slot PySem.F.type_tuple_count (zpo hu) ho (zaY he zbI hs) hbase hfew hline hs hplain) λσ H Q q0=>?_
 obtain ⟨μ,h,env,R0,re,r,h',e,k⟩:=q0
 simp only [zaa,zaq,zab] at e
 obtain ⟨x,h1,e1,d1,h1',e0,y,h2,e2,dx,h3,e3,dy,h4,e4,z,h5,⟨e5,rfl⟩,rfl,rfl⟩:=e
 refine ⟨μ,h,env,R0,re,x,h1,e1,λμ1 H1 v s1 R1 q1=>?_⟩
 obtain ⟨rfl,_⟩:=zbg R1 q1 e0
 have hd:∃ xs,dx=.tup xs:=by
  cases dx with
  | tup xs=>exact ⟨xs,rfl⟩
  | _=>exact zad e5
 obtain ⟨xs,rfl⟩:=hd
 have ty:tyV X.K "tuple" v H1:=by
  cases x with
  | loc l=>
   obtain ⟨o1,ho1,il1,z1,_⟩:=zek e3
   cases z1
  | d d0=>
   simp only [rd,zab] at e3
   obtain ⟨rfl,rfl⟩:=e3
   simp only [RepR,RepD] at q1
   obtain ⟨a,ws,rfl,sq,zz⟩:=q1
   exact .inr (.inl ⟨rfl,ws,sq⟩)
 refine ⟨ty,μ1,_,env,R1,re.stp s1 R0,y,h2,e2,λμ2 H2 w s2 R2 q2=>?_⟩
 have q1':=RepR.stp s2 R1 q1
 obtain ⟨rfl,zx⟩:=zbg R2 q1' e3
 obtain ⟨rfl,zy⟩:=zbg R2 q2 e4
 exact ⟨μ2,_,xs,dy,w,z,R2,zx,rfl,zy,e5,λu qu=>k μ2 H2 u (s1.trans s2) R2 qu⟩
end
end IT
set_option linter.all false
set_option maxHeartbeats 4000000
set_option maxRecDepth 100000
namespace PySem
open Sem (wp)
open Builtin
theorem zcZ:entryFor table "tuple.__getattribute__"=some Builtin.«object.__getattribute__»:=
 entryFor_alias (id':="object.__getattribute__") (by kernel_rfl) (by first | rfl | decide +kernel) (by decide +kernel) (by kernel_rfl)
theorem zbH:typeLookup (.type "tuple") "__getattr__"=pure none:=by rw [typeLookup_type,builtinLookup_eq_fast];kernel_rfl
theorem zcl:typeLookup (.type "tuple") "keys"=pure none:=by rw [typeLookup_type,builtinLookup_eq_fast];kernel_rfl
theorem zeA (l:Addr) (items:Array Value) (n:Nat) (sl:Array (Option Value)) (u:Tok) :
  Meets (Builtin.«object.__getattribute__» ⟨[.ref l,.str "keys" u],[]⟩) (λA R s=>s.heap.get? l=some { cls:=.type "tuple",dict:=none,data:=.seq items n,slots:=sl }/\raisesAttr (.ref l) "keys" A R s):=
 Meets.of_wp λprog w A R s hs=>by
  obtain ⟨hp,g,d,tk,os⟩:=s
  obtain ⟨hl,hs⟩:=hs
  have hT:(⟨hp,g,d,tk,os⟩:Shared).TypeIs (.ref l) "tuple":=⟨_,hl,rfl⟩
  have f4:=zcl
  unfold Builtin.«object.__getattribute__»
  repeat (any_goals (first | assumption | wp_step))
  exact wpAny_raiseAttrError hs.1 hs.2 (attrMsg_fits (by decide +kernel) (by decide +kernel))
section
variable {prog:Program} {w:World} {A:Around} {E:Value->Shared->Prop} {s:Shared}
theorem ze4 {l:Addr} {items:Array Value} {n:Nat} {sl:Array (Option Value)} {Q:Option Value->Shared->Prop} (hl:s.heap.get? l=some { cls:=.type "tuple",dict:=none,data:=.seq items n,slots:=sl }) (hA:A.handled=none)
  (h:∀ h' tk,(∀ b o,s.heap.get? b=some o->h'.get? b=some o)->Q none { s with heap:=h',toks:=tk }):wpAny (model prog w) A (getAttr? (.ref l) "keys") Q E s:=by
 obtain ⟨hp,g,d,tk,os⟩:=s
 have hT:∀ tk,(⟨hp,g,d,tk,os⟩:Shared).TypeIs (.ref l) "tuple":=λ_=>⟨_,hl,rfl⟩
 have hT0:=hT tk
 have f1:=sub_AttributeError
 have f3:=F.slot_tuple_getattribute.lookup
 have f4:=F.slot_tuple_getattribute.bind (.ref l)
 have f5:=zbH
 unfold getAttr? getAttrBy? getAttrBy
 repeat (any_goals (first | assumption | ((with_reducible show wpAny _ _ (call (Value.builtin "tuple.__getattribute__") _ _) _ _ _);refine call_meets F.slot_tuple_getattribute (hT _) zcZ (F.args_tuple_getattribute_2 _ _) (zeA l items n sl _) ⟨hl,hA,λh' tk' e hx=>?_⟩) | wp_step))
 obtain ⟨t',u',he⟩:=hx.there
 show wpAny _ _ (getattributeRaised _ _ _ _ _ _ _) _ _ _
 unfold getattributeRaised
 repeat (any_goals (first | assumption | wp_step))
 exact h _ _ hx.keeps
end
end PySem
set_option linter.all false
set_option maxHeartbeats 4000000
set_option maxRecDepth 100000
namespace PySem
open Sem (wp)
open Builtin
theorem zc9:entryFor table "dict.update.loop"=some Builtin.«dict.update.loop»:=entryFor_of_tree (by kernel_rfl)
theorem zbe:plainId "dict.update.loop"=true:=by decide +kernel
section
variable {prog:Program} {w:World} {K:Type} [DecidableEq K] {knd:KeyKind prog w K} {A:Around} {E:Value->Shared->Prop} {R:Result->Shared->Prop}
theorem zgb {p:Addr} {its:Array Value} {s:Shared} {Q:List Value->Shared->Prop} (hp:s.heap.IsTuple p its) (h:Q its.toList s):wpAny (model prog w) A (Dict.pairItems (.ref p)) Q E s:=by
 obtain ⟨o,ho,hc,n,hd⟩:=id hp
 unfold Dict.pairItems
 refine wpAny_bind (wpAny_typeOf hp.typeIs ?_)
 rw [if_pos (by decide)]
 refine wpAny_bind (wpAny_seqItems ho hd (wpAny_pure ?_))
 exact h
end
end PySem
set_option linter.all false
set_option maxHeartbeats 4000000
set_option maxRecDepth 100000
namespace IT
open PySem PySem.Spec L2
section
variable {X:Cx}
theorem znW {α β:Type} {f:α->β} (hf:∀ a b,f a=f b->a=b) {l:List α} (h:l.Nodup):(l.map f).Nodup:=by
 rw [List.nodup_iff_pairwise_ne,List.pairwise_map]
 exact List.Pairwise.imp (λ{a b} hab e=>hab (hf a b e)) h
theorem zlF {pins:List (Addr×Obj)} {σ:St} {H:Hp} {s:Shared} (I:Inv X pins σ H s):sysModules<s.heap.objs.size:=by
 refine Nat.lt_trans (by decide) ((I.mod.glob.keeps I.bk).lt)
theorem zf9:∀ {as:List Addr} {us:List Value},Vals (as.map V.ref) us->us=as.map Value.ref
 | [],_,.nil=>rfl
 | a::as,_,.cons r t=>by
  rw [zf9 t]
  cases (show _=Value.ref a from r)
  rfl
end
end IT
set_option linter.all false
set_option maxHeartbeats 4000000
set_option maxRecDepth 100000
namespace IT
open PySem PySem.Spec L2
section
variable {X:Cx}
structure zns (X:Cx) (n:Nat) (c m:Str) (np:Nat) (mm:List R->M R):Prop where
 ex:∃ C f fd ps,PySem.W.nsIn X.K mainGlobals c=some (some (.ref C))/\Cls X.K C/\Meth X.K C m f/\FnOk X.prog X.w X.K X.mg X.base CX0 n f fd ps (spF X.K np mm)/\zaL X.K fd ps []
 len:∀ rs h p,mm rs h=some p->rs.length=np
structure zoJ (X:Cx) (n:Nat) (c:Str) (np:Nat) (mm:List R->M R):Prop where
 ex:∃ C f fd ps,X.mg c=some (.ref C)/\PySem.W.nsIn X.K mainGlobals c=some (some (.ref C))/\Cls X.K C/\Mk X.K C f/\FnOk X.prog X.w X.K X.mg X.base CX0 n f fd ps (spF X.K np mm)/\zaL X.K fd ps []
 len:∀ rs h p,mm rs h=some p->rs.length=np
end
end IT
set_option linter.all false
set_option maxHeartbeats 4000000
set_option maxRecDepth 100000
namespace IT
open PySem PySem.Spec L2
section
variable {X:Cx} {A0:Addr->Prop} {H:Hp} {s:Shared}
mutual
theorem zdO (S:zbm X s H):∀ (x:D) (v:V) (u:Value),D.hk x=true->RepD X.K A0 H x v->RelV v u->KAt s.heap x u
 | .int i,v,u,_,q,r=>by
  simp only [RepD] at q;subst q
  simp only [KAt];exact r
 | .str x,v,u,_,q,r=>by
  simp only [RepD] at q;subst q
  simp only [KAt];exact r
 | .tup xs,v,u,hk,q,r=>by
  simp only [RepD] at q
  obtain ⟨a,vs,rfl,sq,zs⟩:=q
  cases r
  obtain ⟨its,ri,p⟩:=S.tup a vs sq
  simp only [KAt]
  exact ⟨a,its.toArray,rfl,p,by simpa using kAts_of S xs vs its hk zs ri⟩
 | .non,_,_,hk,_,_=>by cases hk
 | .bl _,_,_,hk,_,_=>by cases hk
 | .lst _,_,_,hk,_,_=>by cases hk
theorem kAts_of (S:zbm X s H):∀ (x:List D) (v:List V) (u:List Value),D.hks x=true->RepDs X.K A0 H x v->Vals v u->KAts s.heap x u
 | [],v,u,_,q,r=>by
  simp only [RepDs] at q;subst q
  cases r
  simp only [KAts]
 | x::xs,v,u,hk,q,r=>by
  simp only [RepDs] at q
  obtain ⟨w,ws,rfl,q1,q2⟩:=q
  cases r with
  | cons r1 r2=>
   rw [D.hks,Bool.and_eq_true] at hk
   simp only [KAts]
   exact ⟨_,_,rfl,zdO S x w _ hk.1 q1 r1,kAts_of S xs ws _ hk.2 q2 r2⟩
end
theorem zb0 {k:D} (h:zai k=true):D.hk k=true/\k.dep<=8:=by
 cases k with
 | tup xs=>
  rw [zai,Bool.and_eq_true] at h
  have:=of_decide_eq_true h.2
  exact ⟨h.1,by simp only [D.dep];omega⟩
 | _=>cases h
theorem zdQ {k:D} {v:V} (h:zai k=true) (q:RepD X.K A0 H k v):∃ b,v=.ref b:=by
 cases k with
 | tup xs=>simp only [RepD] at q;obtain ⟨a,_,e,_⟩:=q;exact ⟨a,e⟩
 | _=>cases h
theorem zdt (S:zbm X s H) {k:D} {b:Addr} (h:zai k=true) (q:RepD X.K A0 H k (.ref b)):(dKind X.prog X.w).is s.heap k b:=
 ⟨(zb0 h).2,zdO S k (.ref b) (.ref b) (zb0 h).1 q rfl⟩
end
noncomputable def KvR (K:PySem.W.Frag) (A:Addr->Prop) (H:Hp) (p:D×D) (q:D×Addr×Value):Prop:=p.1=q.1/\(zai p.1=true/\RepD K A H p.1 (.ref q.2.1))/\∃ v,RelV v q.2.2/\RepD K A H p.2 v
theorem zdz {α β γ:Type} {F:α->β->Prop} {G:β->γ->Prop} {T:α->γ->Prop} (k:∀ a b c,F a b->G b c->T a c):∀ {xs:List α} {ys:List β} {zs:List γ},Paired F xs ys->Paired G ys zs->Paired T xs zs
 | _,_,_,.nil,.nil=>.nil
 | _,_,_,.cons f fs,.cons g gs=>.cons (k _ _ _ f g) (zdz k fs gs)
section
variable {X:Cx} {pins:List (Addr×Obj)} {σ:St} {H:Hp} {s:Shared} {μ:List Addr} {h:Sto} {l:Nat} {a:Addr} {kvs:List (D×D)}
structure zpv (X:Cx) (μ:List Addr) (h:Sto) (H:Hp) (s:Shared) (a:Addr) (kvs:List (D×D)) (xv:List (D×Addr×Value)):Prop where
 sys:(a==sysModules)=false
 len:kvs.length<=sizeLine
 rel:Paired (KvR X.K (Live μ h) H) kvs xv
 dic:s.heap.DictOfH (dKind X.prog X.w) a xv
theorem zc5 (I:Inv X pins σ H s) (R0:Rep X.K μ h H) (ea:μ[l]?=some a) (ho:h[l]?=some (.dic kvs)\/h[l]?=some (.dfr kvs)):∃ xs xv,(h[l]?=some (.dic kvs)->H a=some (.dT xs))/\Rd H a (.dT xs)/\Paired (λ(p:D×D) (q:D×Addr×V)=>p.1=q.1/\(zai p.1=true/\RepD X.K (Live μ h) H p.1 (.ref q.2.1))/\RepD X.K (Live μ h) H p.2 q.2.2) kvs xs ∧
  Paired (λ(p:D×Addr×V) (q:D×Addr×Value)=>p.1=q.1/\p.2.1=q.2.1/\RelV p.2.2 q.2.2) xs xv/\zpv X μ h H s a kvs xv:=by
 have zz:∃ xs,(h[l]?=some (.dic kvs)->H a=some (.dT xs))/\Rd H a (.dT xs)/\Paired (λ(p:D×D) (q:D×Addr×V)=>p.1=q.1/\(zai p.1=true/\RepD X.K (Live μ h) H p.1 (.ref q.2.1))/\RepD X.K (Live μ h) H p.2 q.2.2) kvs xs:=by
  rcases ho with ho | ho
  ·obtain ⟨xs,e,z⟩:=R0.obj l a _ ea ho
   exact ⟨xs,λ_=>e,.inl e,z⟩
  ·obtain ⟨ob,xs,e,z⟩:=R0.obj l a _ ea ho
   exact ⟨xs,(λq=>by rw [ho] at q;cases q),.inr ⟨ob,e⟩,z⟩
 obtain ⟨xs,e0,e,z⟩:=zz
 obtain ⟨hz,hS,xv,r,o,es,ep,h1,h2,h3,h4,h5⟩:=(show zbh X.prog X.w H s.heap a (.dT xs) from e.ok I.hok)
 have rel:Paired (KvR X.K (Live μ h) H) kvs xv:=zdz (λp q t ⟨c1,c2,c3⟩ ⟨d1,d2,d3⟩=>⟨c1.trans d1,⟨c2.1,by rw [<-d2];exact c2.2⟩,q.2.2,d3,c3⟩) z r
 refine ⟨xs,xv,e0,e,z,r,hS,by rw [Paired.length z];exact hz,rel,o,es,ep,h1,h2,h3,h4,?_,h5⟩
 have S:=zay I
 have all:∀ {l1:List (D×D)} {l2:List (D×Addr×Value)},Paired (KvR X.K (Live μ h) H) l1 l2->∀ x∈l2,(dKind X.prog X.w).is s.heap x.1 x.2.1:=by
  intro l1 l2 q
  induction q with
  | nil=>intro x hx;cases hx
  | @cons p q ps qs hq t ih=>
   intro x hx
   rcases List.mem_cons.mp hx with e | hx
   ·subst e
    obtain ⟨c1,c2,_⟩:=hq
    rw [<-c1]
    exact zdt S c2.1 c2.2
   ·exact ih x hx
 exact all rel
theorem zbO {K:PySem.W.Frag} {A:Addr->Prop} (k:D):∀ {kvs:List (D×D)} {xv:List (D×Addr×Value)},Paired (KvR K A H) kvs xv->(∃ d p v,dGet k kvs=some d/\atKey xv k=some p/\RelV v p.2/\RepD K A H d v)\/(dGet k kvs=none/\atKey xv k=none)
 | _,_,.nil=>.inr ⟨rfl,rfl⟩
 | _,_,.cons (a:=p) (b:=q) (l₁:=r) (l₂:=t) hq ht=>by
  obtain ⟨c1,c2,v,c3,c4⟩:=hq
  have e0:dGet k (p::r)=if p.1.same k then some p.2 else dGet k r:=rfl
  rw [e0,zca]
  by_cases e:p.1=k
  ·refine .inl ⟨p.2,q.2,v,by simp [e],?_,c3,c4⟩
   have:q.1=k:=by rw [<-c1];exact e
   simp [atKey,List.find?_cons,this]
  ·have e2:¬ q.1=k:=λz=>e (c1.trans z)
   have e3:atKey (q::t) k=atKey t k:=by simp [atKey,List.find?_cons,e2]
   rw [e3,if_neg (by simp [e])]
   exact zbO k ht
theorem zcq {x:R} {k:D} {h h':Sto} (e:kRd x h=some (k,h')):x=.d k/\zai k=true/\h'=h:=by
 cases x with
 | loc _=>cases e
 | d d=>
  simp only [kRd] at e
  split at e
  ·rename_i hk
   simp only [Option.some.injEq,Prod.mk.injEq] at e
   obtain ⟨rfl,rfl⟩:=e
   exact ⟨rfl,hk,rfl⟩
  ·cases e
theorem zbs {x:R} {kvs:List (D×D)} {h h':Sto} (e:dRd x h=some (kvs,h')):∃ l,x=.loc l/\(h[l]?=some (.dic kvs)\/h[l]?=some (.dfr kvs))/\h'=h:=by
 cases x with
 | d _=>cases e
 | loc l=>
  simp only [dRd] at e
  split at e
  ·rename_i kvs' ho
   simp only [Option.some.injEq,Prod.mk.injEq] at e
   obtain ⟨rfl,rfl⟩:=e
   exact ⟨l,rfl,.inl ho,rfl⟩
  ·rename_i kvs' ho
   simp only [Option.some.injEq,Prod.mk.injEq] at e
   obtain ⟨rfl,rfl⟩:=e
   exact ⟨l,rfl,.inr ho,rfl⟩
  ·cases e
end
section
variable {X:Cx} {a b e:Expr} {pos:Pos} {f g:IT.Env->M R}
noncomputable def mIn (neg:Bool) (y x:R):M R:=bnd (dRd x) λkvs=>bnd (kRd y) λk=>ok (.d (.bl (if neg then !(dGet k kvs).isSome else (dGet k kvs).isSome)))
theorem zi4 (hu:X.A.units+64<cLine):(dKind X.prog X.w).room X.A.in1:=by
 show X.A.units+1+8<cLine
 omega
theorem zlt (hu:X.A.units+64<cLine):OpI X (compareOp .In) (mIn false):=by
 intro pins s σ H x y v u Q I rx ry q
 obtain ⟨μ,h,y1,x1,R0,qy,qx,r,h',e,k⟩:=q
 simp only [mIn,zaa,zab] at e
 obtain ⟨kvs,h1,e1,kk,h2,e2,rfl,rfl⟩:=e
 obtain ⟨l,rfl,ho,rfl⟩:=zbs e1
 obtain ⟨rfl,hk,rfl⟩:=zcq e2
 obtain ⟨c,ea,rfl⟩:=qx
 cases ry
 obtain ⟨b,rfl⟩:=zdQ hk qy
 cases rx
 obtain ⟨xs,xv,_,_,_,_,D⟩:=zc5 I R0 ea ho
 refine wpAny_in_heap (zi4 hu) (zdt (zay I) hk qy) D.sys D.dic ?_
 have e3:(atKey xv kk).isSome=(dGet kk kvs).isSome:=by
  rcases zbO kk D.rel with ⟨d,p,v,z1,z2,_⟩ | ⟨z1,z2⟩<;>rw [z1,z2]<;>rfl
 rw [e3]
 exact ⟨.bl _,H,I.tok _,rfl,k μ H _ Stp.refl R0 (by simp only [RepR,RepD,Bool.false_eq_true,if_false])⟩
theorem zfA (hu:X.A.units+64<cLine):OpI X (compareOp .NotIn) (mIn true):=by
 intro pins s σ H x y v u Q I rx ry q
 obtain ⟨μ,h,y1,x1,R0,qy,qx,r,h',e,k⟩:=q
 simp only [mIn,zaa,zab] at e
 obtain ⟨kvs,h1,e1,kk,h2,e2,rfl,rfl⟩:=e
 obtain ⟨l,rfl,ho,rfl⟩:=zbs e1
 obtain ⟨rfl,hk,rfl⟩:=zcq e2
 obtain ⟨c,ea,rfl⟩:=qx
 cases ry
 obtain ⟨b,rfl⟩:=zdQ hk qy
 cases rx
 obtain ⟨xs,xv,_,_,_,_,D⟩:=zc5 I R0 ea ho
 refine PyProof.Rows.wpAny_notIn_heap (zi4 hu) (zdt (zay I) hk qy) D.sys D.dic ?_
 have e3:(atKey xv kk).isSome=(dGet kk kvs).isSome:=by
  rcases zbO kk D.rel with ⟨d,p,v,z1,z2,_⟩ | ⟨z1,z2⟩<;>rw [z1,z2]<;>rfl
 rw [e3]
 exact ⟨.bl _,H,I.tok _,rfl,k μ H _ Stp.refl R0 (by simp only [RepR,RepD,if_true])⟩
theorem zoi (hu:X.A.units+64<cLine) {neg:Bool} {op:CmpOp} (ho:op=if neg then .NotIn else .In) (ha:IE X a f) (hb:IE X b g) (hm:behindInMarks op b=false):IE X (.Compare a [op] [b] pos) (λσ=>bnd (f σ) λy=>bnd (g σ) λx=>mIn neg y x):=by
 cases neg with
 | false=>subst ho;exact zjO (zlt hu) ha hb hm
 | true=>subst ho;exact zjO (zfA hu) ha hb hm
theorem znP (hu:X.A.units+64<cLine) {neg:Bool} {op:CmpOp} (ho:op=if neg then .NotIn else .In) (ha:IE X a f) (hb:IE X b g) (hm:behindInMarks op b=false):IT' X (.Compare a [op] [b] pos) (λσ=>bnd (bnd (f σ) λy=>bnd (g σ) λx=>mIn neg y x) λr=>bnd (rd r) λd=>opt (tru d)):=by
 have hbl:∀ x y h r h',mIn neg x y h=some (r,h')->∃ t,r=.d (.bl t):=by
  intro x y h r h' e
  simp only [mIn,zaa,zab] at e
  obtain ⟨_,_,_,_,_,_,rfl,_⟩:=e
  exact ⟨_,rfl⟩
 cases neg with
 | false=>subst ho;exact zic (zlt hu) ha hb hm hbl
 | true=>subst ho;exact zic (zfA hu) ha hb hm hbl
noncomputable def mDx (x y:R):M R:=bnd (dRd x) λkvs=>bnd (kRd y) λk=>bnd (opt (dGet k kvs)) λv=>ok (.d v)
theorem zor (hu:X.A.units+64<cLine):IxR X (λv u H Q=>OpIQ X.K mDx v u H Q):=by
 intro value slice pins s σ H x y v u Q I rx ry q hs
 obtain ⟨μ,h,x1,y1,R0,qx,qy,r,h',e,k⟩:=q
 simp only [mDx,zaa,zab,zaq] at e
 obtain ⟨kvs,h1,e1,kk,h2,e2,z,h3,⟨e3,rfl⟩,rfl,rfl⟩:=e
 obtain ⟨l,rfl,ho,rfl⟩:=zbs e1
 obtain ⟨rfl,hk,rfl⟩:=zcq e2
 obtain ⟨c,ea,rfl⟩:=qx
 cases rx
 obtain ⟨b,rfl⟩:=zdQ hk qy
 cases ry
 obtain ⟨xs,xv,_,_,_,_,D⟩:=zc5 I R0 ea ho
 rcases zbO kk D.rel with ⟨d,p,w,z1,z2,z3,z4⟩ | ⟨z1,_⟩
 ·rw [z1] at e3
  cases e3
  refine PyProof.Rows.subscriptTail_builtinR (x:=p.2) D.dic.typeIs PySem.slot_dict_getitem.lookup ?_ hs
  exact wpAny_getItem_heap (zi4 hu) (zdt (zay I) hk qy) D.dic z2 ⟨rfl,w,H,I.tok _,z3,k μ H _ Stp.refl R0 z4⟩
 ·rw [z1] at e3;cases e3
theorem zpk (hu:X.A.units+64<cLine) (ha:IE X a f) (hb:IE X b g) (hs:zds b):IE X (.Subscript a b pos) (λσ=>bnd (f σ) λx=>bnd (g σ) λy=>mDx x y):=
 PE.imp (zmp (zor hu) ha hb hs) λσ H Q q=>two q
theorem zm6 (hu:X.A.units+64<cLine):MtR X "dict.get" (λx vs H Q=>∃ μ h l kvs kk w,Rep X.K μ h H/\RepR X.K μ h H (.loc l) x/\(h[l]?=some (.dic kvs)\/h[l]?=some (.dfr kvs))/\vs=[w]/\zai kk=true/\RepD X.K (Live μ h) H kk w/\(∀ z,RepD X.K (Live μ h) H ((dGet kk kvs).getD .non) z->Q z H)):=by
 intro pins s σ H x vs v us Q I rx rs q
 obtain ⟨μ,h,l,kvs,kk,w,R0,⟨c,ea,rfl⟩,ho,rfl,hk,qk,k⟩:=q
 cases rx
 obtain ⟨u,rfl,ru⟩:=rs.one
 obtain ⟨b,rfl⟩:=zdQ hk qk
 cases ru
 obtain ⟨xs,xv,_,_,_,_,D⟩:=zc5 I R0 ea ho
 refine call_meetsIn F.slot_dict_get D.dic.typeIs F.entry_dict_get (F.args_dict_get_2 _ _) (meetsH_dict_get (dKind X.prog X.w) c b D.sys) ⟨zi4 hu,kk,xv,zdt (zay I) hk qk,D.dic,?_⟩
 rcases zbO kk D.rel with ⟨d,p,w,z1,z2,z3,z4⟩ | ⟨z1,z2⟩
 ·rw [z1] at k
  rw [z2]
  exact ⟨w,H,I.tok _,z3,k _ z4⟩
 ·rw [z1] at k
  rw [z2]
  exact ⟨.non,H,I.tok _,rfl,k _ (by simp only [Option.getD_none,RepD])⟩
theorem znz {o e:Expr} {name:Str} {apos cpos:Pos} (hu:X.A.units+64<cLine) (ho:IE X o f) (he:IE X e g) (hname:name=("get":Str))
  (hbase:attributeBase o name X.env (eval o X.env)=eval o X.env)
  (hfew:((backTo cpos (starEach [e] X.env)).all (λx=>!x.1)&&(backToKw cpos (keywordEach [] X.env)).all (λx=>x.1.isSome)
   && decide ([e].length+([]:List Keyword).length+(if ([]:List Keyword).isEmpty then 0 else 1)<30))=true)
  (hline:(apos.endLine==cpos.line)=true) (hs:starEach [e] X.env=[(false,eval e X.env)]) (hplain:(backTo cpos (starEach [] X.env)).any (·.1)=false) :
  IE X (.Call (.Attribute o name apos) [e] [] cpos) (λσ=>bnd (f σ) λx=>bnd (dRd x) λ_=>bnd (g σ) λy=>bnd (dRd x) λkvs=>bnd (kRd y) λk=>ok (.d ((dGet k kvs).getD .non))):=by
 subst hname
 refine PE.imp (zkf PySem.F.plainAttrs_dict PySem.F.slot_dict_get PySem.F.type_dict_get (zm6 hu) ho (zaY he zbI hs) hbase hfew hline hs hplain) λσ H Q q0=>?_
 obtain ⟨μ,h,env,R0,re,r,h',e,k⟩:=q0
 simp only [zaa,zab] at e
 obtain ⟨x,h1,e1,kv0,h1',e0,y,h2,e2,kvs,h3,e3,kk,h4,e4,rfl,rfl⟩:=e
 obtain ⟨l,rfl,ho1,rfl⟩:=zbs e0
 obtain ⟨l',el,ho2,rfl⟩:=zbs e3
 cases el
 obtain ⟨rfl,hk,rfl⟩:=zcq e4
 refine ⟨μ,h,env,R0,re,.loc l,_,e1,λμ1 H1 v s1 R1 q1=>?_⟩
 have q1':=q1
 obtain ⟨a,ea,rfl⟩:=q1'
 have ex:∃ xs,Rd H1 a (.dT xs):=by
  rcases ho1 with ho1 | ho1
  ·obtain ⟨xs,ex,_⟩:=R1.obj l a _ ea ho1;exact ⟨xs,.inl ex⟩
  ·obtain ⟨ob,xs,ex,_⟩:=R1.obj l a _ ea ho1;exact ⟨xs,.inr ⟨ob,ex⟩⟩
 refine ⟨.inr (.inr (.inl ⟨rfl,.inr ex⟩)),μ1,_,env,R1,re.stp s1 R0,_,_,e2,λμ2 H2 w s2 R2 q2=>?_⟩
 exact ⟨μ2,_,l,kvs,kk,w,R2,q1.stp s2 R1,ho2,rfl,hk,q2,λz qz=>k μ2 H2 z (s1.trans s2) R2 qz⟩
end
noncomputable def putV {β:Type} (k:D) (b:Addr) (v:β):List (D×Addr×β)->List (D×Addr×β)
 | []=>[(k,b,v)]
 | q::r=>if q.1=k then (q.1,q.2.1,v)::r else q::putV k b v r
theorem zez {β:Type} (k:D) (b:Addr) (v:β):∀ xs:List (D×Addr×β),(putV k b v xs).length<=xs.length+1
 | []=>by simp [putV]
 | q::r=>by
  have:=zez k b v r
  rw [putV]
  split<;>simp<;>omega
theorem zfG {k:D} {v:Value}:∀ {xs:List (D×Addr×Value)},k ∉ xs.map (·.1)->xs.map (putAt k v)=xs
 | [],_=>rfl
 | x::r,h=>by
  rw [List.map_cons,List.mem_cons,not_or] at h
  have e:putAt k v x=x:=if_neg λe=>h.1 e.symm
  rw [List.map_cons,e,zfG h.2]
theorem zcU (k:D) (b:Addr) (v:Value):∀ {xs:List (D×Addr×Value)},(xs.map (·.1)).Nodup->storedH xs k b v=putV k b v xs
 | [],_=>by simp [storedH,atKey,putV]
 | x::r,n=>by
  rw [List.map_cons,List.nodup_cons] at n
  rw [putV]
  by_cases e:x.1=k
  ·rw [if_pos e]
   have h1:(atKey (x::r) k).isSome=true:=by simp [atKey,List.find?_cons,e]
   unfold storedH
   rw [if_pos h1,List.map_cons,zfG (by rw [<-e];exact n.1)]
   simp [putAt,e]
  ·rw [if_neg e,<-zcU k b v n.2]
   have h1:atKey (x::r) k=atKey r k:=by simp [atKey,List.find?_cons,e]
   unfold storedH
   rw [h1]
   split
   ·rw [List.map_cons,putAt,if_neg e]
   ·rfl
theorem zeQ {α:Type} {F:D×α->D×Addr×V->Prop} {k:D} {d:α} {b:Addr} {v:V} (hF:∀ p q,F p q->p.1=q.1) (h1:F (k,d) (k,b,v)) (h2:∀ p q,F p q->p.1=k->F (p.1,d) (q.1,q.2.1,v)) (pt:List (D×α)->List (D×α))
  (p0:pt []=[(k,d)]) (pc:∀ p r,pt (p::r)=if p.1.same k then (p.1,d)::r else p::pt r):∀ {xs:List (D×α)} {ys:List (D×Addr×V)},Paired F xs ys->Paired F (pt xs) (putV k b v ys)
 | _,_,.nil=>by rw [p0,putV];exact .cons h1 .nil
 | _,_,.cons (a:=p) (b:=q) (l₁:=r) (l₂:=t) hq ht=>by
  rw [pc,putV,zca]
  by_cases e:p.1=k
  ·rw [if_pos (by simp [e]),if_pos (by rw [<-hF p q hq];exact e)]
   exact .cons (h2 p q hq e) ht
  ·rw [if_neg (by simp [e]),if_neg (by rw [<-hF p q hq];exact e)]
   exact .cons hq (zeQ hF h1 h2 pt p0 pc ht)
theorem zfi {k:D} {b:Addr} {v:V} {u:Value} (rv:RelV v u):∀ {xs:List (D×Addr×V)} {ys:List (D×Addr×Value)},Paired (λ(p:D×Addr×V) (q:D×Addr×Value)=>p.1=q.1/\p.2.1=q.2.1/\RelV p.2.2 q.2.2) xs ys →
  Paired (λ(p:D×Addr×V) (q:D×Addr×Value)=>p.1=q.1/\p.2.1=q.2.1/\RelV p.2.2 q.2.2) (putV k b v xs) (putV k b u ys)
 | _,_,.nil=>.cons ⟨rfl,rfl,rv⟩ .nil
 | _,_,.cons (a:=p) (b:=q) (l₁:=r) (l₂:=t) hq ht=>by
  rw [putV,putV,hq.1]
  split
  ·exact .cons ⟨rfl,hq.2.1,rv⟩ ht
  ·exact .cons hq (zfi rv ht)
section
variable {X:Cx}
noncomputable def zpu (K:PySem.W.Frag):TSet:=λo i v H Q=>∃ μ h l kvs k d,Rep K μ h H/\RepR K μ h H (.loc l) o/\h[l]?=some (.dic kvs)/\zai k=true/\RepD K (Live μ h) H k i/\RepD K (Live μ h) H d v/\kvs.length<big ∧
 (∀ H',Stp μ h H μ (h.set l (.dic (dPut k d kvs))) H'->Rep K μ (h.set l (.dic (dPut k d kvs))) H'->Q H')
theorem zlX (hu:X.A.units+64<cLine):PSet X (zpu X.K):=by
 intro pins s σ H o i v ov iv u Q I ro ri rv q
 obtain ⟨μ,h,l,kvs,k,d,R0,⟨a,ea,rfl⟩,ho,hk,qk,qd,hb,q⟩:=q
 cases ro
 obtain ⟨b,rfl⟩:=zdQ hk qk
 cases ri
 obtain ⟨xs,xv,eH0,_,z,r,DA⟩:=zc5 I R0 ea (.inl ho)
 have eH:=eH0 ho
 have lx:xs.length=xv.length:=Paired.length r
 have lk:kvs.length=xs.length:=Paired.length z
 have hbig:big=sizeLine:=rfl
 refine wpAny_setItem_heap (hsz:=by omega) (zi4 hu) (zdt (zay I) hk qk) DA.dic λh' dd' hs=>?_
 obtain ⟨o,es,ep,g1,g2,g3,g4,g5,g6⟩:=dd'
 have nd:(xv.map (·.1)).Nodup:=let ⟨_,_,_,_,_,_,_,_,n⟩:=DA.dic;n
 rw [zcU k b u nd] at g4 g6
 refine ⟨upd H a (.dT (putV k b v xs)),I.write (x:=a) (e:=a) (by rw [eH];exact True.intro) (.inl rfl) (λc w hc e=>(hs.2 c hc).trans e) ⟨o,g1⟩ ⟨by have:=zez k b v xs;omega,DA.sys,_,zfi rv r,o,es,ep,g1,g2,g3,g4,g6⟩,?_⟩
 obtain ⟨s2,R2⟩:=zly (o':=.dic (dPut k d kvs)) (u:=.dT (putV k b v xs)) R0 ea ho rfl λst=>⟨putV k b v xs,zaj,zeQ (F:=λ(p:D×D) (q:D×Addr×V)=>p.1=q.1/\(zai p.1=true/\RepD X.K (Live μ (h.set l (.dic (dPut k d kvs)))) (upd H a (.dT (putV k b v xs))) p.1 (.ref q.2.1))/\RepD X.K (Live μ (h.set l (.dic (dPut k d kvs)))) (upd H a (.dT (putV k b v xs))) p.2 q.2.2)
  (λp q z=>z.1) ⟨rfl,⟨hk,RepD.stp st R0 qk⟩,RepD.stp st R0 qd⟩ (λp q z e=>⟨z.1,z.2.1,RepD.stp st R0 qd⟩) (dPut k d) rfl (λp r=>rfl) (L2.Paired.mapP z λp q y=>⟨y.1,⟨y.2.1.1,RepD.stp st R0 y.2.1.2⟩,RepD.stp st R0 y.2.2⟩)⟩
 exact q _ s2 R2
theorem zmP {o i e:Expr} {pos p2:Pos} {f g k:IT.Env->M R} (hu:X.A.units+64<cLine) (he:IE X e f) (ho:IE X o g) (hi:IE X i k)
  (ha:∀ v,assign (.Subscript o i p2) X.env v=(do let ov<-holding [v] (eval o X.env);let iv<-holding [v,ov] (eval i X.env);standAt p2;holding [v,ov,iv] (setItem ov iv v);release [v,ov,iv] []))
  (hs:swapsWithSole [.Subscript o i p2] e pos.line X.env=pure false) (hw:swappedStores [.Subscript o i p2] e X.env=pure none) (h1:(assignEach [.Subscript o i p2] X.env).map (·.2)=[assign (.Subscript o i p2) X.env]) :
  PS X (.Assign [.Subscript o i p2] e pos) (tS X.K λσ=>bnd (f σ) λr=>bnd (g σ) λx=>bnd (k σ) λy=>bnd (fz r) λd=>bnd (kRd y) λk=>bnd (dSet x k d) λ_=>ok (.nx,σ)):=by
 refine PS.imp (ziH he (zoU ho hi (zlX hu) ha) hs hw h1) λD σ H q0=>?_
 obtain ⟨μ,h,env,R0,re,fl,env',h',e,kk⟩:=q0
 simp only [zaa,zab,Prod.mk.injEq] at e
 obtain ⟨r,h1,e1,x,h2,e2,y,h3,e3,d,h4,e4,ky,h5,e5,_,h6,e6,⟨rfl,rfl⟩,rfl⟩:=e
 refine ⟨μ,h,env,R0,re,r,h1,e1,λμ1 H1 v s1 R1 q1=>⟨μ1,h1,env,R1,re.stp s1 R0,x,h2,e2,λμ2 H2 u s2 R2 q2=>⟨μ2,h2,env,R2,re.stp (s1.trans s2) R0,y,h3,e3,λμ3 H3 w s3 R3 q3=>?_⟩⟩⟩
 obtain ⟨s4,R4,zd⟩:=zk9 R3 ((q1.stp s2 R1).stp s3 R2) e4
 obtain ⟨rfl,hk,rfl⟩:=zcq e5
 cases x with
 | d _=>cases e6
 | loc l=>
  simp only [dSet] at e6
  split at e6
  ·rename_i kvs hx
   split at e6
   ·rename_i hb
    simp only [Option.some.injEq,Prod.mk.injEq] at e6
    obtain ⟨_,rfl⟩:=e6
    refine ⟨μ3,_,l,kvs,ky,d,R4,(q2.stp s3 R2).stp s4 R3,hx,hk,(q3.stp s4 R3),zd,of_decide_eq_true hb,λH' s5 R5=>?_⟩
    have st:=(((s1.trans s2).trans s3).trans s4).trans s5
    exact kk μ3 _ σ st R5 (re.stp st R0)
   ·cases e6
  ·cases e6
theorem zmt {pos:Pos}:IE X (.Dict [] [] pos) (λ_=>dNew):=by
 intro pins s σ H Q I q
 obtain ⟨μ,h,env,R0,re,r,h',e,k⟩:=q
 simp only [dNew,Option.some.injEq,Prod.mk.injEq] at e
 obtain ⟨rfl,rfl⟩:=e
 have hf:=I.fresh
 refine wpAny_Dict_empty ⟨.ref s.heap.objs.size,upd H s.heap.objs.size (.dT []),I.laid (t':=s.toks) (λ_ _ q=>Heap.get?_push_of_some _ q) (Nat.le_refl _) ⟨Nat.zero_le _,beq_eq_false_iff_ne.mpr (Ne.symm (Nat.ne_of_lt (zlF I))),[],.nil,_,#[],0,Heap.get?_push_size _ rfl,⟨rfl,rfl,rfl⟩,rfl,rfl,List.nodup_nil⟩,rfl,?_⟩
 exact k (μ++[s.heap.objs.size]) _ _ (Stp.allocO R0 hf) (R0.allocO hf ⟨[],zaj,.nil⟩) ⟨_,by rw [<-R0.len];simp,rfl⟩
end
end IT
set_option linter.all false
set_option maxHeartbeats 4000000
set_option maxRecDepth 100000
namespace IT
open PySem PySem.Spec L2
section
variable {prog:Program} {w:World} {A:Around} {E:Value->Shared->Prop} {R:Result->Shared->Prop}
theorem zfK {h h':Heap} {d:Addr} {xs:List (D×Addr×Value)} (m:h.DictOfH (dKind prog w) d xs) (k:∀ o,h.get? d=some o->h'.get? d=some o) (kt:∀ a its,h.IsTuple a its->h'.IsTuple a its):h'.DictOfH (dKind prog w) d xs:=by
 obtain ⟨o,es,ep,g1,g2,g3,g4,g5,g6⟩:=m
 exact ⟨o,es,ep,k o g1,g2,g3,g4,λx hx=>⟨(g5 x hx).1,KAt.keep kt _ _ (g5 x hx).2⟩,g6⟩
theorem zer {h h':Heap} {I:Addr} (k:∀ b o,b≠I->h.get? b=some o->h'.get? b=some o) (n:∀ its,¬ h.IsTuple I its) (a:Addr) (its:Array Value) (t:h.IsTuple a its):h'.IsTuple a its:=by
 have ne:a≠I:=λe=>n its (e▸t)
 obtain ⟨o,e,r⟩:=t
 exact ⟨o,k a o ne e,r⟩
theorem zg1 {h:Heap} {I t:Addr} {i:Nat} (q:h.IsTupleIter I t i) (its:Array Value):¬ h.IsTuple I its:=by
 rintro ⟨o,e,c,_⟩
 obtain ⟨o',e',c',_⟩:=q
 rw [e] at e'
 cases e'
 rw [c] at c'
 injection c' with z
 exact absurd z (by decide)
theorem zmu {h:Heap} {d:Addr} {xs:List (D×Addr×Value)} (m:h.DictOfH (dKind prog w) d xs) (its:Array Value):¬ h.IsTuple d its:=by
 rintro ⟨o,e,c,n,z⟩
 obtain ⟨o',es,ep,e',_,z',_⟩:=m
 rw [e] at e'
 cases e'
 rw [z] at z'
 cases z'
noncomputable def zj1 (xs:List (D×Addr×Value)):List (Addr×D×Addr×Value)->List (D×Addr×Value)
 | []=>xs
 | r::rest=>zj1 (storedH xs r.2.1 r.2.2.1 r.2.2.2) rest
theorem zgv (xs:List (D×Addr×Value)) (k:D) (b:Addr) (v:Value):(storedH xs k b v).length<=xs.length+1:=by
 unfold storedH
 split
 ·simp
 ·simp
theorem zkw {d I t:Addr} {items:Array Value} (hA:A.handled=none) (hu:A.units+9<cLine) (hdI:d≠I) (htI:t≠I) (htd:t≠d) :
  ∀ (rest:List (Addr×D×Addr×Value)) (i:Nat) (s:Shared) (xs:List (D×Addr×Value)),s.heap.IsTupleIter I t i->s.heap.IsTuple t items->s.heap.DictOfH (dKind prog w) d xs->xs.length+rest.length<=sizeLine →
  items.toList.drop i=rest.map (λr=>.ref r.1) →
  (∀ r∈rest,s.heap.IsTuple r.1 #[.ref r.2.2.1,r.2.2.2]/\(dKind prog w).is s.heap r.2.1 r.2.2.1) →
  (∀ h' tk,h'.DictOfH (dKind prog w) d (zj1 xs rest)->(∀ b o,b≠d->b≠I->s.heap.get? b=some o->h'.get? b=some o)->R (.ok (.ret .none)) { s with heap:=h',toks:=tk }) →
  codeAny (model prog w) A (.builtin "dict.update.loop" ⟨[.ref d,.ref I,rawInt i,.none],[]⟩) R s:=by
 intro rest
 induction rest with
 | nil=>
  intro i s xs hit ht hm hsz hdr hr hR
  have hx:items[i]?=none:=by
   have:=congrArg List.length hdr
   simp at this
   simp
   omega
  refine codeAny_builtin zc9 ?_
  rw [Around.under_plainId zbe _]
  show wpAny _ A.in1 (pyNext (.ref I) >>= _) _ _ s
  refine wpAny_bind (wpAny_pyNext_tuple_end hA hit ht hx λh' he=>?_)
  show wpAny _ _ (Builtin.Dict.addKeywords d [] >>= _) _ _ _
  exact wpAny_bind (wpAny_pure (wpAny_pure (hR h' s.toks (zfK hm (λo e=>he d o hdI e) (zer (λb o hb e=>he b o hb e) (zg1 hit))) λb o _ hb e=>he b o hb e)))
 | cons r rest ih=>
  intro i s xs hit ht hm hsz hdr hr hR
  have hx:items[i]?=some (.ref r.1):=by
   have:=congrArg (λz=>z[0]?) hdr
   simpa using this
  have hdr':items.toList.drop (i+1)=rest.map (λr=>.ref r.1):=by
   have:=congrArg List.tail hdr
   simpa using this
  obtain ⟨r3,r4⟩:=hr r (by simp)
  refine codeAny_builtin zc9 ?_
  rw [Around.under_plainId zbe _]
  show wpAny _ A.in1 (pyNext (.ref I) >>= _) _ _ s
  refine wpAny_bind (wpAny_pyNext_tuple_item hit ht hx λh1 hit1 hs1=>?_)
  have kt1:=zer (λb o hb e=>hs1.extBut b o hb e) (zg1 hit)
  have r3':h1.IsTuple r.1 #[.ref r.2.2.1,r.2.2.2]:=kt1 _ _ r3
  show wpAny _ _ (holding [.ref r.1] _ >>= _) _ _ _
  refine wpAny_bind (wpAny_holding (wpAny_bind (wpAny_tryCatch (zgb (s:={ s with heap:=h1 }) r3' ?_))))
  show wpAny _ _ (holding [.ref r.2.2.1,r.2.2.2] (dictSet d (.ref r.2.2.1) r.2.2.2)) _ _ _
  have hm1:h1.DictOfH (dKind prog w) d xs:=zfK hm (λo e=>hs1.extBut d o hdI e) kt1
  refine wpAny_holding (wpAny_dictSet_heap (s:={ s with heap:=h1 }) (knd:=dKind prog w) (show A.units+1+8<cLine by omega) ⟨r4.1,KAt.keep kt1 _ _ r4.2⟩ hm1 (λh2 hd2 hs2=>?_) (by simp at hsz;omega))
  refine wpAny_pure ⟨plainId_quiet zbe _,?_⟩
  have kt2:=zer (λb o hb e=>hs2.extBut b o hb e) (zmu hm1)
  refine ih (i+1) _ (storedH xs r.2.1 r.2.2.1 r.2.2.2) (hit1.extBut hs2.extBut (Ne.symm hdI)) (kt2 _ _ (kt1 _ _ ht)) hd2 ?_ hdr' (λq hq=>?_) λh' tk hd' hk=>?_
  ·have:=zgv xs r.2.1 r.2.2.1 r.2.2.2
   simp at hsz
   omega
  ·obtain ⟨q3,q4⟩:=hr q (by simp [hq])
   exact ⟨kt2 _ _ (kt1 _ _ q3),q4.1,KAt.keep kt2 _ _ (KAt.keep kt1 _ _ q4.2)⟩
  ·exact hR h' tk hd' λb o hb1 hb2 e=>hk b o hb1 hb2 (hs2.extBut b o hb1 (hs1.extBut b o hb2 e))
theorem zkz {s:Shared} {t:Addr} {items:Array Value} {n:Nat} {sl:Array (Option Value)} {rest:List (Addr×D×Addr×Value)} {Q:Value->Shared->Prop} (hA:A.handled=none) (hu:A.units+11<cLine)
  (ht:s.heap.get? t=some { cls:=.type "tuple",dict:=none,data:=.seq items n,slots:=sl }) (hsz:rest.length<=sizeLine) (hit:items.toList=rest.map (λr=>.ref r.1))
  (hr:∀ r∈rest,s.heap.IsTuple r.1 #[.ref r.2.2.1,r.2.2.2]/\(dKind prog w).is s.heap r.2.1 r.2.2.1)
  (h:∀ h' tk,h'.DictOfH (dKind prog w) s.heap.objs.size (zj1 [] rest)->(∀ b o,s.heap.get? b=some o->h'.get? b=some o)->Q (.ref s.heap.objs.size) { s with heap:=h',toks:=tk }) :
  wpAny (model prog w) A (call (.type "dict") [.ref t]) Q E s:=by
 refine callType_codes (Q₁:=λobj s₁=>obj=.ref s.heap.objs.size/\s₁={ s with heap:=s.heap.push { cls:=.type "dict",data:=.dict #[] } }) F.kt_called_dict (F.kt_typeCall_dict_1 _) F.entry_dict_init (kt_code_dict_new _ ⟨rfl,rfl⟩) ?_
 rintro obj s₁ ⟨rfl,rfl⟩
 have hnew:(s.heap.push { cls:=.type "dict",data:=.dict #[] }).DictOfH (dKind prog w) s.heap.objs.size []:=Heap.DictOfH.new s.heap
 have ht1:=Heap.get?_push_of_some { cls:=.type "dict",data:=.dict #[] } ht
 refine ⟨hnew.typeIs,F.args_dict_init_2 _ _,?_⟩
 unfold Builtin.«dict.__init__»
 refine wpAny_bind ?_
 unfold Builtin.Dict.selfAndRest
 refine wpAny_bind (wpAny_notOrdered_dict hnew.typeIs ?_)
 show wpAny _ _ (pure (s.heap.objs.size,[Value.ref t])) _ _ _
 refine wpAny_pure ?_
 show wpAny _ _ (Builtin.Dict.updateFrom "dict.__init__" s.heap.objs.size (.ref t) [] .none) _ _ _
 unfold Builtin.Dict.updateFrom
 refine wpAny_bind (wpAny_typeOf (T:="tuple") ⟨_,ht1,rfl⟩ ?_)
 rw [if_pos (by decide)]
 refine wpAny_bind (ze4 ht1 hA λh1 tk1 hk1=>?_)
 rw [if_pos (by rfl)]
 refine wpAny_bind (wpAny_rule ?_)
 have ht2:h1.IsTuple t items:=⟨_,hk1 _ _ ht1,rfl,n,rfl⟩
 refine wpAny_bind (wpAny_pyIter_tuple (s:={ s with heap:=h1,toks:=tk1 }) ht2 ?_)
 refine wpAny_pure ⟨plainId_quiet zbe _,?_⟩
 obtain ⟨od,ed,epd,hod,hcd⟩:=id hnew
 have hd1:=hk1 _ _ hod
 have lt1:s.heap.objs.size<h1.objs.size:=Heap.lt_size hd1
 have ltt:t<s.heap.objs.size:=Heap.lt_size ht
 have hlt:∀ b o,s.heap.get? b=some o->b<h1.objs.size/\b<s.heap.objs.size:=λb o e=>⟨Heap.lt_size (hk1 _ _ (Heap.get?_push_of_some _ e)),Heap.lt_size e⟩
 have keepT:∀ a its,s.heap.IsTuple a its->(h1.push { cls:=.type "tuple_iterator",data:=.fields #[.ref t,.int 0 0] }).IsTuple a its:=λa its ⟨o,e,r⟩=>⟨o,Heap.get?_push_of_some _ (hk1 _ _ (Heap.get?_push_of_some _ e)),r⟩
 have hd2:(h1.push { cls:=.type "tuple_iterator",data:=.fields #[.ref t,.int 0 0] }).DictOfH (dKind prog w) s.heap.objs.size []:=by
  obtain ⟨g2,g3,g4,_,g6⟩:=hcd
  exact ⟨od,ed,epd,Heap.get?_push_of_some _ hd1,g2,g3,g4,λx hx=>(nomatch hx),g6⟩
 refine zkw (A:=A.in1) (d:=s.heap.objs.size) (I:=h1.objs.size) (t:=t) hA (show A.units+1+9<cLine by omega) (Nat.ne_of_lt lt1) (Nat.ne_of_lt (Nat.lt_trans ltt lt1)) (Nat.ne_of_lt ltt) rest 0 { s with heap:=h1.push { cls:=.type "tuple_iterator",data:=.fields #[.ref t,.int 0 0] },toks:=tk1 } [] ⟨_,Heap.get?_push_size _ rfl,rfl,rfl⟩ (ht2.push _) hd2 (by simpa using hsz) (by simpa using hit) (λr hm=>?_) λh' tk hd' hk=>?_
 ·obtain ⟨q1,q2⟩:=hr r hm
  exact ⟨keepT _ _ q1,q2.1,KAt.keep keepT _ _ q2.2⟩
 ·refine ⟨rfl,h h' tk hd' λb o e=>?_⟩
  obtain ⟨l1,l2⟩:=hlt _ _ e
  exact hk b o (Nat.ne_of_lt l2) (Nat.ne_of_lt l1) (Heap.get?_push_of_some _ (hk1 _ _ (Heap.get?_push_of_some _ e)))
end
section
variable {X:Cx}
theorem zlN {K:PySem.W.Frag} {A:Addr->Prop} {H:Hp}:∀ {xs:List D} {vs:List V} {l:List (D×D)},RepDs K A H xs vs->zcz xs=some l →
  ∃ rs:List (Addr×D×Addr×D×V),vs=rs.map (λr=>V.ref r.1)/\l=rs.map (λr=>(r.2.1,r.2.2.2.1))/\∀ r∈rs,SqT K H r.1 [.ref r.2.2.1,r.2.2.2.2]/\(zai r.2.1=true/\RepD K A H r.2.1 (.ref r.2.2.1))/\RepD K A H r.2.2.2.1 r.2.2.2.2
 | [],vs,l,q,e=>by
  simp only [RepDs] at q
  simp only [zcz,Option.some.injEq] at e
  subst q e
  exact ⟨[],rfl,rfl,by simp⟩
 | x :: xs,vs,l,q,e=>by
  simp only [RepDs] at q
  obtain ⟨v,r,rfl,q1,q2⟩:=q
  match x,e,q1 with
  | .tup [k,d],e,q1=>
   simp only [zcz] at e
   split at e
   ·rename_i hk
    cases es:zcz xs with
    | none=>rw [es] at e;cases e
    | some l'=>
     rw [es] at e
     simp only [Option.some.injEq] at e
     subst e
     obtain ⟨rs,e1,e2,e3⟩:=zlN q2 es
     rw [RepD] at q1
     obtain ⟨p,ws,rfl,hp,z⟩:=q1
     simp only [RepDs] at z
     obtain ⟨v1,r1,rfl,z1,v2,r2,rfl,z2,rfl⟩:=z
     have:∃ b,v1=.ref b:=by
      cases k with
      | tup ys=>simp only [RepD] at z1;obtain ⟨b,_,eb,_⟩:=z1;exact ⟨b,eb⟩
      | _=>cases hk
     obtain ⟨b,rfl⟩:=this
     refine ⟨(p,k,b,d,v2)::rs,by rw [e1];rfl,by rw [e2];rfl,λr hr=>?_⟩
     rcases List.mem_cons.mp hr with rfl | hr
     ·exact ⟨hp,⟨hk,z1⟩,z2⟩
     ·exact e3 r hr
   ·cases e
theorem zfC {β:Type} {k:D} {b:Addr} {v:β}:∀ {xs:List (D×Addr×β)},(xs.map (·.1)).Nodup->((putV k b v xs).map (·.1)).Nodup/\∀ c,c∈(putV k b v xs).map (·.1)->c=k\/c∈xs.map (·.1)
 | [],_=>by simp [putV]
 | x :: r,n=>by
  rw [List.map_cons,List.nodup_cons] at n
  rw [putV]
  by_cases e:x.1=k
  ·rw [if_pos e]
   refine ⟨by rw [List.map_cons,List.nodup_cons];exact n,λc hc=>.inr ?_⟩
   simpa using hc
  ·rw [if_neg e]
   obtain ⟨i1,i2⟩:=zfC (k:=k) (b:=b) (v:=v) n.2
   refine ⟨?_,λc hc=>?_⟩
   ·rw [List.map_cons,List.nodup_cons]
    refine ⟨λh=>?_,i1⟩
    rcases i2 _ h with h | h
    ·exact e h
    ·exact n.1 h
   ·rw [List.map_cons,List.mem_cons] at hc ⊢
    rcases hc with hc | hc
    ·exact .inr (.inl hc)
    ·rcases i2 _ hc with h | h
     ·exact .inl h
     ·exact .inr (.inr h)
theorem zfD:∀ (rest:List (Addr×D×Addr×Value)) {xs:List (D×Addr×Value)},(xs.map (·.1)).Nodup->zj1 xs rest=rest.foldl (λys r=>putV r.2.1 r.2.2.1 r.2.2.2 ys) xs
 | [],xs,_=>rfl
 | r::rest,xs,n=>by
  rw [zj1,zcU _ _ _ n,List.foldl_cons,zfD rest (zfC n).1]
noncomputable abbrev PR (p:D×Addr×V) (q:D×Addr×Value):Prop:=p.1=q.1/\p.2.1=q.2.1/\RelV p.2.2 q.2.2
noncomputable def dVs (rs:List (Addr×D×Addr×D×V)) (ys:List (D×Addr×V)):List (D×Addr×V):=rs.foldl (λys r=>putV r.2.1 r.2.2.1 r.2.2.2.2 ys) ys
theorem ziL:∀ {rs:List (Addr×D×Addr×D×V)} {us:List (Addr×D×Addr×Value)},Paired (λr u=>r.2.1=u.2.1/\r.2.2.1=u.2.2.1/\RelV r.2.2.2.2 u.2.2.2) rs us->∀ {xs:List (D×Addr×V)} {ys:List (D×Addr×Value)},Paired PR xs ys →
  Paired PR (dVs rs xs) (us.foldl (λys r=>putV r.2.1 r.2.2.1 r.2.2.2 ys) ys)
 | _,_,.nil,xs,ys,z=>z
 | _,_,.cons (a:=r) (b:=u) ⟨h1,h2,h3⟩ t,xs,ys,z=>by
  unfold dVs
  rw [List.foldl_cons,List.foldl_cons,<-h1,<-h2]
  exact ziL t (zfi h3 z)
theorem ziT:∀ (rs:List (Addr×D×Addr×D×V)) (ys:List (D×Addr×V)),(dVs rs ys).length<=ys.length+rs.length
 | [],ys=>by simp [dVs]
 | r::rs,ys=>by
  have h1:=ziT rs (putV r.2.1 r.2.2.1 r.2.2.2.2 ys)
  have h2:=zez r.2.1 r.2.2.1 r.2.2.2.2 ys
  unfold dVs at h1 ⊢
  rw [List.foldl_cons,List.length_cons]
  omega
theorem zhu {F:D×D->D×Addr×V->Prop} (hF:∀ p q,F p q->p.1=q.1) (mk:∀ p q (d:D) (v:V) k b,F p q->F (k,d) (k,b,v)->p.1=k->F (p.1,d) (q.1,q.2.1,v)) :
  ∀ (rs:List (Addr×D×Addr×D×V)) {xs:List (D×D)} {ys:List (D×Addr×V)},(∀ r∈rs,F (r.2.1,r.2.2.2.1) (r.2.1,r.2.2.1,r.2.2.2.2))->Paired F xs ys →
  Paired F (dOfP xs (rs.map λr=>(r.2.1,r.2.2.2.1))) (dVs rs ys)
 | [],xs,ys,_,z=>z
 | r::rs,xs,ys,h,z=>by
  unfold dVs
  rw [List.map_cons,dOfP,List.foldl_cons]
  refine zhu hF mk rs (λq hq=>h q (List.mem_cons_of_mem _ hq)) ?_
  have h1:=h r List.mem_cons_self
  exact zeQ hF h1 (λp q z e=>mk p q _ _ _ _ z h1 e) (dPut r.2.1 r.2.2.2.1) rfl (λp r=>rfl) z
theorem zjH {pins:List (Addr×Obj)} {σ:St} {H:Hp} {s:Shared} {A0:Addr->Prop} (I:Inv X pins σ H s):∀ rs:List (Addr×D×Addr×D×V),(∀ r∈rs,SqT X.K H r.1 [.ref r.2.2.1,r.2.2.2.2]/\(zai r.2.1=true/\RepD X.K A0 H r.2.1 (.ref r.2.2.1))/\RepD X.K A0 H r.2.2.2.1 r.2.2.2.2) →
  ∃ us:List (Addr×D×Addr×Value),us.map (·.1)=rs.map (·.1)/\Paired (λr u=>r.2.1=u.2.1/\r.2.2.1=u.2.2.1/\RelV r.2.2.2.2 u.2.2.2) rs us/\∀ u∈us,s.heap.IsTuple u.1 #[.ref u.2.2.1,u.2.2.2]/\(dKind X.prog X.w).is s.heap u.2.1 u.2.2.1
 | [],_=>⟨[],rfl,.nil,by simp⟩
 | r::rs,h=>by
  obtain ⟨us,e1,e2,e3⟩:=zjH I rs λq hq=>h q (List.mem_cons_of_mem _ hq)
  obtain ⟨h1,h2,h3⟩:=h r List.mem_cons_self
  obtain ⟨its,rv,pt,_⟩:=I.tuple h1
  obtain ⟨u,w',rfl,ru,rw'⟩:=zpD rv
  cases ru
  refine ⟨(r.1,r.2.1,r.2.2.1,w')::us,by simp [e1],.cons ⟨rfl,rfl,rw'⟩ e2,λu hu=>?_⟩
  rcases List.mem_cons.mp hu with rfl | hu
  ·exact ⟨pt,zdt (zay I) h2.1 h2.2⟩
  ·exact e3 u hu
theorem zkm (hc:X.calm=true) (hu:X.A.units+64<cLine):zb7 X (.type "dict") (λxs H Q=>∃ (p:Addr) (A0:Addr->Prop) (rs:List (Addr×D×Addr×D×V)),xs=[.ref p]/\SqT X.K H p (rs.map λr=>V.ref r.1) ∧
  (∀ r∈rs,SqT X.K H r.1 [.ref r.2.2.1,r.2.2.2.2]/\(zai r.2.1=true/\RepD X.K A0 H r.2.1 (.ref r.2.2.1))/\RepD X.K A0 H r.2.2.2.1 r.2.2.2.2)/\∀ l ob,H l=none->Q (.ref l) (upd H l (.frz ob (.dT (dVs rs []))))):=by
 intro pins s σ H xs us Q I r h
 obtain ⟨p,A0,rs,rfl,hq,hp,q⟩:=h
 obtain ⟨u,rfl,rx⟩:=zhy r
 cases rx
 obtain ⟨us,e1,e2,e3⟩:=zjH I rs hp
 obtain ⟨its,rv,pt,hz⟩:=I.tuple hq
 have dd:=I.tupleB hq
 obtain ⟨⟨cls,dct,data,sl⟩,ho,hcl,n,hd⟩:=id pt
 have dd:=dd _ ho
 simp only at hcl hd dd
 subst hcl hd dd
 have eu:its=us.map λq=>Value.ref q.1:=by
  have:rs.map (λr=>V.ref r.1)=(rs.map (·.1)).map V.ref:=by rw [List.map_map];rfl
  rw [this] at rv
  rw [zf9 rv,<-e1,List.map_map]
  rfl
 have hl:us.length=rs.length:=by have:=congrArg List.length e1;simpa using this
 have hz':rs.length<=sizeLine:=by simpa using hz
 refine zkz (rest:=us) (I.ok.hd hc) (by omega) ho (by rw [hl];exact hz') (by simpa using eu) e3 λh' tk hD hk=>?_
 obtain ⟨ob,es,ep,g1,g2,g3,g4,g5,g6⟩:=hD
 rw [zfD us (xs:=[]) (show (([]:List (D×Addr×Value)).map (·.1)).Nodup from List.nodup_nil)] at g4 g6
 have hlen:(dVs rs []).length<=sizeLine:=by have:=ziT rs [];simp at this;omega
 refine ⟨.ref s.heap.objs.size,upd H s.heap.objs.size (.frz ob (.dT (dVs rs []))),I.laid (t':=tk) hk (Nat.le_refl _) ?_,rfl,q _ ob (I.hok.fresh (Nat.le_refl _))⟩
 exact ⟨g1,hlen,beq_eq_false_iff_ne.mpr (Ne.symm (Nat.ne_of_lt (zlF I))),_,ziL e2 .nil,ob,es,ep,g1,g2,g3,g4,g6⟩
theorem zn0 {a:Expr} {p pos:Pos} {f:IT.Env->M R} (hc:X.calm=true) (hu:X.A.units+64<cLine) (hg:Gl X "dict") (hm:X.mg "dict"=none) (ha:IE X a f) (hs:starEach [a] X.env=[(false,eval a X.env)]) :
  IE X (.Call (.Name "dict" p) [a] [] pos) (λσ=>bnd (f σ) λr=>bnd (rd r) λd=>bnd (opt (zj7 d)) λkvs=>zkK kvs):=by
 refine PE.imp (zbR (zkm hc hu) hg hm PyProof.Rows.boot_dict (zaY ha zbI hs) (by decide) (by decide) hs rfl) λσ H Q q=>?_
 obtain ⟨μ,h,env,R0,re,r,h',e,k⟩:=q
 simp only [zaa,zaq] at e
 obtain ⟨x,h1,e1,d,h2,e2,kvs,h3,⟨e3,rfl⟩,e4⟩:=e
 simp only [zkK,Option.some.injEq,Prod.mk.injEq] at e4
 obtain ⟨rfl,rfl⟩:=e4
 refine ⟨μ,h,env,R0,re,x,h1,e1,λμ1 H1 v s1 R1 q1=>?_⟩
 obtain ⟨rfl,z⟩:=zbg R1 q1 e2
 cases d with
 | tup xs=>
  simp only [RdD,RepD] at z
  obtain ⟨pa,vs,rfl,hq,zs⟩:=z
  simp only [zj7] at e3
  cases ep:zcz xs with
  | none=>rw [ep] at e3;cases e3
  | some l=>
   rw [ep] at e3
   simp only at e3
   split at e3
   ·cases e3
    obtain ⟨rs,rfl,rfl,hrs⟩:=zlN zs ep
    refine ⟨pa,_,rs,rfl,hq,hrs,λl ob hl=>?_⟩
    have st:Stp μ1 h2 H1 (μ1++[l]) (h2++[.dfr (dOfP [] (rs.map λr=>(r.2.1,r.2.2.2.1)))]) (upd H1 l (.frz ob (.dT (dVs rs [])))):=Stp.allocO R1 hl
    refine k (μ1++[l]) _ (.ref l) (s1.trans st) (R1.allocO hl ⟨ob,dVs rs [],zaj,?_⟩) ⟨l,by rw [<-R1.len];simp,rfl⟩
    exact zhu (F:=λ(p:D×D) (q:D×Addr×V)=>p.1=q.1/\(zai p.1=true/\RepD X.K _ _ p.1 (.ref q.2.1))/\RepD X.K _ _ p.2 q.2.2) (λp q z=>z.1) (λp q d v k b z z1 e=>⟨z.1,z.2.1,z1.2.2⟩) rs (λr hr=>⟨rfl,⟨(hrs r hr).2.1.1,RepD.stp st R1 (hrs r hr).2.1.2⟩,RepD.stp st R1 (hrs r hr).2.2⟩) .nil
   ·cases e3
 | _=>cases e3
end
end IT
set_option linter.all false
set_option maxHeartbeats 4000000
set_option maxRecDepth 100000
namespace IT
open PySem
section
variable {prog:Program} {w:World} {A:Around} {E:Value->Shared->Prop} {s:Shared} {it d:Addr} {od:Obj} {es:Array DictEntry} {ep i:Nat}
theorem zf2 {Q:Value->Shared->Prop} (sys:(d==sysModules)=false) (g1:s.heap.get? d=some od) (g2:od.ExactDict) (g3:od.data=.dict es ep)
  (q:Q (.ref s.heap.objs.size) { s with heap:=s.heap.push { cls:=.type "dict_keyiterator",data:=.fields #[.ref d,.int 0 0,.int es.size 0,.int ep 0] } }):wpAny (model prog w) A (pyIter (.ref d)) Q E s:=by
 have T:s.TypeIs (.ref d) "dict":=⟨od,g1,g2.1⟩
 refine wpAny_pyIter_slot T F.slot_dict_iter (wpAny_call_entry F.slot_dict_iter T F.entry_dict_iter ?_ (F.args_dict_iter_1 _));unfold Builtin.«dict.__iter__»
 refine wpAny_bind ?_;unfold Builtin.Dict.dictSlotNone
 refine wpAny_bind (wpAny_notOrdered_dict T ?_)
 show wpAny _ _ (pure (Value.ref d)) _ _ _
 refine wpAny_pure ?_
 show wpAny _ _ (Builtin.Dict.showsAll d >>= _) _ _ _
 unfold Builtin.Dict.showsAll
 rw [if_neg (by rw [sys];exact Bool.false_ne_true)]
 refine wpAny_bind (wpAny_pure (wpAny_bind (wpAny_dictEntries g1 g3 (wpAny_bind (wpAny_dictEpoch g1 g3 ?_)))))
 refine wpAny_bind (wpAny_newObj_type (wpAny_pure ⟨_,rfl,"dict_keyiterator",_,⟨_,Heap.get?_push_size _ rfl,rfl⟩,F.slot_dict_keyiterator_next.lookup,?_⟩))
 simpa [rawInt] using q
theorem zfL {e:DictEntry} {Q:Option Value->Shared->Prop} (hit:s.heap.IsKeyIter it d i es.size ep) (g1:s.heap.get? d=some od) (g3:od.data=.dict es ep) (hx:es[i]?=some e)
  (q:∀ h',h'.IsKeyIter it d (i+1) es.size ep->Heap.SameBut it s.heap h'->Q (some e.key) { s with heap:=h' }):wpAny (model prog w) A (pyNext (.ref it)) Q E s:=by
 obtain ⟨o,ho,hc,hd⟩:=id hit
 unfold pyNext
 refine wpAny_bind (wpAny_attempt (wpAny_callSpecial?_slot (name:=Str.ofString "__next__") hit.typeIs F.slot_dict_keyiterator_next (wpAny_call_entry F.slot_dict_keyiterator_next hit.typeIs F.entry_dict_keyiterator_next ?_ (F.args_dict_keyiterator_next_1 _))))
 refine wpAny_bind (wpAny_pure (wpAny_bind (wpAny_bind ?_)))
 first | refine wpAny_bind (wpAny_typeNameOfWhole_keyiter hit.typeIs (wpAny_pure ?_)) | refine wpAny_bind (wpAny_typeNameOf_keyiter hit.typeIs (wpAny_pure ?_));skip
 refine wpAny_bind (wpAny_fieldsOf ho hd ?_)
 have own:Builtin.Dict_items.ownsTuple "dict_keyiterator"=false:=by decide
 simp only [own,Bool.false_eq_true,if_false]
 show wpAny _ _ (if (Value.ref d==Value.none)=true then _ else _) _ _ _
 rw [if_neg (show ¬ ((Value.ref d==Value.none)=true) from Bool.false_ne_true)];refine wpAny_bind (wpAny_pure (wpAny_bind (wpAny_dictEntries g1 g3 ?_)))
 rw [if_neg (by simp)];refine wpAny_bind (wpAny_pure (wpAny_bind (wpAny_dictEpoch g1 g3 ?_)))
 rw [if_neg (by simp)];refine wpAny_pure ?_
 have lt:i<es.size:=(Array.getElem?_eq_some_iff.mp hx).1
 have ee:es[i]=e:=(Array.getElem?_eq_some_iff.mp hx).2
 simp only [show ¬ ((i:Int)<0) from by omega,if_false,Int.toNat_natCast,hx]
 refine wpAny_bind ?_;first | refine wpAny_bind (wpAny_typeNameOfWhole_keyiter hit.typeIs (wpAny_pure ?_)) | refine wpAny_bind (wpAny_typeNameOf_keyiter hit.typeIs (wpAny_pure ?_))
 refine wpAny_bind (wpAny_isOneOf_keyiter hit.typeIs ?_)
 show wpAny _ _ (setField (.ref it) 1 (rawInt ((i:Int)+1)) >>= _) _ _ _
 refine wpAny_bind (wpAny_setField ho hd (by simp) ?_)
 have hit2:(s.heap.update it (Obj.mapFields (·.setIfInBounds 1 (rawInt ((i:Int)+1))))).IsKeyIter it d (i+1) es.size ep:=
  ⟨_,Heap.get?_update_self _ ho (Obj.isFreed_of_fields (Obj.data_mapFields hd _)),(Obj.cls_mapFields ..).trans hc,by rw [Obj.data_mapFields hd];simp [rawInt]⟩
 refine wpAny_bind (wpAny_holding ?_)
 refine wpAny_bind (wpAny_isOneOf_keyiter (s:={ s with heap:=s.heap.update it (Obj.mapFields (·.setIfInBounds 1 (rawInt ((i:Int)+1)))) }) hit2.typeIs ?_);show wpAny _ _ (pure e.key) _ _ _
 exact wpAny_pure (wpAny_pure ⟨_,rfl,wpAny_pure (q _ hit2 (Heap.SameBut.update ..))⟩)
theorem zho {Q:Option Value->Shared->Prop} (hh:A.handled=none) (hit:s.heap.IsKeyIter it d i es.size ep) (g1:s.heap.get? d=some od) (g3:od.data=.dict es ep) (hx:es.size<=i)
  (q:∀ h',Heap.ExtBut it s.heap h'->Q none { s with heap:=h' }):wpAny (model prog w) A (pyNext (.ref it)) Q E s:=by
 obtain ⟨o,ho,hc,hd⟩:=id hit
 unfold pyNext
 refine wpAny_bind (wpAny_attempt (wpAny_callSpecial?_slot (name:=Str.ofString "__next__") hit.typeIs F.slot_dict_keyiterator_next (wpAny_call_entry F.slot_dict_keyiterator_next hit.typeIs F.entry_dict_keyiterator_next ?_ (F.args_dict_keyiterator_next_1 _))))
 refine wpAny_bind (wpAny_pure (wpAny_bind (wpAny_bind ?_)))
 first | refine wpAny_bind (wpAny_typeNameOfWhole_keyiter hit.typeIs (wpAny_pure ?_)) | refine wpAny_bind (wpAny_typeNameOf_keyiter hit.typeIs (wpAny_pure ?_));skip
 refine wpAny_bind (wpAny_fieldsOf ho hd ?_)
 have own:Builtin.Dict_items.ownsTuple "dict_keyiterator"=false:=by decide
 simp only [own,Bool.false_eq_true,if_false]
 show wpAny _ _ (if (Value.ref d==Value.none)=true then _ else _) _ _ _
 rw [if_neg (show ¬ ((Value.ref d==Value.none)=true) from Bool.false_ne_true)];refine wpAny_bind (wpAny_pure (wpAny_bind (wpAny_dictEntries g1 g3 ?_)))
 rw [if_neg (by simp)];refine wpAny_bind (wpAny_pure (wpAny_bind (wpAny_dictEpoch g1 g3 ?_)))
 rw [if_neg (by simp)];refine wpAny_pure ?_
 simp only [show ¬ ((i:Int)<0) from by omega,if_false,Int.toNat_natCast,Array.getElem?_eq_none hx]
 refine wpAny_bind ?_;first | refine wpAny_bind (wpAny_typeNameOfWhole_keyiter hit.typeIs (wpAny_pure ?_)) | refine wpAny_bind (wpAny_typeNameOf_keyiter hit.typeIs (wpAny_pure ?_))
 show wpAny _ _ (setField (.ref it) 0 .none >>= _) _ _ _
 refine wpAny_bind (wpAny_setField ho hd (by simp) ?_)
 show wpAny _ _ (newExc (.type "StopIteration") [] >>= _) _ _ _
 refine wpAny_bind ?_;simp only [newExc,newTuple]
 refine wpAny_bind (wpAny_newObj_type ?_ (by size_fits))
 refine wpAny_bind (m:=firstArgMember _ _) (wpAny_of_eq (a:=Value.none) (by first | rfl | (simp only [firstArgMember];rfl)) ?_);refine wpAny_newObj_type ?_ (by size_fits)
 simp only [raiseNew];refine wpAny_bind (wpAny_handled ?_)
 rw [show A.in1.handled=none from hh]
 refine wpAny_bind (wpAny_pure (wpAny_throw ?_))
 refine wpAny_bind (wpAny_isInstance (T:="StopIteration") (b:=true) ⟨_,Heap.get?_push_size _ rfl,rfl⟩ isSubtype_stop ?_);exact wpAny_pure (q _ (((Heap.SameBut.update ..).extBut.push _).push _))
end
end IT
set_option linter.all false
set_option maxHeartbeats 4000000
set_option maxRecDepth 100000
namespace IT
open PySem PySem.Spec L2
noncomputable def Itd (a:Addr) (ob:Obj):L2.It:=
 ⟨λi H=>∃ xs q,H a=some (.frz ob (.dT xs))/\xs[i]?=some q,λi H x H'=>H'=H/\∀ xs,H a=some (.frz ob (.dT xs))->∃ q:D×Addr×V,xs[i]?=some q/\x=.ref q.2.1,λi H=>∃ xs,H a=some (.frz ob (.dT xs))/\xs.length<=i⟩
noncomputable def zp4 (a it:Addr) (ob:Obj) (i:Nat) (h:Heap):Prop:=∃ es ep,ob.data=.dict es ep/\h.IsKeyIter it a i es.size ep
theorem ziA {X:Cx} {pins:List (Addr×Obj)} {σ:St} {H:Hp} {s:Shared} {a:Addr} {ob:Obj} {xs:List (D×Addr×V)} {es:Array DictEntry} {ep:Nat} (I:Inv X pins σ H s) (e:H a=some (.frz ob (.dT xs))) (ed:ob.data=.dict es ep) :
  s.heap.get? a=some ob/\ob.ExactDict/\(a==sysModules)=false/\es.size=xs.length/\∀ (i:Nat) (q:D×Addr×V),xs[i]?=some q->∃ t,es[i]?=some t/\t.key=.ref q.2.1/\RelV q.2.2 t.val:=by
 obtain ⟨g0,hz,hS,xv,r,o,es',ep',g1,g2,g3,g4,g5⟩:=(show zbh X.prog X.w H s.heap a (.frz ob (.dT xs)) from I.hok a _ e)
 rw [g0] at g1
 cases g1
 rw [ed] at g3
 cases g3
 have hl:xs.length=xv.length:=Paired.length r
 have hs:es.size=xv.length:=by rw [<-Array.length_toList,g4,List.length_map]
 refine ⟨g0,g2,hS,by omega,λi q hq=>?_⟩
 have at2:∀ {l1:List (D×Addr×V)} {l2:List (D×Addr×Value)},Paired (λ(p:D×Addr×V) (q:D×Addr×Value)=>p.1=q.1/\p.2.1=q.2.1/\RelV p.2.2 q.2.2) l1 l2->∀ (i:Nat) q,l1[i]?=some q->∃ t,l2[i]?=some t/\q.2.1=t.2.1/\RelV q.2.2 t.2.2:=by
  intro l1 l2 z
  induction z with
  | nil=>intro i q e;simp at e
  | @cons p t ps ts h _ ih=>
   intro i q e
   cases i with
   | zero=>simp at e;subst e;exact ⟨t,rfl,h.2⟩
   | succ i=>simp at e;simpa using ih i q e
 obtain ⟨t,e1,e2,e3⟩:=at2 r i q hq
 refine ⟨entryOfKey (dKind X.prog X.w) t,?_,by rw [e2];rfl,e3⟩
 rw [<-Array.getElem?_toList,g4,List.getElem?_map,e1]
 rfl
theorem zks {P:Program} {w:World} {K:PySem.W.Frag} {tg:Expr} (a it:Addr) (ob:Obj):Turn P w K tg (Itd a ob) [it] it (zp4 a it ob) where
 mem:=by simp
 obj:=λi h st b hb=>by
  have e:b=it:=by simpa using hb
  subst e
  obtain ⟨_,_,_,o,e,c,d⟩:=st
  exact ⟨o,e,λv z=>by rw [d] at z;cases z⟩
 keep:=λi h h' st k=>by
  obtain ⟨es,ep,e0,o,e,c⟩:=st
  exact ⟨es,ep,e0,o,k it (by simp) o e,c⟩
 item:=by
  intro X hP hw hK hc i pins s σ H E I hf st hg
  subst hP hw hK
  obtain ⟨xs,q,eH,hq⟩:=hg
  obtain ⟨es,ep,ed,hit⟩:=st
  obtain ⟨g0,g2,hS,hz,hat⟩:=ziA I eH ed
  obtain ⟨t,e1,e2,e3⟩:=hat i q hq
  obtain ⟨f0,f1,f2,f3,f4,f5⟩:=hf it (by simp)
  refine zfL hit g0 ed e1 λh' st' sb=>?_
  have I1:Inv X pins σ H { s with heap:=h' }:=I.turned (t':=s.toks) (λb o hb e=>(sb.2 b hb).trans e) f0 f1 f3 f4 f5
  obtain ⟨o,e,c,d⟩:=id st'
  refine ⟨t.key,rfl,zky (s:={ s with heap:=h' }) e c d (by decide) ⟨.ref q.2.1,H,I1,e2,⟨rfl,λys hy=>?_⟩,⟨es,ep,ed,st'⟩,λb hb=>(hf b hb).1⟩⟩
  rw [eH] at hy
  cases hy
  exact ⟨q,hq,rfl⟩
 done:=by
  intro X hP hw hK hc i pins s σ H E I hf st hg
  subst hP hw hK
  obtain ⟨xs,eH,hx⟩:=hg
  obtain ⟨es,ep,ed,hit⟩:=st
  obtain ⟨g0,g2,hS,hz,hat⟩:=ziA I eH ed
  obtain ⟨f0,f1,f2,f3,f4,f5⟩:=hf it (by simp)
  exact zho (I.ok.hd hc) hit g0 ed (by omega) λh' eb=>⟨rfl,I.turned (t':=s.toks) (λb o hb e=>eb b o hb e) f0 f1 f3 f4 f5⟩
 self:=λ_ _ _ _ _ st h=>by
  obtain ⟨_,_,_,hit⟩:=st
  exact wpAny_pyIter_keyiter hit h
section
variable {X:Cx} {tg:Expr}
noncomputable def iDic (tl:TE):TI:=λσ H R=>tl σ H λx H1=>∃ a ob xs,x=.ref a/\H1 a=some (.frz ob (.dT xs))/\(xs.length<=sizeLine->R (Itd a ob) H1)
theorem zn3 {l:Expr} {tl:TE} (hl:PE X l tl):PI X tg l (iDic tl):=by
 intro pins s σ H R I h
 refine thn (hl pins s σ H _ I h) λv s1 ⟨x,H1,I1,r1,q1⟩=>?_
 obtain ⟨a,ob,xs,e,hq,q⟩:=q1
 subst e
 cases r1
 have:∃ es ep,ob.data=.dict es ep/\xs.length<=sizeLine:=by
  obtain ⟨g0,hz,hS,xv,r,o,es',ep',g1,g2,g3,_⟩:=(show zbh X.prog X.w H1 s1.heap a (.frz ob (.dT xs)) from I1.hok a _ hq)
  rw [g0] at g1
  cases g1
  exact ⟨_,_,g3,hz⟩
 obtain ⟨es,ep,ed,hzz⟩:=this
 obtain ⟨g0,g2,hS,hz,hat⟩:=ziA I1 hq ed
 refine zf2 hS g0 g2 ed ?_
 refine ⟨s1.heap.objs.size,[s1.heap.objs.size],_,_,H1,rfl,I1.kept (t':=s1.toks) λb o e=>Heap.get?_push_of_some _ e,zks a _ ob,⟨es,ep,ed,_,Heap.get?_push_size _ rfl,rfl,rfl⟩,λb hb=>?_,q hzz⟩
 have e:b=s1.heap.objs.size:=by simpa using hb
 subst e
 exact I1.fpOk (Nat.le_refl _) (I1.hok.fresh (Nat.le_refl _))
theorem zf5 {α β:Type} {F:α->β->Prop}:∀ {xs:List α} {ys:List β},Paired F xs ys->∀ (i:Nat) x,xs[i]?=some x->∃ y,ys[i]?=some y/\F x y
 | _,_,.nil,i,x,e=>by simp at e
 | _,_,.cons (b:=b) h t,0,x,e=>by simp at e;subst e;exact ⟨b,rfl,h⟩
 | _,_,.cons h t,i+1,x,e=>by simp at e;simpa using zf5 t i x e
theorem zmI {K:PySem.W.Frag} {μ:List Addr} {h:Sto} {H:Hp} {a:Addr} {l:Nat} {kvs:List (D×D)} {ob:Obj} {xs:List (D×Addr×V)} (R0:Rep K μ h H) (e:H a=some (.frz ob (.dT xs)))
  (z:Paired (λ(p:D×D) (q:D×Addr×V)=>p.1=q.1/\(zai p.1=true/\RepD K (Live μ h) H p.1 (.ref q.2.1))/\RepD K (Live μ h) H p.2 q.2.2) kvs xs):Wlk K (Itd a ob) ⟨kvs.map λp=>dI p.1,some l⟩ μ h H:=by
 have keep:∀ μ1 h1 H1,Stp μ h H μ1 h1 H1->H1 a=some (.frz ob (.dT xs)):=λμ1 h1 H1 st=>st.keep a _ (R0.notLive e (by intro vs z;cases z)) e
 refine ⟨λμ1 h1 H1 i x st R1 _ ex=>?_,λμ1 h1 H1 st R1 _=>⟨xs,keep _ _ _ st,by rw [List.length_map,Paired.length z];exact Nat.le_refl _⟩⟩
 rw [List.getElem?_map,Option.map_eq_some_iff] at ex
 obtain ⟨p,ep,rfl⟩:=ex
 obtain ⟨q,eq,h1,h2,h3⟩:=zf5 z i p ep
 refine ⟨⟨xs,q,keep _ _ _ st,eq⟩,λv' H' ⟨hH,hv⟩=>?_⟩
 subst hH
 obtain ⟨q',eq',rfl⟩:=hv xs (keep _ _ _ st)
 rw [eq] at eq'
 cases eq'
 exact ⟨Stp.refl,R1,RepD.stp st R0 h2.2⟩
theorem zo2 {l:Expr} {f:IT.Env->M R} (hl:IE X l f):PI X tg l (tI X.K λσ=>bnd (f σ) λr=>zgA r):=by
 refine PI.imp (zn3 hl) λσ H R q0=>?_
 obtain ⟨μ,h,env,R0,re,w,h',e,k⟩:=q0
 simp only [zaa] at e
 obtain ⟨r,h1,e1,e2⟩:=e
 refine ⟨μ,h,env,R0,re,r,h1,e1,λμ1 H1 v s1 R1 q1=>?_⟩
 cases r with
 | d _=>cases e2
 | loc l=>
  simp only [zgA] at e2
  split at e2
  ·rename_i kvs ho
   simp only [Option.some.injEq,Prod.mk.injEq] at e2
   obtain ⟨rfl,rfl⟩:=e2
   obtain ⟨a,ea,rfl⟩:=q1
   obtain ⟨ob,xs,eH,z⟩:=R1.obj l a _ ea ho
   exact ⟨a,ob,xs,rfl,eH,λhz=>k μ1 H1 _ s1 R1 (zmI R1 eH z) (by rw [List.length_map,Paired.length z];exact hz)⟩
  ·cases e2
end
end IT
set_option linter.all false
set_option maxHeartbeats 4000000
set_option maxRecDepth 100000
namespace IT
open PySem
section
variable {prog:Program} {w:World} {A:Around} {E:Value->Shared->Prop} {s:Shared}
theorem zjM (hh:A.handled=none) {I d:Addr} (hne:d≠I) {od:Obj} {es:Array DictEntry} {ep:Nat} (g3:od.data=.dict es ep):Walks prog w A I [I,d] [I] es.size (λi v=>∃ e,es[i]?=some e/\v=e.key) (λi h=>h.IsKeyIter I d i es.size ep/\h.get? d=some od) where
 sub:=λb hb=>by simp at hb;simp [hb]
 frame:=λ_ _ _ st hk=>⟨st.1.at λo e=>hk I (by simp) o e,hk d (by simp) od st.2⟩
 item:=λi s Q E hi st hQ=>by
  refine zfL st.1 st.2 g3 (e:=es[i]) (by simp [hi]) λh' hit' hs'=>?_
  exact hQ _ h' s.toks ⟨_,by simp [hi],rfl⟩ ⟨hit',(hs'.2 d hne).trans st.2⟩ λb o hb e=>hs'.extBut b o (λh=>hb (by simp [h])) e
 done:=λs Q E st hQ=>zho hh st.1 st.2 g3 (Nat.le_refl _) λh' he'=>hQ h' s.toks λb o hb e=>he' b o (λh=>hb (by simp [h])) e
 self:=λ_ _ _ _ st hQ=>wpAny_pyIter_keyiter st.1 hQ
theorem zkq {d:Addr} {od:Obj} {es:Array DictEntry} {ep:Nat} (sys:(d==sysModules)=false) (g2:od.ExactDict) (g3:od.data=.dict es ep):PySem.W.KdlSrc prog w "dict" d d es.size (λi v=>∃ e,es[i]?=some e/\v=e.key) (λh=>h.get? d=some od) where
 type:=λs g=>⟨od,g,g2.1⟩
 there:=λh g=>⟨Heap.lt_size g,Heap.lt_size g⟩
 keep:=λh h' g k=>k d (.inl rfl) od g
 notList:=by decide
 notTuple:=by decide
 hint:=λA E s Q g q=>PySem.W.kdl_hint_dict ⟨od,g,g2.1⟩ q
 iter:=λA s hh g=>⟨_,_,λE Q q=>zf2 sys g g2 g3 q,zjM hh (Nat.ne_of_lt (Heap.lt_size g)) g3,⟨_,Heap.get?_push_size _ rfl,rfl,rfl⟩,Heap.get?_push_of_some _ g⟩
theorem zd5 {Q:Value->Shared->Prop} {d:Addr} {od:Obj} {es:Array DictEntry} {ep:Nat} (hh:A.handled=none) (sys:(d==sysModules)=false) (g1:s.heap.get? d=some od) (g2:od.ExactDict) (g3:od.data=.dict es ep) (hz:es.size<=sizeLine)
  (hQ:∀ h' tk acc c',(∀ b o,s.heap.get? b=some o->h'.get? b=some o)->h'.get? s.heap.objs.size=some { cls:=.type "list",dict:=none,data:=.seq acc c',slots:=#[] }->ItemsOf (λi v=>∃ e,es[i]?=some e/\v=e.key) acc es.size->Q (.ref s.heap.objs.size) { s with heap:=h',toks:=tk }) :
  wpAny (model prog w) A (call (.type "list") [.ref d]) Q E s:=PySem.W.kdl_call (zkq sys g2 g3) hh g1 hz hQ
end
end IT
set_option linter.all false
set_option maxHeartbeats 4000000
set_option maxRecDepth 100000
namespace IT
open PySem PyProof.Rows
noncomputable abbrev itO (f0 f1:Value) (d:Addr) (i n ep:Nat) (k v:Value):Obj:={ cls:=.type "dict_itemiterator",dict:=none,data:=.fields #[f0,f1,.ref d,.int i 0,.int n 0,.int ep 0,k,v],slots:=#[] }
noncomputable def IsIt (h:Heap) (it d:Addr) (i n ep:Nat):Prop:=∃ f0 f1 k v,(f0=.none\/∃ a:Nat,f0=rawInt a)/\h.get? it=some (itO f0 f1 d i n ep k v)
noncomputable abbrev tupO (k v:Value):Obj:={ cls:=.type "tuple",data:=.seq #[k,v] }
section
variable {prog:Program} {w:World} {A:Around} {E:Value->Shared->Prop} {s:Shared} {it d:Addr} {od:Obj} {es:Array DictEntry} {ep i:Nat}
theorem zla {a:Addr} {Q:Option Obj->Shared->Prop} (q:Q (s.heap.get? a) s):wpAny (model prog w) A (loadIfAlive a) Q E s:=by
 intro p _ p1
 simp only [loadIfAlive,Sem.wp_loadIfAlive,Sem.wp_pure]
 exact q
theorem zhF {v:Addr} {Q:Value->Shared->Prop} (hv:s.heap.IsItemsView v d) (g1:s.heap.get? d=some od) (g3:od.data=.dict es ep)
  (q:Q (.ref s.heap.objs.size) { s with heap:=s.heap.push (itO .none (.bool false) d 0 es.size ep .none .none) }):wpAny (model prog w) A (pyIter (.ref v)) Q E s:=by
 obtain ⟨ov,hov,hcv,hdv⟩:=id hv
 refine wpAny_pyIter_slot hv.typeIs F.slot_dict_items_iter (wpAny_call_entry F.slot_dict_items_iter hv.typeIs F.entry_dict_items_iter ?_ (F.args_dict_items_iter_1 _));unfold Builtin.«dict_items.__iter__»
 refine wpAny_bind (wpAny_pure (wpAny_bind ?_));unfold Builtin.Dict_items.dictOf
 refine wpAny_bind (wpAny_field hov hdv (x:=.ref d) rfl (wpAny_pure (wpAny_bind ?_)));unfold Builtin.Dict_items.newIterator
 refine wpAny_bind (wpAny_dictEntries g1 g3 (wpAny_bind (wpAny_dictEpoch g1 g3 ?_)))
 have own:Builtin.Dict_items.ownsTuple "dict_itemiterator"=true:=by decide
 simp only [own,if_true]
 refine wpAny_newObj_type (wpAny_pure ⟨_,rfl,"dict_itemiterator",_,⟨_,Heap.get?_push_size _ rfl,rfl⟩,F.slot_dict_itemiterator_next.lookup,?_⟩) (by simp only [sizeOk,Builtin.Dict_items.ownedTupleFields,List.size_toArray,List.length_append,List.length_cons,List.length_nil,sizeLine_eq];omega)
 simpa [rawInt,Builtin.Dict_items.ownedTupleFields,itO] using q
theorem zh3 {e:DictEntry} {Q:Option Value->Shared->Prop} (hit:IsIt s.heap it d i es.size ep) (g1:s.heap.get? d=some od) (g3:od.data=.dict es ep) (hx:es[i]?=some e)
  (q:∀ h',IsIt h' it d (i+1) es.size ep->h'.get? s.heap.objs.size=some (tupO e.key e.val)->h'.objs.size=s.heap.objs.size+1->(∀ b o,b≠it->s.heap.get? b=some o->h'.get? b=some o)->Q (some (.ref s.heap.objs.size)) { s with heap:=h' }) :
  wpAny (model prog w) A (pyNext (.ref it)) Q E s:=by
 obtain ⟨f0,f1,ok,ov,hf,hit⟩:=hit
 obtain ⟨hp,g,dr,tk,os⟩:=s
 have hT:Shared.TypeIs ⟨hp,g,dr,tk,os⟩ (.ref it) "dict_itemiterator":=⟨_,hit,rfl⟩
 unfold pyNext
 refine wpAny_bind (wpAny_attempt (wpAny_callSpecial?_slot (name:=Str.ofString "__next__") hT F.slot_dict_itemiterator_next (wpAny_call_entry F.slot_dict_itemiterator_next hT F.entry_dict_itemiterator_next ?_ (F.args_dict_itemiterator_next_1 _))))
 refine wpAny_bind (wpAny_pure (wpAny_bind (wpAny_bind ?_)))
 first | refine wpAny_bind (wpAny_typeNameOfWhole_itemiter hT (wpAny_pure ?_)) | refine wpAny_bind (wpAny_typeNameOf_itemiter hT (wpAny_pure ?_));skip
 refine wpAny_bind (wpAny_fieldsOf hit rfl ?_)
 have own:Builtin.Dict_items.ownsTuple "dict_itemiterator"=true:=by decide
 simp only [own,if_true]
 show wpAny _ _ (if (Value.ref d==Value.none)=true then _ else _) _ _ _
 rw [if_neg (show ¬ ((Value.ref d==Value.none)=true) from Bool.false_ne_true)];refine wpAny_bind (wpAny_pure (wpAny_bind (wpAny_dictEntries g1 g3 ?_)))
 rw [if_neg (by simp)];refine wpAny_bind (wpAny_pure (wpAny_bind (wpAny_dictEpoch g1 g3 ?_)))
 rw [if_neg (by simp)];refine wpAny_pure ?_
 simp only [show ¬ ((i:Int)<0) from by omega,if_false,Int.toNat_natCast,hx]
 refine wpAny_bind ?_;first | refine wpAny_bind (wpAny_typeNameOfWhole_itemiter hT (wpAny_pure ?_)) | refine wpAny_bind (wpAny_typeNameOf_itemiter hT (wpAny_pure ?_))
 refine wpAny_bind (wpAny_isOneOf_itemiter hT ?_)
 show wpAny _ _ (setField (.ref it) 3 (rawInt ((i:Int)+1)) >>= _) _ _ _
 refine wpAny_bind (wpAny_setField_rec hit (by simp) λh1 he1 hs1=>?_)
 replace hs1:Heap.SameBut it hp h1:=hs1
 replace he1:h1.get? it=some (itO f0 f1 d (i+1) es.size ep ok ov):=by
  have e:((i+1:Nat):Int)=(i:Int)+1:=by omega
  unfold itO;rw [e];simpa [rawInt] using he1
 have hT1:Shared.TypeIs ⟨h1,g,dr,tk,os⟩ (.ref it) "dict_itemiterator":=⟨_,he1,rfl⟩
 refine wpAny_bind (wpAny_holding (wpAny_bind (wpAny_isOneOf_itemiter hT1 (wpAny_bind (wpAny_isOneOf_itemiter hT1 ?_)))))
 show wpAny _ _ (Builtin.Dict_items.pairFromOwner (.ref it) 6 e.key e.val) _ _ ⟨h1,g,dr,tk,os⟩
 unfold Builtin.Dict_items.pairFromOwner
 refine wpAny_bind (wpAny_newTuple ?_)
 have he2:(h1.push (tupO e.key e.val)).get? it=some (itO f0 f1 d (i+1) es.size ep ok ov):=Heap.get?_push_of_some _ he1
 have hz1:h1.objs.size=hp.objs.size:=hs1.1
 have hil:it<hp.objs.size:=Heap.lt_size hit
 have ht2:(h1.push (tupO e.key e.val)).get? hp.objs.size=some (tupO e.key e.val):=by rw [<-hz1];exact Heap.get?_push_size _ rfl
 have hz2:(h1.push (tupO e.key e.val)).objs.size=hp.objs.size+1:=by rw [Heap.size_push,hz1]
 have hk2:∀ b o,b≠it->hp.get? b=some o->(h1.push (tupO e.key e.val)).get? b=some o:=λb o hb e=>Heap.get?_push_of_some _ (hs1.extBut b o hb e)
 show wpAny _ _ (Builtin.Dict_items.ownedTupleIsFree (.ref it) >>= _) _ _ ⟨h1.push (tupO e.key e.val),g,dr,tk,os⟩
 rw [hz1]
 generalize h1.push (tupO e.key e.val)=h2 at he2 ht2 hz2 hk2 ⊢
 clear he1 hs1 hT1 hz1 h1
 have fin:∀ (h3:Heap) f0 f1 k v,(f0=.none\/∃ a:Nat,f0=rawInt a)->h3.get? it=some (itO f0 f1 d (i+1) es.size ep k v)->Heap.SameBut it h2 h3->Q (some (.ref hp.objs.size)) ⟨h3,g,dr,tk,os⟩:=λh3 f0 f1 k v hf he hs=>
  q h3 ⟨f0,f1,k,v,hf,he⟩ (hs.extBut _ _ (Nat.ne_of_gt hil) ht2) (by show h3.objs.size=hp.objs.size+1;rw [hs.1,hz2]) λb o hb e=>hs.extBut b o hb (hk2 b o hb e)
 have free:wpAny (model prog w) A.in1 (do
   let old:=[<-field (.ref it) 6,<-field (.ref it) 7]
   setField (.ref it) 6 e.key;setField (.ref it) 7 e.val
   setField (.ref it) 0 (rawInt hp.objs.size);setField (.ref it) 1 (.bool false)
   letGo old [.ref hp.objs.size]
   pure (Value.ref hp.objs.size)) (λr t=>r=.ref hp.objs.size/\Q (some r) t) (λ_ _=>False) ⟨h2,g,dr,tk,os⟩:=by
  refine wpAny_bind (wpAny_field he2 rfl (x:=ok) rfl (wpAny_bind (wpAny_field he2 rfl (x:=ov) rfl ?_)))
  refine wpAny_bind (wpAny_setField_rec he2 (by simp) λh3 he3 hs3=>wpAny_bind (wpAny_setField_rec he3 (by simp) λh4 he4 hs4=>wpAny_bind (wpAny_setField_rec he4 (by simp) λh5 he5 hs5=>wpAny_bind (wpAny_setField_rec he5 (by simp) λh6 he6 hs6=>?_))))
  have e6:h6.get? it=some (itO (rawInt hp.objs.size) (.bool false) d (i+1) es.size ep e.key e.val):=by unfold itO;simpa using he6
  exact wpAny_bind (wpAny_letGo (wpAny_pure ⟨rfl,fin h6 _ _ _ _ (.inr ⟨_,rfl⟩) e6 (((hs3.trans hs4).trans hs5).trans hs6)⟩))
 unfold Builtin.Dict_items.ownedTupleIsFree
 rcases hf with rfl | ⟨a,rfl⟩
 ·refine wpAny_bind (wpAny_bind (wpAny_field he2 rfl (x:=.none) rfl (wpAny_pure ?_)))
  simp only [if_true]
  refine wpAny_mono free (λr t ⟨e1,hq⟩=>?_) λ_ _ h=>h.elim
  subst e1
  exact wpAny_pure ⟨_,rfl,wpAny_pure hq⟩
 ·refine wpAny_bind (wpAny_bind (wpAny_field he2 rfl (x:=rawInt a) rfl ?_))
  refine wpAny_bind (zla ?_)
  show wpAny _ _ (if (h2.get? _).isNone=true then _ else _) _ _ _
  by_cases hn:(h2.get? (Int.toNat (a:Int))).isNone=true
  ·rw [if_pos hn]
   refine wpAny_pure ?_
   simp only [if_true]
   refine wpAny_mono free (λr t ⟨e1,hq⟩=>?_) λ_ _ h=>h.elim
   subst e1
   exact wpAny_pure ⟨_,rfl,wpAny_pure hq⟩
  ·rw [if_neg hn]
   refine wpAny_bind (wpAny_field he2 rfl (x:=f1) rfl ?_)
   refine wpAny_ite_split (λ_=>?_) (λ_=>?_)
   ·refine wpAny_bind (wpAny_setField_rec he2 (by simp) λh3 he3 hs3=>wpAny_pure ?_)
    have e3:h3.get? it=some (itO (rawInt a) (.bool true) d (i+1) es.size ep ok ov):=by unfold itO;simpa using he3
    simp only [Bool.false_eq_true,if_false]
    exact wpAny_pure (wpAny_pure ⟨_,rfl,wpAny_pure (fin h3 _ _ _ _ (.inr ⟨_,rfl⟩) e3 hs3)⟩)
   ·refine wpAny_pure ?_
    simp only [Bool.false_eq_true,if_false]
    exact wpAny_pure (wpAny_pure ⟨_,rfl,wpAny_pure (fin h2 _ _ _ _ (.inr ⟨_,rfl⟩) he2 (Heap.SameBut.refl it h2))⟩)
theorem zif {Q:Option Value->Shared->Prop} (hh:A.handled=none) (hit:IsIt s.heap it d i es.size ep) (g1:s.heap.get? d=some od) (g3:od.data=.dict es ep) (hx:es.size<=i)
  (q:∀ h',Heap.ExtBut it s.heap h'->Q none { s with heap:=h' }):wpAny (model prog w) A (pyNext (.ref it)) Q E s:=by
 obtain ⟨f0,f1,ok,ov,hf,hit⟩:=hit
 have hT:s.TypeIs (.ref it) "dict_itemiterator":=⟨_,hit,rfl⟩
 unfold pyNext
 refine wpAny_bind (wpAny_attempt (wpAny_callSpecial?_slot (name:=Str.ofString "__next__") hT F.slot_dict_itemiterator_next (wpAny_call_entry F.slot_dict_itemiterator_next hT F.entry_dict_itemiterator_next ?_ (F.args_dict_itemiterator_next_1 _))))
 refine wpAny_bind (wpAny_pure (wpAny_bind (wpAny_bind ?_)))
 first | refine wpAny_bind (wpAny_typeNameOfWhole_itemiter hT (wpAny_pure ?_)) | refine wpAny_bind (wpAny_typeNameOf_itemiter hT (wpAny_pure ?_));skip
 refine wpAny_bind (wpAny_fieldsOf hit rfl ?_)
 have own:Builtin.Dict_items.ownsTuple "dict_itemiterator"=true:=by decide
 simp only [own,if_true]
 show wpAny _ _ (if (Value.ref d==Value.none)=true then _ else _) _ _ _
 rw [if_neg (show ¬ ((Value.ref d==Value.none)=true) from Bool.false_ne_true)];refine wpAny_bind (wpAny_pure (wpAny_bind (wpAny_dictEntries g1 g3 ?_)))
 rw [if_neg (by simp)];refine wpAny_bind (wpAny_pure (wpAny_bind (wpAny_dictEpoch g1 g3 ?_)))
 rw [if_neg (by simp)];refine wpAny_pure ?_
 simp only [show ¬ ((i:Int)<0) from by omega,if_false,Int.toNat_natCast,Array.getElem?_eq_none hx]
 refine wpAny_bind ?_;first | refine wpAny_bind (wpAny_typeNameOfWhole_itemiter hT (wpAny_pure ?_)) | refine wpAny_bind (wpAny_typeNameOf_itemiter hT (wpAny_pure ?_))
 show wpAny _ _ (setField (.ref it) 2 .none >>= _) _ _ _
 refine wpAny_bind (wpAny_setField hit rfl (by simp) ?_)
 show wpAny _ _ (newExc (.type "StopIteration") [] >>= _) _ _ _
 refine wpAny_bind ?_;simp only [newExc,newTuple]
 refine wpAny_bind (wpAny_newObj_type ?_ (by size_fits))
 refine wpAny_bind (m:=firstArgMember _ _) (wpAny_of_eq (a:=Value.none) (by first | rfl | (simp only [firstArgMember];rfl)) ?_);refine wpAny_newObj_type ?_ (by size_fits)
 simp only [raiseNew];refine wpAny_bind (wpAny_handled ?_)
 rw [show A.in1.handled=none from hh]
 refine wpAny_bind (wpAny_pure (wpAny_throw ?_))
 refine wpAny_bind (wpAny_isInstance (T:="StopIteration") (b:=true) ⟨_,Heap.get?_push_size _ rfl,rfl⟩ isSubtype_stop ?_);exact wpAny_pure (q _ (((Heap.SameBut.update ..).extBut.push _).push _))
structure zeg (es:Array DictEntry) (h:Heap) (S it base:Addr) (acc:Array Value) (i:Nat):Prop where
 size:acc.size=i
 at':∀ j,j<i->∃ (a:Addr) (e:DictEntry),acc[j]?=some (.ref a)/\es[j]?=some e/\h.get? a=some (tupO e.key e.val)/\a≠S/\a≠it/\base<=a
 inc:∀ (j k:Nat) (a b:Addr),j<k->acc[j]?=some (.ref a)->acc[k]?=some (.ref b)->a<b
theorem zib {R:Result->Shared->Prop} {S base:Addr} {res:Value} (hh:A.handled=none) (hn:es.size<=sizeLine) (g3:od.data=.dict es ep) (hSi:S≠it) (hSd:S≠d) (hdi:d≠it) :
  ∀ (k i:Nat) (s:Shared) (acc:Array Value) (c:Nat),es.size-i=k->i<=es.size->base<=s.heap.objs.size->IsIt s.heap it d i es.size ep->s.heap.get? d=some od->s.heap.get? S=some { cls:=.type "list",dict:=none,data:=.seq acc c,slots:=#[] }->zeg es s.heap S it base acc i →
  (∀ h' acc' c',(∀ b o,b≠S->b≠it->s.heap.get? b=some o->h'.get? b=some o)->h'.get? S=some { cls:=.type "list",dict:=none,data:=.seq acc' c',slots:=#[] }->zeg es h' S it base acc' es.size->R (.ok (.ret res)) { s with heap:=h' }) →
  codeAny (model prog w) A (.builtin "list.extend.loop" ⟨[.ref S,.ref it,res],[]⟩) R s:=by
 intro k
 induction k with
 | zero=>
  intro i s acc c hk hi hbs hst hd hS hacc hR
  have hin:i=es.size:=by omega
  subst hin
  refine codeAny_builtin F.entry_extend_loop ?_
  rw [Around.under_plainId F.plain_extend_loop _]
  show wpAny _ A.in1 (pyNext (.ref it) >>= _) _ _ s
  refine wpAny_bind (zif (A:=A.in1) hh hst hd g3 (Nat.le_refl _) λh' he=>wpAny_pure (hR h' acc c (λb o _ hb e=>he b o hb e) (he S _ hSi hS) ⟨hacc.size,λj hj=>?_,hacc.inc⟩))
  obtain ⟨a,e,e1,e2,e3,e4,e5,e6⟩:=hacc.at' j hj
  exact ⟨a,e,e1,e2,he a _ e5 e3,e4,e5,e6⟩
 | succ k ih=>
  intro i s acc c hk hi hbs hst hd hS hacc hR
  have hlt:i<es.size:=by omega
  refine codeAny_builtin F.entry_extend_loop ?_
  rw [Around.under_plainId F.plain_extend_loop _]
  show wpAny _ A.in1 (pyNext (.ref it) >>= _) _ _ s
  refine wpAny_bind (zh3 (A:=A.in1) hst hd g3 (e:=es[i]) (by simp [hlt]) λh1 hit1 ht1 hz1 hk1=>?_)
  have hS1:=hk1 S _ hSi hS
  have hd1:=hk1 d _ hdi hd
  have nS:S<s.heap.objs.size:=Heap.lt_size hS
  have nI:it<s.heap.objs.size:=by obtain ⟨_,_,_,_,_,e⟩:=hst;exact Heap.lt_size e
  show wpAny _ A.in1 (updateSeq S (·.push (.ref s.heap.objs.size)) >>= _) _ _ _
  refine wpAny_bind (wpAny_updateSeq hS1 rfl (wpAny_pure ⟨plainId_quiet F.plain_extend_loop _,?_⟩) (by rw [hacc.size];omega) (by show (acc.push _).size<=sizeLine+1;rw [Array.size_push,hacc.size];omega))
  have oth:∀ b o,b≠S->h1.get? b=some o->(h1.update S (Obj.mapSeq (·.push (.ref s.heap.objs.size)))).get? b=some o:=λb o hb e=>(Heap.get?_update_other _ _ (Ne.symm hb)).trans e
  have acc0:∀ j,j≠i->(acc.push (.ref s.heap.objs.size))[j]?=acc[j]?:=λj hj=>by rw [Array.getElem?_push,if_neg (by rw [hacc.size];exact hj)]
  have acc1:(acc.push (.ref s.heap.objs.size))[i]?=some (.ref s.heap.objs.size):=by rw [Array.getElem?_push,if_pos hacc.size.symm]
  refine ih (i+1) _ (acc.push (.ref s.heap.objs.size)) _ (by omega) hlt ?_ ?_ (oth d _ (Ne.symm hSd) hd1) (Heap.get?_update_self _ hS1 rfl) ⟨by rw [Array.size_push,hacc.size],λj hj=>?_,λj k a b hjk ea eb=>?_⟩ λh' acc' c' hk' hS' hacc'=>?_
  ·show base<=(h1.update S _).objs.size
   rw [Heap.size_update,hz1];exact Nat.le_succ_of_le hbs
  ·obtain ⟨f0,f1,k',v',hf,e⟩:=hit1
   exact ⟨f0,f1,k',v',hf,oth it _ (Ne.symm hSi) e⟩
  ·by_cases hji:j=i
   ·subst hji
    exact ⟨s.heap.objs.size,es[j],acc1,by simp [hlt],oth _ _ (Nat.ne_of_gt nS) ht1,Nat.ne_of_gt nS,Nat.ne_of_gt nI,hbs⟩
   ·obtain ⟨a,e,e1,e2,e3,e4,e5,e6⟩:=hacc.at' j (by omega)
    exact ⟨a,e,by rw [acc0 j hji];exact e1,e2,oth a _ e4 (hk1 a _ e5 e3),e4,e5,e6⟩
  ·have hki:k<=i:=by
    rcases Nat.lt_or_ge i k with h | h
    ·rw [Array.getElem?_eq_none (by rw [Array.size_push,hacc.size];exact h)] at eb;cases eb
    ·exact h
   rw [acc0 j (by omega)] at ea
   by_cases hk2:k=i
   ·subst hk2
    rw [acc1] at eb
    cases eb
    obtain ⟨a',e,e1,_,e3,_⟩:=hacc.at' j hjk
    rw [e1] at ea;cases ea
    exact Heap.lt_size e3
   ·rw [acc0 k hk2] at eb
    exact hacc.inc j k a b hjk ea eb
  ·exact hR h' acc' c' (λb o h1 h2 e=>hk' b o h1 h2 (oth b o h1 (hk1 b o h2 e))) hS' hacc'
theorem zet {v:Addr} {Q:List Value->Shared->Prop} (hh:A.handled=none) (hn:es.size<=sizeLine) (hv:s.heap.IsItemsView v d) (g1:s.heap.get? d=some od) (g3:od.data=.dict es ep)
  (q:∀ h' acc,(∀ b o,s.heap.get? b=some o->h'.get? b=some o)->s.heap.objs.size<=h'.objs.size->zeg es h' s.heap.objs.size (s.heap.objs.size+1) s.heap.objs.size acc es.size->Q acc.toList { s with heap:=h' }):wpAny (model prog w) A (collect (.ref v)) Q E s:=by
 obtain ⟨ov,hov,hcv,hdv⟩:=id hv
 have vlt:v<s.heap.objs.size:=Heap.lt_size hov
 have dlt:d<s.heap.objs.size:=Heap.lt_size g1
 unfold collect
 refine wpAny_bind (wpAny_runValue (codeAny_builtin entry_proto_collect' ?_))
 show wpAny _ _ (do again (.builtin "list.__iadd__" ⟨[<-newList [],.ref v],[]⟩)) _ _ s
 refine wpAny_bind (wpAny_newList (wpAny_pure ⟨Code.quiet_builtin _ (by decide +kernel),codeAny_builtin entry_list_iadd' ?_⟩))
 have hS:(s.heap.push (seqObj "list" #[] 0)).get? s.heap.objs.size=some { cls:=.type "list",data:=.seq #[] }:=Heap.get?_push_size _ rfl
 show wpAny _ _ (Builtin.List.listExtendWith (.ref s.heap.objs.size) (.ref v) (.ref s.heap.objs.size)) _ _ { s with heap:=s.heap.push (seqObj "list" #[] 0) }
 have g1':=Heap.get?_push_of_some (seqObj "list" #[] 0) g1
 have hov':=Heap.get?_push_of_some (seqObj "list" #[] 0) hov
 have sz0:(s.heap.push (seqObj "list" #[] 0)).objs.size=s.heap.objs.size+1:=Heap.size_push ..
 have kp:∀ b o,s.heap.get? b=some o->(s.heap.push (seqObj "list" #[] 0)).get? b=some o:=λb o e=>Heap.get?_push_of_some _ e
 generalize s.heap.push (seqObj "list" #[] 0)=h1 at hS g1' hov' sz0 kp ⊢
 have hT:({ s with heap:=h1 }:Shared).TypeIs (.ref v) "dict_items":=⟨ov,hov',hcv⟩
 unfold Builtin.List.listExtendWith
 refine wpAny_bind (wpAny_typeOf hT ?_)
 have e1:Builtin.List.listSameRef (.ref s.heap.objs.size) (.ref v)=false:=by simp [Builtin.List.listSameRef,Nat.ne_of_gt vlt]
 have n1:(Value.type "dict_items"==Value.type "list")=false:=by decide
 have n2:(Value.type "dict_items"==Value.type "tuple")=false:=by decide
 simp only [e1,n1,n2,Bool.or_false,Bool.false_eq_true,if_false]
 refine wpAny_bind (zhF (s:={ s with heap:=h1 }) ⟨ov,hov',hcv,hdv⟩ g1' g3 ?_)
 have hT1:({ s with heap:=h1.push (itO .none (.bool false) d 0 es.size ep .none .none) }:Shared).TypeIs (.ref v) "dict_items":=⟨ov,Heap.get?_push_of_some _ hov',hcv⟩
 refine wpAny_bind (wpAny_holding (PySem.W.kdx_hint hT1 ?_))
 have hS1:=Heap.get?_push_of_some (itO .none (.bool false) d 0 es.size ep .none .none) hS
 have hI1:(h1.push (itO .none (.bool false) d 0 es.size ep .none .none)).get? (s.heap.objs.size+1)=some (itO .none (.bool false) d 0 es.size ep .none .none):=by rw [<-sz0];exact Heap.get?_push_size _ rfl
 have g2':=Heap.get?_push_of_some (itO .none (.bool false) d 0 es.size ep .none .none) g1'
 have sz1:(h1.push (itO .none (.bool false) d 0 es.size ep .none .none)).objs.size=s.heap.objs.size+2:=by rw [Heap.size_push,sz0]
 have kp1:∀ b o,s.heap.get? b=some o->(h1.push (itO .none (.bool false) d 0 es.size ep .none .none)).get? b=some o:=λb o e=>Heap.get?_push_of_some _ (kp b o e)
 show wpAny _ _ _ _ _ { s with heap:=h1.push (itO .none (.bool false) d 0 es.size ep .none .none) }
 show wpAny _ _ (if (_||_)=true then _ else _) _ _ _
 refine wpAny_ite_split (λ_=>?_) (λhab=>absurd (by decide) hab)
 rw [sz0]
 generalize h1.push (itO .none (.bool false) d 0 es.size ep .none .none)=h2 at hS1 hI1 g2' sz1 kp1 ⊢
 refine wpAny_bind (wpAny_rule (wpAny_bind ?_))
 show wpAny _ _ (updateSeq s.heap.objs.size (·.push .none) >>= λ_=>updateSeq s.heap.objs.size (·.pop)) _ _ _
 refine wpAny_bind (wpAny_updateSeq hS1 rfl ?_)
 have hS2:=Heap.get?_update_self (Obj.mapSeq (·.push Value.none)) hS1 rfl
 refine wpAny_updateSeq (hz:=by seq_fits) hS2 rfl ?_
 have hS3:=Heap.get?_update_self (Obj.mapSeq (·.pop)) hS2 rfl
 have oth:∀ b o,b≠s.heap.objs.size->h2.get? b=some o->((h2.update s.heap.objs.size (Obj.mapSeq (·.push Value.none))).update s.heap.objs.size (Obj.mapSeq (·.pop))).get? b=some o:=λb o hb e=>
  (Heap.get?_update_other _ _ (Ne.symm hb)).trans ((Heap.get?_update_other _ _ (Ne.symm hb)).trans e)
 refine wpAny_pure ⟨plainId_quiet F.plain_extend_loop _,?_⟩
 refine zib (base:=s.heap.objs.size) (od:=od) (es:=es) (ep:=ep) (d:=d) (it:=s.heap.objs.size+1) hh hn g3 (Nat.ne_of_lt (Nat.lt_succ_self _)) (Nat.ne_of_gt dlt) (Nat.ne_of_lt (Nat.lt_succ_of_lt dlt)) es.size 0 _ #[] _ (by omega) (Nat.zero_le _) ?_ ⟨_,_,_,_,.inl rfl,oth _ _ (by omega) hI1⟩ (oth _ _ (Nat.ne_of_lt dlt) g2') hS3 ⟨rfl,λj hj=>absurd hj (Nat.not_lt_zero _),λj k a b _ e=>by simp at e⟩ λh' acc c' hk hS' hacc=>?_
 ·show s.heap.objs.size<=_
  simp only [Heap.size_update]
  omega
 ·show wpAny (model prog w) A (do
   let o<-load s.heap.objs.size
   match o.data with
   | .seq xs _=>pure xs.toList
   | _=>unsupported "internal:collect") _ _ _
  refine wpAny_bind (wpAny_load hS' ?_)
  exact wpAny_pure (q h' acc (λb o e=>hk b o (Nat.ne_of_lt (Heap.lt_size e)) (Nat.ne_of_lt (Nat.lt_succ_of_lt (Heap.lt_size e))) (oth b o (Nat.ne_of_lt (Heap.lt_size e)) (kp1 b o e))) (Nat.le_of_lt (Heap.lt_size hS')) hacc)
end
end IT
set_option linter.all false
set_option maxHeartbeats 4000000
set_option maxRecDepth 100000
namespace IT
open PySem PySem.W PyProof.Rows
theorem zhr:∀ x y:List Nat,ltS x y=decide (x<y)
 | [],[]=>by simp [ltS]
 | [],_::_=>by simp [ltS]
 | _::_,[]=>by simp [ltS]
 | a::r,b::t=>by
  have ih:=zhr r t
  simp only [ltS,List.cons_lt_cons_iff]
  by_cases h:a=b
  ·subst h;simp [ih]
  ·simp [h]
theorem zm7 {x y:List Nat} (h1:ltS x y=false) (h2:ltS y x=false):x=y:=by
 rw [zhr,decide_eq_false_iff_not] at h1 h2
 exact List.le_antisymm (List.not_lt.mp h2) (List.not_lt.mp h1)
mutual
theorem zj8:∀ x y:D,D.lt x y=some false->D.lt y x=some false->x=y
 | .int a,y,h1,h2=>by
  cases y<;>simp [D.lt] at h1 h2
  rw [Int.le_antisymm h2 h1]
 | .str a,y,h1,h2=>by
  cases y<;>simp [D.lt] at h1 h2
  rw [zm7 h1 h2]
 | .tup a,y,h1,h2=>by
  cases y<;>simp [D.lt] at h1 h2
  rw [lts_tot a _ h1 h2]
 | .non,_,h1,_=>by simp [D.lt] at h1
 | .bl _,_,h1,_=>by simp [D.lt] at h1
 | .lst _,_,h1,_=>by simp [D.lt] at h1
theorem lts_tot:∀ x y:List D,D.lts x y=some false->D.lts y x=some false->x=y
 | [],[],_,_=>rfl
 | [],_::_,h1,_=>by simp [D.lts] at h1
 | _::_,[],_,h2=>by simp [D.lts] at h2
 | a::r,b::t,h1,h2=>by
  simp only [D.lts] at h1 h2
  by_cases h:a=b
  ·subst h
   rw [if_pos (D.same_refl a)] at h1 h2
   rw [lts_tot r t h1 h2]
  ·rw [if_neg (by rw [zcx h];exact Bool.false_ne_true)] at h1
   rw [if_neg (by rw [zcx (Ne.symm h)];exact Bool.false_ne_true)] at h2
   exact absurd (zj8 a b h1 h2) h
end
section
variable {prog:Program} {w:World} {E:Value->Shared->Prop}
theorem kLt:∀ (n:Nat) (x y:D) (c:Bool) (A:Around) (s:Shared) (u v:Value) (Q:Value->Shared->Prop),x.dep<=n->KAt s.heap x u->KAt s.heap y v->D.lt x y=some c->A.units+n<cLine->Q (.bool c) s->wpAny (model prog w) A (richCompare .Lt u v) Q E s
 | n,.int a,y,c,A,s,u,v,Q,hn,p,q,e,hu,k=>by
  simp only [KAt] at p
  obtain ⟨t,rfl⟩:=p
  cases y with
  | int b=>
   simp only [KAt] at q
   obtain ⟨t',rfl⟩:=q
   simp only [D.lt,Option.some.injEq] at e
   subst e
   exact P.lt_int k
  | _=>simp [D.lt] at e
 | n,.str a,y,c,A,s,u,v,Q,hn,p,q,e,hu,k=>by
  simp only [KAt] at p
  obtain ⟨t,rfl⟩:=p
  cases y with
  | str b=>
   simp only [KAt] at q
   obtain ⟨t',rfl⟩:=q
   simp only [D.lt,Option.some.injEq,zhr] at e
   subst e
   exact P.lt_str k
  | _=>simp [D.lt] at e
 | 0,.tup a,y,c,A,s,u,v,Q,hn,p,q,e,hu,k=>by simp only [D.dep] at hn;omega
 | n + 1,.tup a,y,c,A,s,u,v,Q,hn,p,q,e,hu,k=>by
  simp only [KAt] at p
  obtain ⟨l,its,rfl,t,r⟩:=p
  cases y with
  | tup b=>
   simp only [KAt] at q
   obtain ⟨l',its',rfl,t',r'⟩:=q
   simp only [D.lt] at e
   have T:=za3 t
   have T':=za3 t'
   obtain ⟨o,ho,_,m,hd⟩:=t
   obtain ⟨o',ho',_,m',hd'⟩:=t'
   have hdep:D.deps a<=n:=by simp only [D.dep] at hn;omega
   refine wpAny_richCompare_same_room T T' F.slot_tuple_lt (wpAny_call_entry F.slot_tuple_lt T F.entry_tuple_lt ?_ (F.args_tuple_lt_2 _ _)) (by omega)
   show wpAny _ A.in1 (isInstance (.ref l') (.type "tuple") >>= _) _ _ _
   refine wpAny_bind (wpAny_isInstance T' isSubtype_tuple_tuple ?_)
   simp only [Bool.not_true,Bool.false_eq_true,if_false]
   refine wpAny_bind (wpAny_tupleItemsOf ho hd (wpAny_bind (wpAny_tupleItemsOf ho' hd' (wpAny_bind ?_))))
   refine wpAny_forIn_list _ (λrest r s1=>r.1=none/\s1=s/\∃ xs ys us vs,rest=List.zip us vs/\KAts s.heap xs us/\KAts s.heap ys vs/\D.deps xs<=n/\D.lts xs ys=some c/\decide (us.length<vs.length)=decide (its.size<its'.size)) _ ?_ ?_ _ _ ⟨rfl,rfl,a,b,_,_,rfl,r,r',hdep,e,by simp⟩
   ·rintro ⟨p,q⟩ rest r s1 ⟨hr,rfl,xs,ys,us,vs,hz,r1,r2,hd1,e1,hl⟩
    cases xs with
    | nil=>simp only [KAts] at r1;subst r1;cases hz
    | cons x xs=>
     cases ys with
     | nil=>simp only [KAts] at r2;subst r2;rw [List.zip_nil_right] at hz;cases hz
     | cons y ys=>
      simp only [KAts] at r1 r2
      obtain ⟨u1,us1,rfl,k1,k2⟩:=r1
      obtain ⟨v1,vs1,rfl,k3,k4⟩:=r2
      simp only [List.zip_cons_cons,List.cons.injEq,Prod.mk.injEq] at hz
      obtain ⟨⟨rfl,rfl⟩,rfl⟩:=hz
      simp only [D.deps] at hd1
      simp only [D.lts] at e1
      refine wpAny_bind (kEq n x y A.in1 _ _ (by omega) k1 k3 (by show A.units+1+n<cLine;omega) prog w _ _ ?_)
      cases hs:x.same y with
      | true=>
       rw [hs] at e1
       simp only [Bool.not_true,Bool.false_eq_true,if_false]
       exact wpAny_pure ⟨rfl,rfl,xs,ys,us1,vs1,rfl,k2,k4,by omega,by simpa using e1,by simpa using hl⟩
      | false=>
       rw [hs] at e1
       simp only [Bool.not_false,if_true]
       refine wpAny_bind (wpAny_rule (wpAny_bind (kLt n x y c A.in1 _ _ _ _ (by omega) k1 k3 (by simpa using e1) (by show A.units+1+n<cLine;omega) ?_)))
       exact wpAny_bind (wpAny_pure (wpAny_pure (wpAny_pure ⟨_,rfl,(λx=>nomatch x),k⟩)))
   ·rintro ⟨r1,r2⟩ s1 ⟨hr,rfl,xs,ys,us,vs,hz,k1,k2,hd1,e1,hl⟩
    simp only at hr
    subst hr
    have ec:decide (its.size<its'.size)=c:=by
     rw [<-hl]
     have l1:=k1.length
     have l2:=k2.length
     have l3:=congrArg List.length hz
     simp only [List.length_zip,List.length_nil] at l3
     cases xs with
     | nil=>
      cases ys with
      | nil=>
       simp only [D.lts,Option.some.injEq] at e1
       simp only [List.length_nil] at l1 l2
       subst e1;exact decide_eq_false (by omega)
      | cons y ys=>
       simp only [D.lts,Option.some.injEq] at e1
       simp only [List.length_nil,List.length_cons] at l1 l2
       subst e1;exact decide_eq_true (by omega)
     | cons x xs=>
      cases ys with
      | nil=>
       simp only [D.lts,Option.some.injEq] at e1
       simp only [List.length_nil,List.length_cons] at l1 l2
       subst e1;exact decide_eq_false (by omega)
      | cons y ys=>simp only [List.length_cons] at l1 l2;omega
    refine wpAny_pure ⟨_,rfl,(λx=>nomatch x),?_⟩
    rw [<-ec] at k
    exact k
  | _=>simp [D.lt] at e
 | _,.non,_,_,_,_,_,_,_,_,p,_,_,_,_=>by simp only [KAt] at p
 | _,.bl _,_,_,_,_,_,_,_,_,p,_,_,_,_=>by simp only [KAt] at p
 | _,.lst _,_,_,_,_,_,_,_,_,p,_,_,_,_=>by simp only [KAt] at p
theorem zoq {n:Nat} {A:Around} {s:Shared} {b fin c:Bool} {Q:Bool->Shared->Prop} (hu:A.units+n<cLine):∀ (xs ys:List D) (us vs:List Value) (i:Nat),KAts s.heap xs us->KAts s.heap ys vs->D.deps xs<=n->D.lts xs ys=some c->fin=decide (us.length<vs.length) →
  (b=true->i=0->∀ x r,xs=x::r->∃ z,x=.str z)->Q c s->KatLex prog w A b fin Q (us.zip vs) i s
 | [],[],us,vs,i,r1,r2,hd,e,hf,hb,k=>by
  simp only [KAts] at r1 r2
  subst r1 r2
  simp only [D.lts,Option.some.injEq] at e
  subst e
  subst hf
  exact kat_nil (by simpa using k)
 | [],y::ys,us,vs,i,r1,r2,hd,e,hf,hb,k=>by
  simp only [KAts] at r1 r2
  obtain ⟨_,_,rfl,_,_⟩:=r2
  subst r1
  simp only [D.lts,Option.some.injEq] at e
  subst e
  subst hf
  exact kat_nil (by simpa using k)
 | x::xs,[],us,vs,i,r1,r2,hd,e,hf,hb,k=>by
  simp only [KAts] at r1 r2
  obtain ⟨_,_,rfl,_,_⟩:=r1
  subst r2
  simp only [D.lts,Option.some.injEq] at e
  subst e
  subst hf
  rw [List.zip_nil_right]
  exact kat_nil (by simpa using k)
 | x :: xs,y::ys,us,vs,i,r1,r2,hd,e,hf,hb,k=>by
  simp only [KAts] at r1 r2
  obtain ⟨u,us,rfl,k1,k2⟩:=r1
  obtain ⟨v,vs,rfl,k3,k4⟩:=r2
  simp only [D.deps] at hd
  simp only [D.lts] at e
  rw [List.zip_cons_cons]
  refine kat_cons (kEq n x y A _ _ (by omega) k1 k3 hu prog w _ _ ?_)
  cases hs:x.same y with
  | true=>
   rw [hs] at e
   exact kat_yes (zoq hu xs ys us vs (i+1) k2 k4 (by omega) (by simpa using e) (by simpa using hf) (λ_ h=>by omega) k)
  | false=>
   rw [hs] at e
   replace e:D.lt x y=some c:=by simpa using e
   refine kat_no ?_
   by_cases hbi:b=true/\i=0
   ·obtain ⟨rfl,rfl⟩:=hbi
    obtain ⟨z,rfl⟩:=hb rfl rfl x xs rfl
    cases y with
    | str z'=>
     simp only [KAt] at k1 k3
     obtain ⟨t,rfl⟩:=k1
     obtain ⟨t',rfl⟩:=k3
     simp only [D.lt,Option.some.injEq,zhr] at e
     subst e
     exact oneLt_str k
    | _=>simp [D.lt] at e
   ·have e0:(b&&i==0)=false:=by
     cases b with
     | false=>rfl
     | true=>simp only [Bool.true_and,beq_eq_false_iff_ne];exact λh=>hbi ⟨rfl,h⟩
    rw [e0]
    exact kat_one _ _ (kLt n x y c A _ _ _ _ (by omega) k1 k3 e hu k)
end
noncomputable def runK {α:Type} (f:Nat->Nat->Bool):KasT α->α
 | .ret a=>a
 | .ask i j k=>runK f (k (f i j))
noncomputable def inK {α:Type} (n:Nat) (f:Nat->Nat->Bool):KasT α->Bool
 | .ret _=>true
 | .ask i j k=>decide (i<n)&&decide (j<n)&&inK n f (k (f i j))
theorem zlq {α:Type} {n:Nat} {cmp:Nat->Nat->(Bool->Shared->Prop)->Shared->Prop} {f:Nat->Nat->Bool} {s:Shared} {Q:α->Shared->Prop} (h:∀ i j,i<n->j<n->∀ C:Bool->Shared->Prop,C (f i j) s->cmp i j C s):∀ t:KasT α,inK n f t=true->Q (runK f t) s->t.kasWp cmp Q s
 | .ret a,_,q=>q
 | .ask i j k,g,q=>by
  simp only [inK,Bool.and_eq_true,decide_eq_true_eq] at g
  exact h i j g.1.1 g.1.2 _ (zlq h (k (f i j)) g.2 q)
noncomputable def insN (f:Nat->Nat->Bool) (x:Nat):List Nat->List Nat
 | []=>[x]
 | y::r=>if f y x then y::insN f x r else x::y::r
noncomputable def zc6 (f:Nat->Nat->Bool):List Nat->List Nat
 | []=>[]
 | x::r=>insN f x (zc6 f r)
theorem zgX {f:Nat->Nat->Bool} {g:Nat->D} (h:∀ i j,f i j=ltT (g i) (g j)) (x:Nat):∀ l,insD (g x) (l.map g)=(insN f x l).map g
 | []=>rfl
 | y::r=>by
  simp only [List.map_cons,insD,insN,h]
  split
  ·rw [List.map_cons,zgX h x r]
  ·rfl
theorem zef {f:Nat->Nat->Bool} {g:Nat->D} (h:∀ i j,f i j=ltT (g i) (g j)):∀ l,zdc (l.map g)=(zc6 f l).map g
 | []=>rfl
 | x::r=>by simp only [List.map_cons,zdc,zc6,zef h r,zgX h]
noncomputable def fR (rs:List Nat) (i j:Nat):Bool:=decide (i<rs.length)&&decide (j<rs.length)&&decide (rs.getD i 0<rs.getD j 0)
noncomputable def ziI (n:Nat) (rs:List Nat):Bool:=inK n (fR rs) (kas_sort n)&&((runK (fR rs) (kas_sort n)).toList==zc6 (fR rs) (List.range n))
theorem zpK:∀ a b:Fin 5,a≠b->ziI 2 [a,b]=true:=by decide +kernel
theorem zpA:∀ a b c:Fin 5,a≠b->a≠c->b≠c->ziI 3 [a,b,c]=true:=by decide +kernel
set_option synthInstance.maxSize 4000 in
theorem zqb:∀ a b c d:Fin 5,a≠b->a≠c->a≠d->b≠c->b≠d->c≠d->ziI 4 [a,b,c,d]=true:=by decide +kernel
theorem zgY {f:Nat->Nat->Bool} {x i:Nat}:∀ {l:List Nat},i∈insN f x l->i=x\/i∈l
 | [],h=>by simp only [insN,List.mem_singleton] at h;exact .inl h
 | y::r,h=>by
  simp only [insN] at h
  split at h
  ·rcases List.mem_cons.mp h with e | h
   ·exact .inr (e▸List.mem_cons_self)
   ·exact (zgY h).imp id (List.mem_cons_of_mem _)
  ·exact List.mem_cons.mp h
theorem zeo {f:Nat->Nat->Bool} {i:Nat}:∀ {l:List Nat},i∈zc6 f l->i∈l
 | [],h=>h
 | x::r,h=>by
  rcases zgY h with e | h
  ·exact e▸List.mem_cons_self
  ·exact List.mem_cons_of_mem _ (zeo h)
theorem zhg {f:Nat->Nat->Bool} {x:Nat}:∀ l:List Nat,(insN f x l).length=l.length+1
 | []=>rfl
 | y::r=>by
  simp only [insN]
  split
  ·rw [List.length_cons,zhg r,List.length_cons]
  ·rfl
theorem zel {f:Nat->Nat->Bool}:∀ l:List Nat,(zc6 f l).length=l.length
 | []=>rfl
 | x::r=>by rw [zc6,zhg,zel r,List.length_cons]
theorem zm3 (x:D):ltT x .non=false:=by cases x<;>simp [ltT,D.lt]
theorem zhe {xs:List D} {i:Nat} (h:¬ i<xs.length):xs.getD i .non=.non:=by simp [Nat.le_of_not_lt h]
theorem zbL {xs:List D} {i:Nat} (h:i<xs.length):xs.getD i .non=xs[i]:=by simp [h]
structure Srt (xs ys:List D) (p:List Nat):Prop where
 len:xs.length<=4
 key:∀ x∈xs,zai x=true
 fst:(∀ x∈xs,fstK x=1)\/∀ x∈xs,fstK x=2
 lt:∀ i j,i<xs.length->j<xs.length->D.lt (xs.getD i .non) (xs.getD j .non)=some (fR (xs.map (rnk xs)) i j)
 mem:∀ i∈p,i<xs.length
 plen:p.length=xs.length
 out:ys=p.map λi=>xs.getD i .non
 few:xs.length<2->p=List.range xs.length
 run:2<=xs.length->inK xs.length (fR (xs.map (rnk xs))) (kas_sort xs.length)=true/\(runK (fR (xs.map (rnk xs))) (kas_sort xs.length)).toList=p
theorem zgT:∀ {xs:List D},apart xs=true->∀ i j (hi:i<j) (hj:j<xs.length),xs[i]'(by omega)≠xs[j]
 | [],_,i,j,_,hj=>by simp at hj
 | x::r,h,i,j,hi,hj=>by
  simp only [apart,Bool.and_eq_true,List.all_eq_true] at h
  match i,j,hi,hj with
  | 0,j+1,_,hj=>
   simp only [List.length_cons] at hj
   have:=h.1 (r[j]'(by omega)) (List.getElem_mem ..)
   intro e
   simp only [List.getElem_cons_zero,List.getElem_cons_succ] at e
   rw [<-e,D.same_refl] at this
   cases this
  | i+1,j+1,hi,hj=>
   simp only [List.length_cons] at hj
   simpa using zgT h.2 i j (by omega) (by omega)
theorem zeN {xs ys:List D} (h:zch xs=some ys):∃ p,Srt xs ys p:=by
 unfold zch at h
 split at h
 ·rename_i hc
  simp only [Bool.and_eq_true,Bool.or_eq_true,List.all_eq_true,decide_eq_true_eq,beq_iff_eq] at hc
  obtain ⟨⟨⟨⟨h4,hk⟩,ha⟩,hr⟩,hf⟩:=hc
  simp only [Option.some.injEq] at h
  unfold rkOk at hr
  simp only [List.all_eq_true,Bool.and_eq_true,beq_iff_eq] at hr
  have hlt:∀ i j (hi:i<xs.length) (hj:j<xs.length),D.lt xs[i] xs[j]=some (decide (rnk xs xs[i]<rnk xs xs[j])):=by
   intro i j hi hj
   obtain ⟨h1,h2⟩:=hr xs[i] (List.getElem_mem ..) xs[j] (List.getElem_mem ..)
   obtain ⟨t,et⟩:=Option.isSome_iff_exists.mp h1
   rw [et,<-h2]
   simp only [ltT,et]
  have hf2:∀ i j (hi:i<xs.length) (hj:j<xs.length),fR (xs.map (rnk xs)) i j=decide (rnk xs xs[i]<rnk xs xs[j]):=by
   intro i j hi hj
   simp [fR,hi,hj]
  have feq:∀ i j,fR (xs.map (rnk xs)) i j=ltT (xs.getD i .non) (xs.getD j .non):=by
   intro i j
   by_cases hi:i<xs.length
   ·by_cases hj:j<xs.length
    ·rw [hf2 i j hi hj,zbL hi,zbL hj,ltT,hlt i j hi hj]
    ·rw [zhe hj,zm3]
     simp [fR,hj]
   ·rw [zhe hi]
    simp [fR,hi,ltT,D.lt]
  have ne:∀ i j (hi:i<j) (hj:j<xs.length),rnk xs (xs[i]'(by omega))≠rnk xs xs[j]:=by
   intro i j hi hj e
   have e1:=hlt i j (by omega) hj
   have e2:=hlt j i hj (by omega)
   rw [e,decide_eq_false (Nat.lt_irrefl _)] at e1 e2
   exact zgT ha i j hi hj (zj8 _ _ e1 e2)
  have le:∀ i (hi:i<xs.length),rnk xs xs[i]<5:=by
   intro i hi
   have:rnk xs xs[i]<=xs.length:=List.countP_le_length
   omega
  have ex:xs=(List.range xs.length).map λi=>xs.getD i .non:=by
   refine List.ext_getElem (by simp) λi h1 h2=>?_
   simp [h1]
  refine ⟨zc6 (fR (xs.map (rnk xs))) (List.range xs.length),h4,hk,hf,λi j hi hj=>?_,λi hi=>List.mem_range.mp (zeo hi),by rw [zel,List.length_range],?_,λh2=>?_,λh2=>?_⟩
  ·rw [zbL hi,zbL hj,hlt i j hi hj,hf2 i j hi hj]
  ·rw [<-h]
   conv=>lhs;rw [ex]
   exact zef feq _
  ·match xs,h2 with
   | [],_=>rfl
   | [x],_=>rfl
  ·have g:ziI xs.length (xs.map (rnk xs))=true:=by
    match xs,h2,h4,ne,le with
    | [x,y],_,_,ne,le=>exact zpK ⟨_,le 0 (by simp)⟩ ⟨_,le 1 (by simp)⟩ λe=>ne 0 1 (by omega) (by simp) (congrArg Fin.val e)
    | [x,y,z],_,_,ne,le=>exact zpA ⟨_,le 0 (by simp)⟩ ⟨_,le 1 (by simp)⟩ ⟨_,le 2 (by simp)⟩ (λe=>ne 0 1 (by omega) (by simp) (congrArg Fin.val e)) (λe=>ne 0 2 (by omega) (by simp) (congrArg Fin.val e)) (λe=>ne 1 2 (by omega) (by simp) (congrArg Fin.val e))
    | [x,y,z,t],_,_,ne,le=>exact zqb ⟨_,le 0 (by simp)⟩ ⟨_,le 1 (by simp)⟩ ⟨_,le 2 (by simp)⟩ ⟨_,le 3 (by simp)⟩ (λe=>ne 0 1 (by omega) (by simp) (congrArg Fin.val e)) (λe=>ne 0 2 (by omega) (by simp) (congrArg Fin.val e)) (λe=>ne 0 3 (by omega) (by simp) (congrArg Fin.val e)) (λe=>ne 1 2 (by omega) (by simp) (congrArg Fin.val e)) (λe=>ne 1 3 (by omega) (by simp) (congrArg Fin.val e)) (λe=>ne 2 3 (by omega) (by simp) (congrArg Fin.val e))
    | [_],h2,_,_,_=>simp at h2
    | [],h2,_,_,_=>simp at h2
    | _::_::_::_::_::_,_,h4,_,_=>simp at h4
   simp only [ziI,Bool.and_eq_true,beq_iff_eq] at g
   exact g
 ·cases h
section
variable {prog:Program} {w:World} {A:Around} {E:Value->Shared->Prop} {s:Shared} {a:Addr} {vs:List Value} {xs ys:List D}
theorem KAts.getD {h:Heap} (k:KAts h xs vs) {i:Nat} (hi:i<xs.length):KAt h (xs.getD i .non) (vs.getD i .none):=by
 obtain ⟨v,e,q⟩:=k.at i _ (List.getElem?_eq_getElem hi)
 rw [zbL hi]
 have:vs.getD i .none=v:=by rw [List.getD_eq_getElem?_getD,e];rfl
 rw [this]
 exact q
theorem zeC {h:Heap} {n:Nat} (hn:n=1\/n=2):∀ (xs:List D) (vs:List Value),KAts h xs vs->(∀ x∈xs,fstK x=n)->∃ fs,KatTups h vs fs/\fs.length=xs.length/\∀ v∈fs,if n=1 then ∃ z t,v=.str z t else ∃ b its,v=.ref b/\h.IsTuple b its
 | [],vs,k,_=>by
  simp only [KAts] at k
  subst k
  exact ⟨[],KatTups.nil,rfl,λv hv=>nomatch hv⟩
 | x :: xs,vs,k,hx=>by
  simp only [KAts] at k
  obtain ⟨v,vs,rfl,k1,k2⟩:=k
  obtain ⟨fs,t,l,hf⟩:=zeC hn xs vs k2 λy hy=>hx y (List.mem_cons_of_mem _ hy)
  have h1:=hx x List.mem_cons_self
  cases x with
  | tup ds=>
   simp only [KAt] at k1
   obtain ⟨b,its,rfl,⟨o,ho,hc,m,hd⟩,r⟩:=k1
   cases ds with
   | nil=>simp [fstK] at h1;omega
   | cons d ds=>
    simp only [KAts] at r
    obtain ⟨u,us,e,r1,r2⟩:=r
    refine ⟨u::fs,KatTups.cons ho hc hd (by rw [<-Array.getElem?_toList,e];rfl) t,by simp [l],λv hv=>?_⟩
    rcases List.mem_cons.mp hv with rfl | hv
    ·cases d with
     | str z=>
      simp [fstK] at h1
      rw [if_pos h1.symm]
      simp only [KAt] at r1
      exact ⟨_,r1⟩
     | tup z=>
      simp [fstK] at h1
      rw [if_neg (by omega)]
      simp only [KAt] at r1
      obtain ⟨b,its,e,t,_⟩:=r1
      exact ⟨b,its,e,t⟩
     | _=>simp [fstK] at h1;omega
    ·exact hf v hv
  | _=>simp [fstK] at h1;omega
theorem zj4 {Q:SortKind->Shared->Prop} (k:KAts s.heap xs vs) (h2:2<=xs.length) (hf:(∀ x∈xs,fstK x=1)\/∀ x∈xs,fstK x=2) (q1:(∀ x∈xs,fstK x=1)->Q (tuples' true) s) (q2:Q (tuples' false) s):wpAny (model prog w) A (keyKind' vs.toArray) Q E s:=by
 rcases hf with hf | hf
 ·obtain ⟨fs,t,l,hv⟩:=zeC (.inl rfl) xs vs k hf
  exact kat_kind (T:=.type "str") t (by omega) (λv hm=>by obtain ⟨z,t,rfl⟩:=hv v hm;exact .now) (by decide) (q1 hf)
 ·obtain ⟨fs,t,l,hv⟩:=zeC (.inr rfl) xs vs k hf
  exact kat_kind (T:=.type "tuple") t (by omega) (λv hm=>by
   obtain ⟨b,its,rfl,o,ho,hc,_⟩:=hv v hm
   rw [<-hc]
   exact (Looks.ld ho).andThen .now) (by decide) q2
theorem zmr {b c:Bool} {x y:D} {u v:Value} {Q:Bool->Shared->Prop} (hu:A.units+8<cLine) (k1:KAt s.heap x u) (k2:KAt s.heap y v) (hx:zai x=true) (hy:zai y=true) (hb:b=true->fstK x=1) (e:D.lt x y=some c) (q:Q c s):wpAny (model prog w) A (keyLt' (tuples' b) u v) Q E s:=by
 cases x with
 | tup xs=>
  cases y with
  | tup ys=>
   simp only [KAt] at k1 k2
   obtain ⟨p,i1,rfl,⟨o1,g1,_,n1,d1⟩,r1⟩:=k1
   obtain ⟨p2,i2,rfl,⟨o2,g2,_,n2,d2⟩,r2⟩:=k2
   simp only [zai,Bool.and_eq_true,decide_eq_true_eq] at hx
   refine kat_lt g1 d1 g2 d2 (zoq (n:=8) hu xs ys _ _ 0 r1 r2 (by omega) (by simpa [D.lt] using e) (by simp) (λhb' _ z r ez=>?_) q)
   have:=hb hb'
   subst ez
   cases z with
   | str z=>exact ⟨z,rfl⟩
   | _=>simp [fstK] at this
  | _=>cases hy
 | _=>cases hx
theorem zd4 {n0:Nat} {P:PySem.Fin->Shared->Prop} (ho:s.heap.get? a=some (seqObj "list" vs.toArray n0)) (hk:KAts s.heap xs vs) {p:List Nat} (S:Srt xs ys p) (hu:A.units+8<cLine)
  (q:∀ h' c,(∀ b o,b≠a->s.heap.get? b=some o->h'.get? b=some o)->h'.get? a=some (seqObj "list" (List.toArray (p.map λi=>vs.getD i .none)) c)->P (.done (.ret .none)) { s with heap:=h' }) :
  wpAny (model prog w) A (Builtin.«list.sort» ⟨[.ref a],[]⟩) P E s:=by
 have hl:=hk.length
 have h4:=S.len
 have ha:a<s.heap.objs.size:=Heap.lt_size ho
 obtain ⟨e1,ho1⟩:∃ e1,(s.heap.update a (Obj.mapSeq λ_=>(#[]:Array Value))).get? a=some (seqObj "list" #[] e1):=⟨_,get?_update_seq ho λ_=>#[]⟩
 have kp:∀ b o,b≠a->s.heap.get? b=some o->(((s.heap.update a (Obj.mapSeq λ_=>(#[]:Array Value))).push (seqObj "tuple" vs.toArray 0)).push (seqObj "list" #[] 0)).get? b=some o:=λb o hb e=>
  Heap.get?_push_of_some _ (Heap.get?_push_of_some _ ((Heap.get?_update_other _ _ (Ne.symm hb)).trans e))
 have ho3:(((s.heap.update a (Obj.mapSeq λ_=>(#[]:Array Value))).push (seqObj "tuple" vs.toArray 0)).push (seqObj "list" #[] 0)).get? a=some (seqObj "list" #[] e1):=Heap.get?_push_of_some _ (Heap.get?_push_of_some _ ho1)
 rw [list_sort_plain]
 refine wpAny_bind (listItems_at ho rfl ?_)
 refine wpAny_bind (listUpdate_at ho rfl ?_ (by rw [List.size_toArray,sizeLine_eq];omega) (Nat.zero_le _))
 refine wpAny_bind (seqEpoch_at ho1 rfl ?_)
 refine wpAny_bind (wpAny_newTuple ?_ (by show vs.length<=_;rw [sizeLine_eq];omega))
 refine wpAny_bind (wpAny_newList ?_ (Nat.zero_le _))
 refine wpAny_holding ?_
 show wpAny (model prog w) A _ P E { s with heap:=((s.heap.update a (Obj.mapSeq λ_=>(#[]:Array Value))).push (seqObj "tuple" vs.toArray 0)).push (seqObj "list" #[] 0) }
 generalize ((s.heap.update a (Obj.mapSeq λ_=>(#[]:Array Value))).push (seqObj "tuple" vs.toArray 0)).push (seqObj "list" #[] 0)=h3 at kp ho3 ⊢
 have hk3:KAts h3 xs vs:=KAts.keep (λb its t=>by
  obtain ⟨o,e,c,n,d⟩:=t
  refine ⟨o,kp b o (λz=>?_) e,c,n,d⟩
  subst z
  rw [ho] at e;cases e
  injection c with c'
  exact absurd c' (by decide)) xs vs hk
 have fin:∀ st':SortSt,(arrOf st').map (·.2)=List.toArray (p.map λi=>vs.getD i .none)->failedOf st'=none->wpAny (model prog w) A (do
   let touched:=(<-seqEpoch a) != e1
   Builtin.List.listUpdate (.ref a) λ_=>(arrOf st').map (·.2)
   if let some e:=failedOf st' then rule "list.sort.comparison-raised";throw e
   if touched then rule "list.sort.modified";raiseError "ValueError" "list modified during sort"
   ret .none) P E { s with heap:=h3 }:=by
  intro st' hout hf
  have hz:p.length<=4:=by rw [S.plen];exact h4
  rw [hout]
  refine wpAny_bind (seqEpoch_at ho3 rfl ?_)
  refine wpAny_bind (listUpdate_at ho3 rfl ?_ (Nat.zero_le _) (by show (List.toArray (p.map λi=>vs.getD i Value.none)).size<=sizeLine+1;rw [List.size_toArray,List.length_map,sizeLine_eq];omega))
  rw [hf]
  simp only [bne_self_eq_false,Bool.false_eq_true,if_false]
  refine wpAny_pure (q _ _ (λb o hb e=>(Heap.get?_update_other _ _ (Ne.symm hb)).trans (kp b o hb e)) (get?_update_seq ho3 λ_=>List.toArray (p.map λi=>vs.getD i .none)))
 dsimp only
 by_cases h2:xs.length<2
 ·have hn2:vs.toArray.size<2:=by rw [List.size_toArray];omega
  rw [if_pos hn2,if_pos hn2]
  refine wpAny_bind (wpAny_pure ?_)
  rw [StateT.run_pure]
  refine wpAny_bind (wpAny_pure (fin _ ?_ rfl))
  show (vs.toArray.zip vs.toArray).map (·.2)=_
  rw [S.few h2]
  match xs,vs,hl,h2 with
  | [],[],_,_=>simp
  | [x],[v],_,_=>simp
  | [],_::_,hl,_=>simp at hl
  | [x],[],hl,_=>simp at hl
  | [x],_::_::_,hl,_=>simp at hl
 ·have hn2:¬ vs.toArray.size<2:=by rw [List.size_toArray];omega
  rw [if_neg hn2,if_neg hn2]
  obtain ⟨hin,hrun⟩:=S.run (by omega)
  have go:∀ b,(b=true->∀ x∈xs,fstK x=1)->wpAny (model prog w) A ((sortRuns').run (SortSt.mk' (tuples' b) (vs.toArray.zip vs.toArray) #[] 7 none)) (λr s'=>s'={ s with heap:=h3 }/\(arrOf r.2).map (·.2)=List.toArray (p.map λi=>vs.getD i .none)/\failedOf r.2=none) E { s with heap:=h3 }:=by
   intro b hb
   refine kat_run (Q:=λst' s'=>s'={ s with heap:=h3 }/\(arrOf st').map (·.2)=List.toArray (p.map λi=>vs.getD i .none)/\failedOf st'=none) (G:=λr s'=>s'={ s with heap:=h3 }/\r.toList=p) rfl (by omega) (by omega) (λr st' s' g1 g2 g3 g4=>⟨g4.1,by rw [kat_snds rfl g2,g4.2],g3⟩) ?_
   rw [<-hl]
   refine zlq (n:=xs.length) (f:=fR (xs.map (rnk xs))) (λi j hi hj C hC=>?_) _ hin ⟨rfl,hrun⟩
   refine zmr hu (hk3.getD hi) (hk3.getD hj) (S.key _ ?_) (S.key _ ?_) (λhb'=>hb hb' _ ?_) (S.lt i j hi hj) hC
   all_goals (first | (rw [zbL hi];exact List.getElem_mem ..) | (rw [zbL hj];exact List.getElem_mem ..))
  have rest:∀ b,(b=true->∀ x∈xs,fstK x=1)->wpAny (model prog w) A (do
    let ((),s)<-(sortRuns').run (SortSt.mk' (tuples' b) (vs.toArray.zip vs.toArray) #[] 7 none)
    let sorted:=(arrOf s).map (·.2)
    let touched:=(<-seqEpoch a) != e1
    Builtin.List.listUpdate (.ref a) λ_=>sorted
    if let some e:=failedOf s then rule "list.sort.comparison-raised";throw e
    if touched then rule "list.sort.modified";raiseError "ValueError" "list modified during sort"
    ret .none) P E { s with heap:=h3 }:=by
   intro b hb
   refine wpAny_bind (wpAny_mono (go b hb) ?_ λ_ _ x=>x)
   rintro ⟨⟨⟩,st'⟩ s' ⟨rfl,hout,hf⟩
   exact fin st' hout hf
  refine wpAny_bind (zj4 (s:={ s with heap:=h3 }) hk3 (by omega) S.fst (λh=>rest true λ_=>h) (rest false (by intro z;cases z)))
end
end IT
set_option linter.all false
set_option maxHeartbeats 4000000
set_option maxRecDepth 100000
namespace IT
open PySem PySem.Spec L2 PyProof.Rows
noncomputable def lays (H:Hp):List (Addr×List V)->Hp
 | []=>H
 | t::r=>upd (lays H r) t.1 (.tup t.2)
theorem zdk {H:Hp} {a:Addr}:∀ {ts:List (Addr×List V)},a ∉ ts.map (·.1)->lays H ts a=H a
 | [],_=>rfl
 | t::r,h=>by
  rw [List.map_cons,List.mem_cons,not_or] at h
  rw [lays,zak h.1,zdk h.2]
theorem zis {H:Hp} {a:Addr} {vs:List V}:∀ {ts:List (Addr×List V)},(ts.map (·.1)).Nodup->(a,vs)∈ts->lays H ts a=some (.tup vs)
 | [],_,h=>nomatch h
 | t::r,n,h=>by
  rw [List.map_cons,List.nodup_cons] at n
  rcases List.mem_cons.mp h with e | h
  ·subst e;exact zaj
  ·rw [lays,zak (λe=>n.1 (by rw [<-e];exact List.mem_map.mpr ⟨_,h,rfl⟩)),zis n.2 h]
theorem ziF {H:Hp} {a:Addr} {o:HO}:∀ {ts:List (Addr×List V)},lays H ts a=some o->H a=some o\/∃ vs,(a,vs)∈ts/\o=.tup vs
 | [],h=>.inl h
 | t::r,h=>by
  rw [lays] at h
  by_cases e:a=t.1
  ·subst e
   rw [zaj] at h
   cases h
   exact .inr ⟨t.2,List.mem_cons_self,rfl⟩
  ·rw [zak e] at h
   rcases ziF h with h | ⟨vs,h,z⟩
   ·exact .inl h
   ·exact .inr ⟨vs,List.mem_cons_of_mem _ h,z⟩
section
variable {K:PySem.W.Frag} {μ:List Addr} {h:Sto} {H:Hp}
theorem zgK (R0:Rep K μ h H):∀ {ts:List (Addr×List V)},(ts.map (·.1)).Nodup->(∀ t∈ts,H t.1=none)->Stp μ h H μ h (lays H ts)/\Rep K μ h (lays H ts)
 | [],_,_=>⟨Stp.refl,R0⟩
 | t::r,n,z=>by
  rw [List.map_cons,List.nodup_cons] at n
  obtain ⟨s,R⟩:=zgK R0 n.2 λt ht=>z t (List.mem_cons_of_mem _ ht)
  have e:lays H r t.1=none:=by rw [zdk n.1];exact z t List.mem_cons_self
  exact ⟨s.trans (Stp.fresh e),R.fresh e⟩
end
section
variable {X:Cx} {pins:List (Addr×Obj)} {σ:L2.St} {H H':Hp} {s:Shared} {h':Heap}
theorem zkN {t':Nat} (I:Inv X pins σ H s) (k:∀ b u,s.heap.get? b=some u->h'.get? b=some u) (ag:∀ b,b<s.heap.objs.size->H' b=H b) (new:∀ a o,s.heap.objs.size<=a->H' a=some o->zbh X.prog X.w H' h' a o) :
  Inv X pins σ H' { s with heap:=h',toks:=t' }:=by
 have lt:∀ b u,H b=some u->b<s.heap.objs.size:=λb u e=>(I.hok b u e).lt
 refine I.un ⟨λb o e _ _ _=>k b o e,λb o e _ _ _=>⟨o.slots,k b o e⟩,λb o e n _=>by rw [ag b (Heap.lt_size e)];exact n,λb o e _=>⟨o,k b o e⟩,λb xs e=>by rw [ag b (lt b _ e)];exact e,λb o u e=>by rw [ag b (lt b _ e)];exact e,λb ps e=>⟨#[],by rw [ag b (lt b _ e),e];simp⟩⟩ λa o e=>?_
 by_cases hl:a<s.heap.objs.size
 ·have e0:H a=some o:=by rw [<-ag a hl];exact e
  exact (I.hok a o e0).stay (λb u _ q=>k b u q) (λb q=>by rw [ag b (lt b _ q)];exact q) λb xs q=>by rw [ag b (lt b _ q)];exact q
 ·exact new a o (Nat.le_of_not_lt hl) e
end
theorem zge {h:Heap}:∀ {xs:List D} {vs:List Value},xs.length=vs.length->(∀ (j:Nat) (x:D) (v:Value),xs[j]?=some x->vs[j]?=some v->KAt h x v)->KAts h xs vs
 | [],[],_,_=>by simp only [KAts]
 | [],_::_,l,_=>by simp at l
 | _::_,[],l,_=>by simp at l
 | x::xs,v::vs,l,k=>by
  simp only [KAts]
  exact ⟨v,vs,rfl,k 0 x v rfl rfl,zge (by simpa using l) λj x v e1 e2=>k (j+1) x v (by simpa using e1) (by simpa using e2)⟩
theorem zcu {K:PySem.W.Frag} {A:Addr->Prop} {H:Hp}:∀ {xs:List D} {vs:List V},xs.length=vs.length->(∀ (j:Nat) (x:D) (v:V),xs[j]?=some x->vs[j]?=some v->RepD K A H x v)->RepDs K A H xs vs
 | [],[],_,_=>RepDs.nil
 | [],_::_,l,_=>by simp at l
 | _::_,[],l,_=>by simp at l
 | x::xs,v::vs,l,k=>.cons (k 0 x v rfl rfl) (zcu (by simpa using l) λj x v e1 e2=>k (j+1) x v (by simpa using e1) (by simpa using e2))
theorem zdJ:∀ {xs:List V} {vs:List Value},xs.length=vs.length->(∀ (j:Nat) (x:V) (v:Value),xs[j]?=some x->vs[j]?=some v->RelV x v)->Vals xs vs
 | [],[],_,_=>.nil
 | [],_::_,l,_=>by simp at l
 | _::_,[],l,_=>by simp at l
 | x::xs,v::vs,l,k=>.cons (k 0 x v rfl rfl) (zdJ (by simpa using l) λj x v e1 e2=>k (j+1) x v (by simpa using e1) (by simpa using e2))
theorem zbo {α β:Type} {F:α->β->Prop}:∀ {xs:List α} {ys:List β},Paired F xs ys->∀ (i:Nat) (x:α),xs[i]?=some x->∃ y,ys[i]?=some y/\F x y
 | _,_,.nil,i,x,e=>by simp at e
 | _,_,.cons (b:=y) f fs,0,x,e=>by simp at e;subst e;exact ⟨y,rfl,f⟩
 | _,_,.cons f fs,i+1,x,e=>by simp at e;simpa using zbo fs i x e
theorem zfo {K:PySem.W.Frag} {A:Addr->Prop} {H:Hp} {xs:List D} {ws:List V} (q:RepDs K A H xs ws) {p:List Nat} (hp:∀ i∈p,i<xs.length):RepDs K A H (p.map λi=>xs.getD i .non) (p.map λi=>ws.getD i .non):=by
 refine zcu (by simp) λj x v e1 e2=>?_
 rw [List.getElem?_map] at e1 e2
 cases e:p[j]? with
 | none=>rw [e] at e1;cases e1
 | some i=>
  rw [e] at e1 e2
  simp only [Option.map_some,Option.some.injEq] at e1 e2
  have hi:=hp i (List.mem_of_getElem? e)
  obtain ⟨w,ew,qw⟩:=q.get (List.getElem?_eq_getElem hi)
  rw [<-e1,<-e2,zbL hi,List.getD_eq_getElem?_getD,ew]
  exact qw
theorem zg4 {ws:List V} {vs:List Value} (q:Vals ws vs) {p:List Nat} (hp:∀ i∈p,i<ws.length):Vals (p.map λi=>ws.getD i .non) (p.map λi=>vs.getD i .none):=by
 refine zdJ (by simp) λj x v e1 e2=>?_
 rw [List.getElem?_map] at e1 e2
 cases e:p[j]? with
 | none=>rw [e] at e1;cases e1
 | some i=>
  rw [e] at e1 e2
  simp only [Option.map_some,Option.some.injEq] at e1 e2
  have hi:=hp i (List.mem_of_getElem? e)
  obtain ⟨w,ew,qw⟩:=zbo q i _ (List.getElem?_eq_getElem hi)
  rw [<-e1,<-e2,List.getD_eq_getElem?_getD,List.getD_eq_getElem?_getD,ew,List.getElem?_eq_getElem hi]
  exact qw
section
variable {prog:Program} {w:World} {A:Around} {E:Value->Shared->Prop} {s:Shared}
theorem zfV {v:Value} {Q:Value->Shared->Prop} {G:List Value->Shared->Prop} (hu:A.units+16<cLine) (hc:∀ (Q':List Value->Shared->Prop) (E:Value->Shared->Prop),(∀ vs s',G vs s'->Q' vs s')->wpAny (model prog w) A.in1 (collect v) Q' E s)
  (h:∀ vs s',G vs s'->∃ xs ys p,KAts s'.heap xs vs/\Srt xs ys p/\∀ h' c,(∀ b o,s'.heap.get? b=some o->h'.get? b=some o)->h'.get? s'.heap.objs.size=some (seqObj "list" (List.toArray (p.map λi=>vs.getD i .none)) c)->Q (.ref s'.heap.objs.size) { s' with heap:=h' }) :
  wpAny (model prog w) A (call (.builtin "sorted") [v]) Q E s:=by
 refine Calls.call_function_entry kind_sorted plain_sorted entry_sorted (args_sorted1 _) ?_
 unfold Builtin.«sorted»
 refine wpAny_bind (m:=checkCount "sorted" 1 1 _) (wpAny_pure ?_)
 refine wpAny_bind (hc _ _ λvs s' g=>?_)
 obtain ⟨xs,ys,p,hk,S,q⟩:=h vs s' g
 have hl:=hk.length
 have h4:=S.len
 refine wpAny_bind (wpAny_newList ?_ (by rw [sizeLine_eq];omega))
 have hoL:(s'.heap.push (seqObj "list" vs.toArray 0)).get? s'.heap.objs.size=some (seqObj "list" vs.toArray 0):=Heap.get?_push_size _ rfl
 show wpAny _ _ _ _ _ { s' with heap:=s'.heap.push (seqObj "list" vs.toArray 0) }
 refine wpAny_bind (wpAny_holding (wpAny_call_entry slot_list_sort ⟨_,hoL,rfl⟩ entry_list_sort ?_ (args_list_sort _)))
 refine zd4 (s:={ s' with heap:=s'.heap.push (seqObj "list" vs.toArray 0) }) (a:=s'.heap.objs.size) hoL (KAts.keep (λb its t=>let ⟨o,e,r⟩:=t;⟨o,Heap.get?_push_of_some _ e,r⟩) xs vs hk) S (by show A.units+1+1+8<cLine;omega) λh' c k g'=>?_
 exact ⟨_,rfl,wpAny_pure ⟨_,rfl,q h' c (λb o e=>k b o (Nat.ne_of_lt (Heap.lt_size e)) (Heap.get?_push_of_some _ e)) g'⟩⟩
theorem zeg.as {es:Array DictEntry} {h:Heap} {S it base:Addr} {acc:Array Value} {n:Nat} (P:zeg es h S it base acc n):∃ as:List Addr,acc.toList=as.map Value.ref/\as.length=n/\as.Nodup/\∀ (j:Nat) (a:Addr),as[j]?=some a->base<=a/\∃ e,es[j]?=some e/\h.get? a=some (tupO e.key e.val):=by
 have el:∀ j (hj:j<acc.toList.length),∃ a e,acc.toList[j]=Value.ref a/\es[j]?=some e/\h.get? a=some (tupO e.key e.val)/\base<=a:=by
  intro j hj
  obtain ⟨a,e,e1,e2,e3,_,_,e4⟩:=P.at' j (by rw [<-P.size];simpa using hj)
  refine ⟨a,e,?_,e2,e3,e4⟩
  rw [<-Array.getElem?_toList,List.getElem?_eq_getElem hj] at e1
  exact Option.some.inj e1
 let g:Value->Addr:=λv=>match v with
  | .ref a=>a
  | _=>0
 have hg:∀ (j:Nat) (a:Addr),(acc.toList.map g)[j]?=some a->acc.toList[j]?=some (Value.ref a):=by
  intro j a e
  rw [List.getElem?_map] at e
  cases hj:acc.toList[j]? with
  | none=>rw [hj] at e;cases e
  | some v=>
   rw [hj] at e
   obtain ⟨h1,h2⟩:=List.getElem?_eq_some_iff.mp hj
   obtain ⟨a',_,e1,_⟩:=el j h1
   rw [<-h2,e1] at e
   cases e
   rw [<-h2,e1]
 refine ⟨acc.toList.map g,?_,by rw [List.length_map,Array.length_toList,P.size],?_,λj a e=>?_⟩
 ·refine List.ext_getElem (by simp) λj h1 h2=>?_
  obtain ⟨a,_,e1,_⟩:=el j h1
  rw [List.getElem_map,List.getElem_map,e1]
 ·rw [List.nodup_iff_pairwise_ne,List.pairwise_iff_getElem]
  intro i j hi hj hij
  have e1:=hg i _ (List.getElem?_eq_getElem hi)
  have e2:=hg j _ (List.getElem?_eq_getElem hj)
  rw [Array.getElem?_toList] at e1 e2
  exact Nat.ne_of_lt (P.inc i j _ _ hij e1 e2)
 ·have e1:=hg j a e
  obtain ⟨h1,h2⟩:=List.getElem?_eq_some_iff.mp e1
  obtain ⟨a',t,e3,e4,e5,e6⟩:=el j h1
  rw [h2] at e3
  cases e3
  exact ⟨e6,t,e4,e5⟩
end
noncomputable def zfx (v a:Addr):HO:=.ext λh=>h.IsItemsView v a
section
variable {X:Cx}
theorem zcM (hu:X.A.units+64<cLine) (hc:X.calm=true):zb7 X (.builtin "sorted") (λvs H Q=>∃ (μ:List Addr) (h:Sto) (l:Nat) (kvs:List (D×D)) (v a:Addr) (zs:List D),vs=[.ref v]/\H v=some (zfx v a)/\Rep X.K μ h H/\μ[l]?=some a/\(h[l]?=some (.dic kvs)\/h[l]?=some (.dfr kvs))/\zch (kvs.map zct)=some zs ∧
  ∀ p H' ws,Stp μ h H μ h H'->Rep X.K μ h H'->RepDs X.K (Live μ h) H' zs ws->H' p=none->Q (.ref p) (upd H' p (.lst ws))):=by
 intro pins s σ H vs us Q I rs q
 obtain ⟨μ,h,l,kvs,v,a,zs,rfl,hv,R0,ea,ho,hz,k⟩:=q
 obtain ⟨u,rfl,ru⟩:=rs.one
 cases ru
 obtain ⟨xs,xv,_,_,z,r,DA⟩:=zc5 I R0 ea ho
 obtain ⟨od,es,ep,g1,g2,g3,g4,g5,g6⟩:=id DA.dic
 have hview:s.heap.IsItemsView v a:=(show zbh X.prog X.w H s.heap v (zfx v a) from I.hok v _ hv).1
 have lk:kvs.length=xs.length:=Paired.length z
 have lx:xs.length=xv.length:=Paired.length r
 have le:es.size=xv.length:=by rw [<-Array.length_toList,g4,List.length_map]
 have hsz:es.size<=sizeLine:=by have:=DA.len;omega
 obtain ⟨p,S⟩:=zeN hz
 have SA:=zay I
 have hh:X.A.in1.handled=none:=I.ok.hd hc
 refine zfV (G:=λvs s'=>∃ (h':Heap) (acc:Array Value),s'={ s with heap:=h' }/\vs=acc.toList/\(∀ b o,s.heap.get? b=some o->h'.get? b=some o)/\s.heap.objs.size<=h'.objs.size/\zeg es h' s.heap.objs.size (s.heap.objs.size+1) s.heap.objs.size acc es.size) (by omega) (λQ' E hQ=>zet (A:=X.A.in1) hh hsz hview g1 g3 λh' acc hk szL hp=>hQ _ _ ⟨h',acc,rfl,rfl,hk,szL,hp⟩) λvs s' ⟨h',acc,es',evs,hk,szL,hp⟩=>?_
 subst es'
 obtain ⟨as,eas,las,nd,hat⟩:=hp.as
 rw [eas] at evs
 have ent:∀ (j:Nat) (kv:D×D) (b:Addr),kvs[j]?=some kv->as[j]?=some b->s.heap.objs.size<=b/\∃ (q:D×Addr×V) (t:D×Addr×Value),xs[j]?=some q/\xv[j]?=some t/\q.2.1=t.2.1/\RelV q.2.2 t.2.2/\h'.get? b=some (tupO (.ref t.2.1) t.2.2)/\zai kv.1=true/\RepD X.K (Live μ h) H kv.1 (.ref q.2.1)/\RepD X.K (Live μ h) H kv.2 q.2.2:=by
  intro j kv b e1 e2
  obtain ⟨q,e3,c1,c2,c3⟩:=zbo z j kv e1
  obtain ⟨t,e4,d1,d2,d3⟩:=zbo r j q e3
  obtain ⟨e5,e,e6,e7⟩:=hat j b e2
  rw [<-Array.getElem?_toList,g4,List.getElem?_map,e4] at e6
  cases e6
  exact ⟨e5,q,t,e3,e4,d2,d3,e7,c2.1,c2.2,c3⟩
 have KA:KAts h' (kvs.map zct) vs:=by
  rw [evs]
  refine zge (by rw [List.length_map,List.length_map];omega) λj x u e1 e2=>?_
  rw [List.getElem?_map] at e1 e2
  cases e3:kvs[j]? with
  | none=>rw [e3] at e1;cases e1
  | some kv=>
   cases e4:as[j]? with
   | none=>rw [e4] at e2;cases e2
   | some b=>
    rw [e3] at e1;rw [e4] at e2
    simp only [Option.map_some,Option.some.injEq] at e1 e2
    subst e1 e2
    obtain ⟨_,q,t,_,_,d2,d3,d4,d5,d6,d7⟩:=ent j kv b e3 e4
    have hkey:=S.key (zct kv) (List.mem_map.mpr ⟨kv,List.mem_of_getElem? e3,rfl⟩)
    have hv2:D.hk kv.2=true:=by
     simp only [zct,zai,D.hks,Bool.and_eq_true] at hkey
     exact hkey.1.2.1
    have kt:∀ c its,s.heap.IsTuple c its->h'.IsTuple c its:=λc its ⟨o,e,y⟩=>⟨o,hk c o e,y⟩
    simp only [zct,KAt]
    refine ⟨b,#[.ref t.2.1,t.2.2],rfl,⟨_,d4,rfl,0,rfl⟩,?_⟩
    simp only [KAts]
    exact ⟨_,_,rfl,KAt.keep kt _ _ (zdO SA kv.1 (.ref q.2.1) (.ref t.2.1) (zb0 d5).1 d6 (by rw [d2];rfl)),_,_,rfl,KAt.keep kt _ _ (zdO SA kv.2 q.2.2 t.2.2 hv2 d7 d3),rfl⟩
 refine ⟨kvs.map zct,zs,p,KA,S,λh2 c hk2 hL=>?_⟩
 let ts:List (Addr×List V):=(as.zip xs).map λt=>(t.1,[.ref t.2.2.1,t.2.2.2])
 have hts:ts.map (·.1)=as:=by
  show ((as.zip xs).map λt=>(t.1,[V.ref t.2.2.1,t.2.2.2])).map (·.1)=as
  rw [List.map_map]
  show (as.zip xs).map Prod.fst=as
  rw [List.map_fst_zip]
  omega
 have hfr:∀ t∈ts,H t.1=none:=λt ht=>by
  have:t.1∈as:=by rw [<-hts];exact List.mem_map.mpr ⟨t,ht,rfl⟩
  obtain ⟨j,hj⟩:=List.getElem?_of_mem this
  exact I.hok.fresh (hat j _ hj).1
 obtain ⟨st,R1⟩:=zgK R0 (ts:=ts) (by rw [hts];exact nd) hfr
 have hn1:lays H ts h'.objs.size=none:=by
  rw [zdk,I.hok.fresh szL]
  rw [hts]
  intro hm
  obtain ⟨j,hj⟩:=List.getElem?_of_mem hm
  obtain ⟨_,e,_,e7⟩:=hat j _ hj
  exact absurd (Heap.lt_size e7) (Nat.lt_irrefl _)
 have tin:∀ (j:Nat) (b:Addr) (q:D×Addr×V),as[j]?=some b->xs[j]?=some q->(b,[V.ref q.2.1,q.2.2])∈ts:=λj b q e1 e2=>
  List.mem_map.mpr ⟨(b,q),List.mem_of_getElem? (i:=j) (by rw [List.getElem?_zip_eq_some];exact ⟨e1,e2⟩),rfl⟩
 have RD:RepDs X.K (Live μ h) (lays H ts) (kvs.map zct) (as.map V.ref):=by
  refine zcu (by rw [List.length_map,List.length_map];omega) λj x u e1 e2=>?_
  rw [List.getElem?_map] at e1 e2
  cases e3:kvs[j]? with
  | none=>rw [e3] at e1;cases e1
  | some kv=>
   cases e4:as[j]? with
   | none=>rw [e4] at e2;cases e2
   | some b=>
    rw [e3] at e1;rw [e4] at e2
    simp only [Option.map_some,Option.some.injEq] at e1 e2
    subst e1 e2
    obtain ⟨_,q,t,d0,_,d2,d3,d4,d5,d6,d7⟩:=ent j kv b e3 e4
    simp only [zct,RepD]
    exact ⟨b,_,rfl,.inl (.inl (zis (by rw [hts];exact nd) (tin j b q e4 d0))),.cons (RepD.stp st R0 d6) (.one (RepD.stp st R0 d7))⟩
 have key:=k h'.objs.size (lays H ts) (p.map λi=>(as.map V.ref).getD i .non) st R1 (by rw [S.out];exact zfo RD S.mem) hn1
 have hlen:(kvs.map zct).length=(as.map V.ref).length:=by rw [List.length_map,List.length_map];omega
 have V1:Vals (as.map V.ref) vs:=by
  rw [evs]
  refine zdJ (by simp) λj x u e1 e2=>?_
  rw [List.getElem?_map] at e1 e2
  cases e4:as[j]? with
  | none=>rw [e4] at e2;cases e2
  | some b=>
   rw [e4] at e1 e2
   simp only [Option.map_some,Option.some.injEq] at e1 e2
   subst e1 e2
   rfl
 refine ⟨.ref h'.objs.size,upd (lays H ts) h'.objs.size (.lst (p.map λi=>(as.map V.ref).getD i .non)),zkN (s:=s) (h':=h2) (t':=s.toks) I (λb o e=>hk2 b o (hk b o e)) (λb hb=>?_) (λb o hb e=>?_),rfl,key⟩
 ·rw [zak (Nat.ne_of_lt (Nat.lt_of_lt_of_le hb szL)),zdk]
  rw [hts]
  intro hm
  obtain ⟨j,hj⟩:=List.getElem?_of_mem hm
  exact absurd (hat j _ hj).1 (Nat.not_le_of_lt hb)
 ·by_cases eb:b=h'.objs.size
  ·subst eb
   rw [zaj] at e
   cases e
   refine ⟨?_,_,c,zg4 V1 (λi hi=>by have:=S.mem i hi;omega),hL⟩
   rw [List.length_map,S.plen,sizeLine_eq]
   have:=S.len
   omega
  ·rw [zak eb] at e
   rcases ziF e with e | ⟨ws,hm,rfl⟩
   ·rw [I.hok.fresh hb] at e;cases e
   ·obtain ⟨⟨b',q⟩,hm2,ez⟩:=List.mem_map.mp hm
    obtain ⟨j,hj⟩:=List.getElem?_of_mem hm2
    rw [List.getElem?_zip_eq_some] at hj
    simp only [Prod.mk.injEq] at ez hj
    obtain ⟨rfl,rfl⟩:=ez
    have hjl:j<kvs.length:=by
     have:=(List.getElem?_eq_some_iff.mp hj.1).1
     omega
    obtain ⟨_,q',t,d0,_,d2,d3,d4,_⟩:=ent j _ b' (List.getElem?_eq_getElem hjl) hj.1
    rw [hj.2] at d0
    cases d0
    have e9:=hk2 b' _ d4
    refine ⟨by show (2:Nat)<=sizeLine;rw [sizeLine_eq];omega,[.ref t.2.1,t.2.2],.cons (by rw [d2];rfl) (.cons d3 .nil),⟨_,e9,rfl,0,rfl⟩,λo e=>by rw [e9] at e;cases e;rfl⟩
end
end IT
set_option linter.all false
set_option maxHeartbeats 4000000
set_option maxRecDepth 100000
namespace IT
open PySem PySem.Spec L2
section
variable {X:Cx}
theorem ziU:MtR X "dict.items" (λx vs H Q=>∃ (μ:List Addr) (h:Sto) (l:Nat) (kvs:List (D×D)) (a:Addr),x=.ref a/\μ[l]?=some a/\Rep X.K μ h H/\(h[l]?=some (.dic kvs)\/h[l]?=some (.dfr kvs))/\vs=[]/\∀ v,H v=none->Q (.ref v) (upd H v (zfx v a))):=by
 intro pins s σ H x vs v us Q I rx rs q
 obtain ⟨μ,h,l,kvs,a,rfl,ea,R0,ho,rfl,k⟩:=q
 cases rx
 cases rs
 obtain ⟨xs,xv,_,_,_,_,DA⟩:=zc5 I R0 ea ho
 refine wpAny_call_entry F.slot_dict_items DA.dic.typeIs F.entry_dict_items ?_ (F.args_dict_items_1 _)
 unfold Builtin.«dict.items»
 refine wpAny_bind ?_
 unfold Builtin.Dict.noArgs
 refine wpAny_bind (wpAny_notOrdered_dict DA.dic.typeIs ?_)
 show wpAny _ _ (pure a) _ _ s
 refine wpAny_pure ?_
 show wpAny _ _ (Builtin.Dict.showsAll a >>= _) _ _ s
 unfold Builtin.Dict.showsAll
 rw [if_neg (by rw [DA.sys];exact Bool.false_ne_true)]
 refine wpAny_bind (wpAny_pure ?_)
 refine wpAny_bind (wpAny_newObj_type (wpAny_pure ⟨_,rfl,?_⟩))
 refine ⟨.ref s.heap.objs.size,upd H s.heap.objs.size (zfx s.heap.objs.size a),I.laid (t':=s.toks) (λ_ _ q=>Heap.get?_push_of_some _ q) (Nat.le_refl _) ⟨⟨_,Heap.get?_push_size _ rfl,rfl,rfl⟩,⟨_,Heap.get?_push_size _ rfl⟩,λh1 h2 ⟨o,e,c⟩ kp=>⟨o,kp o e,c⟩⟩,rfl,k _ I.fresh⟩
theorem znF {o:Expr} {name:Str} {p pos apos cpos:Pos} {f:IT.Env->M R} (hu:X.A.units+64<cLine) (hc:X.calm=true) (hg:Gl X "sorted") (hm:X.mg "sorted"=none) (ho:IE X o f) (hname:name=("items":Str))
  (hbase:attributeBase o name X.env (eval o X.env)=eval o X.env) (hline:(apos.endLine==cpos.line)=true) (hs:starEach [.Call (.Attribute o name apos) [] [] cpos] X.env=[(false,eval (.Call (.Attribute o name apos) [] [] cpos) X.env)]) :
  IL X (.Call (.Name "sorted" p) [.Call (.Attribute o name apos) [] [] cpos] [] pos) (λσ=>bnd (f σ) λr=>bnd (dRd r) λkvs=>opt (zch (kvs.map zct))):=by
 subst hname
 refine PE.imp (zcj (zcM hu hc) hg hm PyProof.Rows.boot_sorted (zaY (zlv PySem.F.plainAttrs_dict PySem.F.slot_dict_items PySem.F.type_dict_items ziU ho hbase hline) zbI hs) (by decide) (by decide) hs rfl) λσ H Q q0=>?_
 obtain ⟨μ,h,env,R0,re,zs,h',e,k⟩:=q0
 simp only [zaa,zaq] at e
 obtain ⟨r,h1,e1,kvs,h2,e2,e3,rfl⟩:=e
 obtain ⟨l,rfl,ho1,rfl⟩:=zbs e2
 refine ⟨μ,h,env,R0,re,.loc l,_,e1,λμ1 H1 v s1 R1 q1=>?_⟩
 obtain ⟨a,ea,rfl⟩:=q1
 have ex:∃ xs,Rd H1 a (.dT xs):=by
  rcases ho1 with ho1 | ho1
  ·obtain ⟨xs,ex,_⟩:=R1.obj l a _ ea ho1;exact ⟨xs,.inl ex⟩
  ·obtain ⟨ob,xs,ex,_⟩:=R1.obj l a _ ea ho1;exact ⟨xs,.inr ⟨ob,ex⟩⟩
 refine ⟨.inr (.inr (.inl ⟨rfl,.inr ex⟩)),μ1,_,l,kvs,a,rfl,ea,R1,ho1,rfl,λv hv=>?_⟩
 have sF:=Stp.fresh (μ:=μ1) (h:=h2) (o:=zfx v a) hv
 refine ⟨μ1,h2,l,kvs,v,a,zs,rfl,zaj,R1.fresh hv,ea,ho1,e3,λp H' ws st R2 q2 hp=>?_⟩
 exact k μ1 H' p ws ((s1.trans sF).trans st) R2 q2 hp
theorem zfk (hc:X.calm=true):zb7 X (.type "list") (λvs H Q=>∃ (μ:List Addr) (h:Sto) (l:Nat) (kvs:List (D×D)) (a:Addr),vs=[.ref a]/\μ[l]?=some a/\Rep X.K μ h H/\(h[l]?=some (.dic kvs)\/h[l]?=some (.dfr kvs))/\∀ p ws,RepDs X.K (Live μ h) H (kvs.map Prod.fst) ws->H p=none->Q (.ref p) (upd H p (.lst ws))):=by
 intro pins s σ H vs us Q I rs q
 obtain ⟨μ,h,l,kvs,a,rfl,ea,R0,ho,k⟩:=q
 obtain ⟨u,rfl,ru⟩:=rs.one
 cases ru
 obtain ⟨xs,xv,_,_,z,r,DA⟩:=zc5 I R0 ea ho
 obtain ⟨od,es,ep,g1,g2,g3,g4,g5,g6⟩:=id DA.dic
 have lk:kvs.length=xs.length:=Paired.length z
 have lx:xs.length=xv.length:=Paired.length r
 have le:es.size=xv.length:=by rw [<-Array.length_toList,g4,List.length_map]
 have hsz:es.size<=sizeLine:=by have:=DA.len;omega
 refine zd5 (I.ok.hd hc) DA.sys g1 g2 g3 hsz λh' tk acc c' hk hL hacc=>?_
 have V1:Vals (xs.map λq=>V.ref q.2.1) acc.toList:=by
  refine zdJ (by have:=hacc.1;rw [List.length_map];show xs.length=acc.size;omega) λj x v e1 e2=>?_
  rw [List.getElem?_map,Option.map_eq_some_iff] at e1
  obtain ⟨q,e3,rfl⟩:=e1
  obtain ⟨t,e4,d1,d2,d3⟩:=zbo r j q e3
  obtain ⟨e,e5,rfl⟩:=hacc.2 j v (by simpa using e2)
  rw [<-Array.getElem?_toList,g4,List.getElem?_map,e4] at e5
  cases e5
  show RelV (.ref q.2.1) (.ref t.2.1)
  rw [d2];rfl
 have RD:RepDs X.K (Live μ h) H (kvs.map Prod.fst) (xs.map λq=>V.ref q.2.1):=by
  refine zcu (by rw [List.length_map,List.length_map];exact lk) λj x v e1 e2=>?_
  rw [List.getElem?_map,Option.map_eq_some_iff] at e1 e2
  obtain ⟨kv,e3,rfl⟩:=e1
  obtain ⟨q,e4,rfl⟩:=e2
  obtain ⟨q',e5,c1,c2,c3⟩:=zbo z j kv e3
  rw [e4] at e5
  cases e5
  exact c2.2
 exact ⟨.ref s.heap.objs.size,_,I.laid (t':=tk) (o:=.lst (xs.map λq=>V.ref q.2.1)) hk (Nat.le_refl _) ⟨by rw [List.length_map];omega,acc.toList,c',V1,by simpa using hL⟩,rfl,k _ _ RD I.fresh⟩
theorem znN {e:Expr} {p pos:Pos} {f:IT.Env->M R} (hc:X.calm=true) (hg:Gl X "list") (hm:X.mg "list"=none) (he:IE X e f) (hs:starEach [e] X.env=[(false,eval e X.env)]) :
  IL X (.Call (.Name "list" p) [e] [] pos) (λσ=>bnd (f σ) λr=>bnd (dRd r) λkvs=>ok (kvs.map Prod.fst)):=by
 refine PE.imp (zbR (zfk hc) hg hm PyProof.Rows.boot_list (zaY he zbI hs) (by decide) (by decide) hs rfl) λσ H Q q0=>?_
 obtain ⟨μ,h,env,R0,re,zs,h',e,k⟩:=q0
 simp only [zaa,zab] at e
 obtain ⟨r,h1,e1,kvs,h2,e2,rfl,rfl⟩:=e
 obtain ⟨l,rfl,ho1,rfl⟩:=zbs e2
 refine ⟨μ,h,env,R0,re,.loc l,_,e1,λμ1 H1 v s1 R1 q1=>?_⟩
 obtain ⟨a,ea,rfl⟩:=q1
 exact ⟨μ1,_,l,kvs,a,rfl,ea,R1,ho1,λp ws q2 hp=>k μ1 H1 p ws s1 R1 q2 hp⟩
end
end IT
set_option linter.all false
set_option maxHeartbeats 4000000
set_option maxRecDepth 100000
namespace IT
open PySem
noncomputable def rise:List Nat->Bool
 | []=>true
 | a::r=>(match r with
  | []=>true
  | b::_=>decide (a<b))&&rise r
noncomputable def okP (P:List Nat):Bool:=decide (P.length<=4)&&(P.all λj=>decide (j<8))&&rise P
noncomputable def forP (f:List Nat->Bool):Bool:=f []&&((List.range 8).all λa=>f [a]&&((List.range 8).all λb=>f [a,b]&&((List.range 8).all λc=>f [a,b,c]&&(List.range 8).all λd=>f [a,b,c,d])))
theorem zdS {f:List Nat->Bool} (h:forP f=true) {P:List Nat} (o:okP P=true):f P=true:=by
 simp only [okP,Bool.and_eq_true,List.all_eq_true,decide_eq_true_eq] at o
 obtain ⟨⟨h4,h8⟩,_⟩:=o
 simp only [forP,Bool.and_eq_true,List.all_eq_true,List.mem_range] at h
 obtain ⟨h0,h1⟩:=h
 match P,h4,h8 with
 | [],_,_=>exact h0
 | [a],_,h8=>exact (h1 a (h8 a (by simp))).1
 | [a,b],_,h8=>exact ((h1 a (h8 a (by simp))).2 b (h8 b (by simp))).1
 | [a,b,c],_,h8=>exact (((h1 a (h8 a (by simp))).2 b (h8 b (by simp))).2 c (h8 c (by simp))).1
 | [a,b,c,d],_,h8=>exact (((h1 a (h8 a (by simp))).2 b (h8 b (by simp))).2 c (h8 c (by simp))).2 d (h8 d (by simp))
 | _::_::_::_::_::_,h4,_=>simp at h4
noncomputable def znh (P:List Nat) (j:Nat):SetTable.Slot:=if P.toArray[SetTable.below P.toArray j]?==some j then .live (SetTable.below P.toArray j) else .empty
noncomputable def zgy (P:List Nat) (j:Nat):SetTable.Slot:=match P.findIdx? (·==j) with
 | some i=>.live i
 | none=>.empty
theorem zp9:forP (λP=>!okP P||(List.range 8).all λj=>decide (znh P j=zgy P j))=true:=by decide +kernel
theorem zqj:forP (λP=>!okP P||(List.range 8).all λj=>P.length==4||P.contains j||(okP (P.take (SetTable.below P.toArray j)++j::P.drop (SetTable.below P.toArray j))&&decide (SetTable.below P.toArray j<=P.length)))=true:=by decide +kernel
theorem zp1:forP (λP=>!okP P||(List.range (P.length+1)).all λi=>SetTable.below P.toArray (if i=0 then 0 else P.getD (i-1) 0+1)==i)=true:=by decide +kernel
noncomputable def itr:Nat->Nat->Nat
 | 0,j=>j
 | m+1,j=>(itr m j*5+1) % 8
theorem zpJ:forP (λP=>!okP P||(List.range 8).all λj=>(List.range 8).any λm=>!P.contains (itr m j))=true:=by decide +kernel
theorem zpG:forP (λP=>!okP P||(List.range P.length).all λi=>P.findIdx? (·==P.getD i 0)==some i)=true:=by decide +kernel
section
variable {P:List Nat} (o:okP P=true)
include o
theorem znj {j:Nat} (hj:j<8):znh P j=zgy P j:=by
 have h:=zdS zp9 o
 simp only [o,Bool.not_true,Bool.false_or,List.all_eq_true,List.mem_range,decide_eq_true_eq] at h
 exact h j hj
theorem zoM {j:Nat} (hj:j<8) (h4:P.length<4) (hn:j ∉ P):okP (P.take (SetTable.below P.toArray j)++j::P.drop (SetTable.below P.toArray j))=true/\SetTable.below P.toArray j<=P.length:=by
 have h:=zdS zqj o
 simp only [o,Bool.not_true,Bool.false_or,List.all_eq_true,List.mem_range] at h
 have h:=h j hj
 have e1:(P.length==4)=false:=by simp;omega
 have e2:P.contains j=false:=by simp [hn]
 rw [e1,e2,Bool.false_or,Bool.false_or,Bool.and_eq_true,decide_eq_true_eq] at h
 exact h
theorem zjb {i:Nat} (hi:i<=P.length):SetTable.below P.toArray (if i=0 then 0 else P.getD (i-1) 0+1)=i:=by
 have h:=zdS zp1 o
 simp only [o,Bool.not_true,Bool.false_or,List.all_eq_true,List.mem_range,beq_iff_eq] at h
 exact h i (by omega)
theorem znt {j:Nat} (hj:j<8):∃ m,m<8/\itr m j ∉ P:=by
 have h:=zdS zpJ o
 simp only [o,Bool.not_true,Bool.false_or,List.all_eq_true,List.mem_range,List.any_eq_true] at h
 obtain ⟨m,hm,h⟩:=h j hj
 exact ⟨m,hm,by simpa using h⟩
theorem zoA {i j:Nat} (hi:P[i]?=some j):P.findIdx? (·==j)=some i:=by
 have h:=zdS zpG o
 simp only [o,Bool.not_true,Bool.false_or,List.all_eq_true,List.mem_range,beq_iff_eq] at h
 obtain ⟨h1,h2⟩:=List.getElem?_eq_some_iff.mp hi
 have:=h i h1
 rw [List.getD_eq_getElem?_getD,hi] at this
 exact this
theorem znc:P.length<=4:=by
 simp only [okP,Bool.and_eq_true,decide_eq_true_eq] at o
 exact o.1.1
end
noncomputable def pth (h:Int):Nat->Nat×Nat
 | 0=>(SetTable.bits h % 8,SetTable.bits h)
 | k+1=>SetTable.leap 7 (pth h k).1 (pth h k).2
theorem zhf (h:Int):∀ k,(pth h k).1<8
 | 0=>Nat.mod_lt _ (by omega)
 | k+1=>Nat.mod_lt _ (by omega)
theorem zm8 (h:Int):SetTable.bits h<2 ^ 64:=by
 unfold SetTable.bits
 have h1:=Int.emod_lt_of_pos h (b:=2 ^ 64) (by omega)
 have h2:=Int.emod_nonneg h (b:=2 ^ 64) (by omega)
 omega
theorem zht (h:Int):∀ k,(pth h k).2=SetTable.bits h / 32 ^ k
 | 0=>by simp [pth]
 | k+1=>by
  show (pth h k).2 / 32=_
  rw [zht h k,Nat.div_div_eq_div_mul,Nat.pow_succ]
theorem zmg (h:Int):(pth h 13).2=0:=by
 rw [zht]
 have:=zm8 h
 exact Nat.div_eq_of_lt (by omega)
theorem zi9 (h:Int):∀ m,pth h (13+m)=(itr m (pth h 13).1,0)
 | 0=>by
  show pth h 13=((pth h 13).1,0)
  rw [<-zmg h]
 | m+1=>by
  show SetTable.leap 7 (pth h (13+m)).1 (pth h (13+m)).2=_
  rw [zi9 h m]
  simp [SetTable.leap,itr]
theorem zqa {p:Nat->Prop} [DecidablePred p]:∀ n,p n->∃ m,m<=n/\p m/\∀ k,k<m->¬ p k
 | 0,h=>⟨0,Nat.le_refl _,h,λk hk=>absurd hk (Nat.not_lt_zero _)⟩
 | n + 1,h=>by
  by_cases e:∃ k,k<=n/\p k
  ·obtain ⟨k,hk,hp⟩:=e
   have:∀ j,j<=n->p j->∃ m,m<=j/\p m/\∀ k,k<m->¬ p k:=by
    intro j
    induction j using Nat.strongRecOn with
    | ind j ih=>
     intro hj hp
     by_cases e2:∃ i,i<j/\p i
     ·obtain ⟨i,hi,hpi⟩:=e2
      obtain ⟨m,h1,h2⟩:=ih i hi (by omega) hpi
      exact ⟨m,by omega,h2⟩
     ·exact ⟨j,Nat.le_refl _,hp,λk hk hpk=>e2 ⟨k,hk,hpk⟩⟩
   obtain ⟨m,h1,h2⟩:=this k hk hp
   exact ⟨m,by omega,h2⟩
  ·exact ⟨n+1,Nat.le_refl _,h,λk hk hpk=>e ⟨k,by omega,hpk⟩⟩
theorem gap {P:List Nat} (o:okP P=true) (h:Int):∃ N,N<=20/\(pth h N).1 ∉ P/\∀ k,k<N->(pth h k).1∈P:=by
 obtain ⟨m,hm,hn⟩:=znt o (zhf h 13)
 obtain ⟨N,h1,h2,h3⟩:=zqa (p:=λk=>(pth h k).1 ∉ P) (13+m) (by rw [zi9];exact hn)
 exact ⟨N,by omega,h2,λk hk=>Decidable.not_not.mp (h3 k hk)⟩
structure zd3 (t:SetTable) (P:List Nat):Prop where
 mask:t.mask=7
 dum:t.dummies=#[]
 pl:t.place.toList=P
 ok:okP P=true
noncomputable def stp (h:Int) (k:Nat):SetTable.Probe:={ j:=(pth h k).1,more:=0,i:=(pth h k).1,perturb:=(pth h k).2,dummy:=none }
section
variable {t:SetTable} {P:List Nat} (T:zd3 t P)
include T
theorem zd3.arr:t.place=P.toArray:=by rw [<-T.pl]
theorem zd3.slot {j:Nat} (hj:j<8):t.slot j=zgy P j:=by
 rw [<-znj T.ok hj]
 unfold SetTable.slot znh
 rw [T.dum,T.arr]
 rfl
theorem zd3.start (h:Int):t.probeStart h=stp h 0:=by
 unfold SetTable.probeStart stp
 rw [T.mask]
 have e:SetTable.runEnd 7 (SetTable.bits h % (7+1))=SetTable.bits h % (7+1):=by
  unfold SetTable.runEnd
  rw [if_neg (by omega)]
 dsimp only
 rw [e,Nat.sub_self]
 rfl
theorem zd3.adv (h:Int) (k:Nat):t.advance (stp h k)=stp h (k+1):=by
 unfold SetTable.advance
 rw [if_neg (by show ¬ (0>0);omega),T.mask]
 show ({ j:=(pth h (k+1)).1,more:=SetTable.runEnd 7 (pth h (k+1)).1-(pth h (k+1)).1,i:=(pth h (k+1)).1,perturb:=(pth h (k+1)).2,dummy:=none }:SetTable.Probe)=_
 have e:SetTable.runEnd 7 (pth h (k+1)).1=(pth h (k+1)).1:=by
  unfold SetTable.runEnd
  rw [if_neg (by omega)]
 rw [e,Nat.sub_self]
 rfl
theorem zd3.go {hashAt:Nat->Int} {h:Int} {N:Nat} (hN:(pth h N).1 ∉ P) (hb:∀ k,k<N->(pth h k).1∈P):∀ (m k fuel:Nat),N-k=m->k<=N->m<fuel →
  ∃ k1,k<=k1/\k1<=N/\(∀ k',k<=k'->k'<k1->∀ i,P.findIdx? (·==(pth h k').1)=some i->hashAt i≠h) ∧
   ((k1=N/\SetTable.probe.go t hashAt h fuel (stp h k)=some (.empty (pth h N).1 none)) ∨
    (k1<N/\∃ i,P.findIdx? (·==(pth h k1).1)=some i/\hashAt i=h/\SetTable.probe.go t hashAt h fuel (stp h k)=some (.candidate (pth h k1).1 i (stp h (k1+1)))))
 | m,k,0,hm,hk,hf=>by omega
 | m, k,fuel+1,hm,hk,hf=>by
  unfold SetTable.probe.go
  have es:t.slot (stp h k).j=zgy P (pth h k).1:=T.slot (zhf h k)
  rw [es]
  by_cases e:k=N
  ·subst e
   have:P.findIdx? (·==(pth h k).1)=none:=by
    rw [List.findIdx?_eq_none_iff]
    intro x hx
    simp only [beq_eq_false_iff_ne]
    exact λz=>hN (z▸hx)
   refine ⟨k,Nat.le_refl _,Nat.le_refl _,λk' h1 h2=>by omega,.inl ⟨rfl,?_⟩⟩
   simp only [zgy,this]
   rfl
  ·have hlt:k<N:=by omega
   obtain ⟨j,hj⟩:=List.getElem?_of_mem (hb k hlt)
   have hi:=zoA T.ok hj
   simp only [zgy,hi]
   by_cases eh:hashAt j=h
   ·refine ⟨k,Nat.le_refl _,hk,λk' h1 h2=>by omega,.inr ⟨hlt,j,hi,eh,?_⟩⟩
    rw [if_pos (by rw [eh];exact beq_self_eq_true h),T.adv]
    rfl
   ·obtain ⟨k1,g1,g2,g3,g4⟩:=zd3.go hN hb (N-(k+1)) (k+1) fuel rfl (by omega) (by omega)
    refine ⟨k1,by omega,g2,λk' h1 h2 i hi'=>?_,?_⟩
    ·by_cases ek:k'=k
     ·subst ek
      rw [hi] at hi'
      cases hi'
      exact eh
     ·exact g3 k' (by omega) h2 i hi'
    ·rw [if_neg (by simp [eh]),T.adv]
     exact g4
theorem zd3.probe {hashAt:Nat->Int} {h:Int} {N:Nat} (hN:(pth h N).1 ∉ P) (hb:∀ k,k<N->(pth h k).1∈P) (h20:N<=20) (k:Nat) (hk:k<=N) :
  ∃ k1,k<=k1/\k1<=N/\(∀ k',k<=k'->k'<k1->∀ i,P.findIdx? (·==(pth h k').1)=some i->hashAt i≠h) ∧
   ((k1=N/\t.probe hashAt h (stp h k)=some (.empty (pth h N).1 none)) ∨
    (k1<N/\∃ i,P.findIdx? (·==(pth h k1).1)=some i/\hashAt i=h/\t.probe hashAt h (stp h k)=some (.candidate (pth h k1).1 i (stp h (k1+1))))):=by
 unfold SetTable.probe
 rw [T.mask]
 exact T.go hN hb (N-k) k _ rfl hk (by show N-k<10*(7+15);omega)
end
end IT
set_option linter.all false
set_option maxHeartbeats 4000000
set_option maxRecDepth 100000
namespace IT
open PySem
noncomputable def byTx (w:World):Bool:=w.params.followText "set-order"
theorem zbl {k:D} (h:zai k=true):k.dep<=8:=by
 cases k with
 | tup xs=>
  rw [zai,Bool.and_eq_true] at h
  have:=of_decide_eq_true h.2
  simp only [D.dep];omega
 | _=>cases h
structure zaI (w:World) (h:Heap) (a:Addr) (rs:List (D×Addr)) (es:Array (Int×Value)) (ep:Nat) (t:SetTable) (P:List Nat):Prop where
 get:h.get? a=some { cls:=.type "set",dict:=none,data:=.set es ep t,slots:=#[] }
 tab:zd3 t P
 len:P.length=rs.length
 led:t.led=!byTx w
 ents:es.toList=rs.map λr=>(zah w r.1,Value.ref r.2)
 key:∀ r∈rs,zai r.1=true/\KAt h r.1 (.ref r.2)
 nd:(rs.map (·.1)).Nodup
 way:∀ z∈P.zip rs,∃ k,(pth (zah w z.2.1) k).1=z.1/\∀ k',k'<k->(pth (zah w z.2.1) k').1∈P
section
variable {w:World} {h:Heap} {a:Addr} {rs:List (D×Addr)} {es:Array (Int×Value)} {ep:Nat} {t:SetTable} {P:List Nat}
theorem zaI.size (S:zaI w h a rs es ep t P):es.size=rs.length:=by rw [<-Array.length_toList,S.ents,List.length_map]
theorem zaI.psize (S:zaI w h a rs es ep t P):t.place.size=rs.length:=by rw [<-Array.length_toList,S.tab.pl,S.len]
theorem zaI.le4 (S:zaI w h a rs es ep t P):rs.length<=4:=by rw [<-S.len];exact znc S.tab.ok
theorem zaI.fits (S:zaI w h a rs es ep t P):t.fits es.size=true:=by
 have:=S.le4
 simp only [SetTable.fits,SetTable.fill,S.psize,S.size,S.tab.dum,S.tab.mask,beq_self_eq_true,Bool.true_and,decide_eq_true_eq]
 show rs.length+0<=7
 omega
theorem zaI.at (S:zaI w h a rs es ep t P) {i:Nat} {r:D×Addr} (e:rs[i]?=some r):es[i]?=some (zah w r.1,Value.ref r.2):=by
 rw [<-Array.getElem?_toList,S.ents,List.getElem?_map,e];rfl
theorem zaI.mono {h':Heap} (S:zaI w h a rs es ep t P) (k:∀ o,h.get? a=some o->h'.get? a=some o) (kt:∀ b its,h.IsTuple b its->h'.IsTuple b its):zaI w h' a rs es ep t P:=
 ⟨k _ S.get,S.tab,S.len,S.led,S.ents,λr hr=>⟨(S.key r hr).1,KAt.keep kt _ _ (S.key r hr).2⟩,S.nd,S.way⟩
end
section
variable {prog:Program} {w:World} {A:Around} {E:Value->Shared->Prop} {s:Shared}
theorem zig:∀ (n:Nat) (x:D) (A:Around) (s:Shared) (u:Value) (Q:Bool->Shared->Prop),x.dep<=n->KAt s.heap x u->Q false s->wpAny (model prog w) A (ofAClassStatement n u) Q E s
 | n,.int a,A,s,u,Q,hn,p,q=>by
  simp only [KAt] at p
  obtain ⟨t,rfl⟩:=p
  cases n<;>exact wpAny_pure q
 | n,.str a,A,s,u,Q,hn,p,q=>by
  simp only [KAt] at p
  obtain ⟨t,rfl⟩:=p
  cases n<;>exact wpAny_pure q
 | 0,.tup a,A,s,u,Q,hn,p,q=>by simp only [D.dep] at hn;omega
 | n + 1,.tup a,A,s,u,Q,hn,p,q=>by
  simp only [KAt] at p
  obtain ⟨c,its,rfl,t,r⟩:=p
  have T:=za3 t
  obtain ⟨o,ho,_,m,hd⟩:=t
  have hdep:D.deps a<=n:=by simp only [D.dep] at hn;omega
  unfold ofAClassStatement
  refine wpAny_bind (wpAny_typeOf T ?_)
  show wpAny _ _ (if ("tuple"=="tuple")=true then _ else _) _ _ _
  rw [if_pos (by decide)]
  refine wpAny_bind (wpAny_pure ?_)
  show wpAny _ _ (seqItems? (.ref c) >>= _) _ _ _
  unfold seqItems?
  refine wpAny_bind (wpAny_bind (wpAny_load ho ?_))
  rw [hd]
  refine wpAny_pure (wpAny_bind ?_)
  rw [<-Array.forIn_toList]
  refine wpAny_forIn_list _ (λrest r s1=>r.1=none/\s1=s/\∃ left,D.deps left<=n/\KAts s.heap left rest) _ ?_ ?_ _ _ ⟨rfl,rfl,a,hdep,r⟩
  ·rintro v rest r s1 ⟨hr,rfl,left,hl,hk⟩
   cases left with
   | nil=>simp only [KAts] at hk;cases hk
   | cons k ks=>
    simp only [KAts] at hk
    obtain ⟨v',rest',ez,k1,k2⟩:=hk
    cases ez
    simp only [D.deps] at hl
    refine wpAny_bind (zig n k A _ v _ (by omega) k1 ?_)
    simp only [Bool.false_eq_true,if_false]
    exact wpAny_pure ⟨rfl,rfl,ks,by omega,k2⟩
  ·rintro ⟨r1,r2⟩ s1 ⟨hr,rfl,_⟩
   simp only at hr
   subst hr
   exact wpAny_pure q
 | _,.non,_,_,_,_,_,p,_=>by simp only [KAt] at p
 | _,.bl _,_,_,_,_,_,p,_=>by simp only [KAt] at p
 | _,.lst _,_,_,_,_,_,p,_=>by simp only [KAt] at p
theorem zlP:∀ (n:Nat) (x:D) (s:Shared) (u:Value) (Q:Bool->Shared->Prop),KAt s.heap x u->(∀ b,Q b s)->wpAny (model prog w) A (hashByValue n u) Q E s
 | n,.int a,s,u,Q,p,q=>by
  simp only [KAt] at p
  obtain ⟨t,rfl⟩:=p
  cases n<;>exact wpAny_pure (q _)
 | n,.str a,s,u,Q,p,q=>by
  simp only [KAt] at p
  obtain ⟨t,rfl⟩:=p
  cases n<;>exact wpAny_pure (q _)
 | 0,.tup a,s,u,Q,p,q=>by
  simp only [KAt] at p
  obtain ⟨c,its,rfl,t,r⟩:=p
  exact wpAny_pure (q _)
 | n + 1,.tup a,s,u,Q,p,q=>by
  simp only [KAt] at p
  obtain ⟨c,its,rfl,t,r⟩:=p
  have T:=za3 t
  obtain ⟨o,ho,_,m,hd⟩:=t
  unfold hashByValue
  refine wpAny_bind (wpAny_specialOf T F.slot_tuple_hash.lookup ?_)
  show wpAny _ _ (seqItems? (.ref c) >>= _) _ _ _
  unfold seqItems?
  refine wpAny_bind (wpAny_bind (wpAny_load ho ?_))
  rw [hd]
  refine wpAny_pure (wpAny_bind ?_)
  show wpAny _ _ (forIn its _ _) _ _ _
  rw [<-Array.forIn_toList]
  refine wpAny_forIn_list _ (λrest r s1=>r.1=none/\s1=s/\∃ left,KAts s.heap left rest) _ ?_ ?_ _ _ ⟨rfl,rfl,a,r⟩
  ·rintro v rest r s1 ⟨hr,rfl,left,hk⟩
   cases left with
   | nil=>simp only [KAts] at hk;cases hk
   | cons k ks=>
    simp only [KAts] at hk
    obtain ⟨v',rest',ez,k1,k2⟩:=hk
    cases ez
    refine wpAny_bind (zlP n k _ v _ k1 λb=>?_)
    cases b with
    | false=>
     simp only [Bool.not_false,if_true]
     exact wpAny_pure (wpAny_pure (q _))
    | true=>
     simp only [Bool.not_true,Bool.false_eq_true,if_false]
     exact wpAny_pure ⟨rfl,rfl,ks,k2⟩
  ·rintro ⟨r1,r2⟩ s1 ⟨hr,rfl,_⟩
   simp only at hr
   subst hr
   exact wpAny_pure (q _)
 | _,.non,_,_,_,p,_=>by simp only [KAt] at p
 | _,.bl _,_,_,_,p,_=>by simp only [KAt] at p
 | _,.lst _,_,_,_,p,_=>by simp only [KAt] at p
theorem zlU {d:D} {b:Addr} {st:List Value} {Q:Bool->Shared->Prop} (hd:zai d=true) (hk:KAt s.heap d (.ref b)) (hst:∀ v∈st,∃ d' b',v=.ref b'/\zai d'=true/\KAt s.heap d' (.ref b')) (q:Q false s):wpAny (model prog w) A (searchCouldBeSeen (.ref b) st) Q E s:=by
 unfold searchCouldBeSeen
 refine wpAny_bind ?_
 refine wpAny_forIn_list _ (λrest r s1=>r.1=none/\s1=s/\∀ v∈rest,v∈st) _ ?_ ?_ _ _ ⟨rfl,rfl,λv hv=>hv⟩
 ·rintro v rest r s1 ⟨hr,rfl,hm⟩
  obtain ⟨d',b',rfl,h1,h2⟩:=hst v (hm v List.mem_cons_self)
  refine wpAny_ite_split (λ_=>wpAny_pure ⟨rfl,rfl,λv hv=>hm v (List.mem_cons_of_mem _ hv)⟩) (λ_=>?_)
  refine wpAny_bind (zhj 8 d A _ _ _ (zbl hd) hk ?_)
  simp only [Bool.not_true,Bool.false_eq_true,if_false]
  refine wpAny_bind (zhj 8 d' A _ _ _ (zbl h1) h2 ?_)
  simp only [Bool.not_true,Bool.false_eq_true,if_false]
  refine wpAny_bind (zig 8 d A _ _ _ (zbl hd) hk ?_)
  simp only [Bool.false_eq_true,if_false]
  refine wpAny_bind (zig 8 d' A _ _ _ (zbl h1) h2 ?_)
  simp only [Bool.false_eq_true,if_false]
  exact wpAny_pure ⟨rfl,rfl,λv hv=>hm v (List.mem_cons_of_mem _ hv)⟩
 ·rintro ⟨r1,r2⟩ s1 ⟨hr,rfl,_⟩
  simp only at hr
  subst hr
  exact wpAny_pure q
variable {a:Addr} {rs:List (D×Addr)} {es:Array (Int×Value)} {ep:Nat} {t:SetTable} {P:List Nat}
theorem ziK {d:D} {b:Addr} {N:Nat} {Q:SetFound->Shared->Prop} (S:zaI w s.heap a rs es ep t P) (hd:zai d=true) (hk:KAt s.heap d (.ref b)) (hu:A.units+8<cLine)
  (hN:(pth (zah w d) N).1 ∉ P) (hb:∀ k,k<N->(pth (zah w d) k).1∈P) (h20:N<=20)
  (q1:d∈rs.map (·.1)->Q (.there none) s) (q2:d ∉ rs.map (·.1)->Q (.free (pth (zah w d) N).1 false) s):∀ (m k fuel:Nat) (stand:Option SetTable.Probe),N-k=m->k<=N->m<fuel->stand.getD (t.probeStart (zah w d))=stp (zah w d) k →
  (∀ k',k'<k->∀ i r,P.findIdx? (·==(pth (zah w d) k').1)=some i->rs[i]?=some r->r.1≠d)->wpAny (model prog w) A (setSearchFrom a (.ref b) (zah w d) true fuel stand) Q E s:=by
 intro m
 induction m using Nat.strongRecOn with
 | ind m ih=>
  intro k fuel stand hm hkN hf hst hpast
  match fuel,hf with
  | fuel + 1,hf=>
   unfold setSearchFrom
   refine wpAny_bind (wpAny_setState_of S.get rfl S.fits ?_)
   dsimp only
   have hg:t.gaveWay=false:=by unfold SetTable.gaveWay;rw [S.tab.mask];decide
   rw [hg,hst]
   simp only [Bool.false_eq_true,if_false]
   obtain ⟨k1,g1,g2,g3,g4⟩:=S.tab.probe (hashAt:=λi=>(es[i]?.map (·.1)).getD 0) hN hb h20 k hkN
   have hpast1:∀ k',k'<k1->∀ i r,P.findIdx? (·==(pth (zah w d) k').1)=some i->rs[i]?=some r->r.1≠d:=by
    intro k' hk' i r hi hr e
    by_cases hlt:k'<k
    ·exact hpast k' hlt i r hi hr e
    ·refine g3 k' (by omega) hk' i hi ?_
     simp only [S.at hr,Option.map_some,Option.getD_some,e]
   generalize hp:SetTable.probe t _ (zah w d) (stp (zah w d) k)=mt
   rcases g4 with ⟨e1,e2⟩ | ⟨e1,i,e2,e3,e4⟩
   ·have emt:=hp.symm.trans e2
    subst emt
    refine wpAny_pure (q2 λhm=>?_)
    obtain ⟨r,hr,er⟩:=List.mem_map.mp hm
    obtain ⟨i,hi⟩:=List.getElem?_of_mem hr
    have hil:i<rs.length:=(List.getElem?_eq_some_iff.mp hi).1
    have hiP:i<P.length:=by rw [S.len];exact hil
    obtain ⟨k0,w1,w2⟩:=S.way (P[i],r) (List.mem_of_getElem? (i:=i) (by rw [List.getElem?_zip_eq_some];exact ⟨List.getElem?_eq_getElem hiP,hi⟩))
    simp only at w1 w2
    rw [er] at w1 w2
    have hk0:k0<N:=by
     rcases Nat.lt_or_ge k0 N with h | h
     ·exact h
     ·rcases Nat.lt_or_eq_of_le h with h | h
      ·exact absurd (w2 N h) hN
      ·subst h
       rw [w1] at hN
       exact absurd (List.getElem_mem hiP) hN
    refine hpast1 k0 (by omega) i r (zoA S.tab.ok ?_) hi er
    rw [w1]
    exact List.getElem?_eq_getElem hiP
   ·have emt:=hp.symm.trans e4
    subst emt
    dsimp only
    have hiP:i<P.length:=by
     rw [List.findIdx?_eq_some_iff_findIdx_eq] at e2
     exact e2.1
    have hir:i<rs.length:=by rw [<-S.len];exact hiP
    have hi:=List.getElem?_eq_getElem hir
    have ei:=S.at hi
    obtain ⟨hk1,hk2⟩:=S.key rs[i] (List.getElem_mem ..)
    have rest:wpAny (model prog w) A (do
      let some (_,y):=es[i]? | unsupported "internal:set-entry"
      let equal<-holding [y] (eqBool y (.ref b))
      let (es',_,t')<-setState a
      if true&&equal then return .there none
      let some same:=t'.sameMemory t.moves t.mask | unsupported "set.changed-during-lookup:is-the-new-block-at-the-old-address"
      let still<-match (if same then t'.slot (pth (zah w d) k1).1 else .empty) with
       | .live i'=>match es'[i']? with
        | some (_,y')=>do pure (if<-isSame y' y then some i' else none)
        | none=>pure none
       | _=>pure none
      match still with
      | none=>rule "set.search.anew";setSearchFrom a (.ref b) (zah w d) true fuel none
      | some i'=>if equal then return .there (some i') else setSearchFrom a (.ref b) (zah w d) true fuel (some (stp (zah w d) (k1+1)))) Q E s:=by
     rw [ei]
     dsimp only
     refine wpAny_bind (wpAny_holding (kEq 8 rs[i].1 d A _ _ (zbl hk1) hk2 hk hu prog w _ _ ?_))
     refine wpAny_bind (wpAny_setState_of S.get rfl S.fits ?_)
     dsimp only
     cases hs:rs[i].1.same d with
     | true=>
      simp only [Bool.and_self,if_true]
      exact wpAny_pure (q1 (List.mem_map.mpr ⟨rs[i],List.getElem_mem ..,D.same_eq _ _ hs⟩))
     | false=>
      simp only [Bool.and_false,Bool.false_eq_true,if_false]
      have hsm:t.sameMemory t.moves t.mask=some true:=by unfold SetTable.sameMemory;rw [if_pos (beq_self_eq_true _)]
      rw [hsm]
      dsimp only
      rw [if_pos rfl,S.tab.slot (zhf _ _)]
      simp only [zgy,e2]
      rw [ei]
      dsimp only
      refine wpAny_bind (wpAny_isSame_ref_self (wpAny_bind (wpAny_pure ?_)))
      refine ih (N-(k1+1)) (by omega) (k1+1) fuel _ rfl (by omega) (by omega) rfl λk' hk' i' r hi' hr=>?_
      by_cases ek:k'=k1
      ·subst ek
       rw [e2] at hi'
       cases hi'
       rw [hi] at hr
       cases hr
       exact λz=>by rw [z,D.same_refl] at hs;cases hs
      ·exact hpast1 k' (by omega) i' r hi' hr
    cases hl:t.led with
    | true=>
     simp only [Bool.not_true,Bool.false_eq_true,if_false]
     exact rest
    | false=>
     simp only [Bool.not_false,if_true]
     refine wpAny_bind (zlU hd hk (λv hv=>?_) ?_)
     ·obtain ⟨e,he,rfl⟩:=List.mem_map.mp hv
      rw [Array.toList_filter,List.mem_filter,S.ents] at he
      obtain ⟨r,hr,rfl⟩:=List.mem_map.mp he.1
      exact ⟨r.1,r.2,rfl,S.key r hr⟩
     ·simp only [Bool.false_eq_true,if_false]
      exact rest
theorem zkp (j:Nat):SetTable.has #[] j=false:=rfl
theorem znE {d:D} {b:Addr} {Q:Bool->Shared->Prop} (S:zaI w s.heap a rs es ep t P) (hd:zai d=true) (hk:KAt s.heap d (.ref b)) (hu:A.units+8<cLine) (h4:d ∉ rs.map (·.1)->rs.length<4)
  (q:∀ c h' rs' es' ep' t' P',zaI w h' a rs' es' ep' t' P'->Heap.SameBut a s.heap h'->(∀ y,y∈rs'.map (·.1)↔y=d\/y∈rs.map (·.1))->(∀ r∈rs',r∈rs\/r=(d,b))->Q c { s with heap:=h' }) :
  wpAny (model prog w) A (setAddHashed a (.ref b) (zah w d)) Q E s:=by
 unfold setAddHashed
 refine wpAny_holding ?_
 rw [show (100000:Nat)=99999+1 from rfl]
 unfold setAddHashedIn
 refine wpAny_bind (wpAny_setState_of S.get rfl S.fits ?_)
 dsimp only
 rw [if_neg (by simp [byScan,Value.scannable])]
 obtain ⟨N,h20,hN,hb⟩:=gap S.tab.ok (zah w d)
 unfold setSearch
 refine wpAny_bind (ziK S hd hk hu hN hb h20 (λhm=>?_) (λhm=>?_) N 0 100000 none (by omega) (Nat.zero_le _) (by omega) (S.tab.start _) (λk' hk'=>by omega))
 ·dsimp only
  exact wpAny_pure (q _ s.heap rs es ep t P S (Heap.SameBut.refl _ _) (λy=>⟨.inr,λh=>h.elim (λe=>e▸hm) id⟩) λr hr=>.inl hr)
 ·dsimp only
  refine wpAny_bind (wpAny_setState_of S.get rfl S.fits ?_)
  dsimp only
  have hj:=zhf (zah w d) N
  have h4':=h4 hm
  obtain ⟨ok',hp⟩:=zoM S.tab.ok hj (by rw [S.len];exact h4') hN
  have ebl:SetTable.below t.place (pth (zah w d) N).1=SetTable.below P.toArray (pth (zah w d) N).1:=by rw [S.tab.arr]
  have fin:∀ t':SetTable,t'.mask=7->t'.dummies=#[]->t'.place=SetTable.insertAt t.place (SetTable.below t.place (pth (zah w d) N).1) (pth (zah w d) N).1->t'.led=t.led->wpAny (model prog w) A (do
    storeSet a (SetTable.insertAt es (SetTable.below t.place (pth (zah w d) N).1) (zah w d,.ref b)) t'
    if !false&&t'.tooFull then setRelay a (SetTable.grown (es.size+1))
    return true) Q E s:=by
   intro t' e1 e2 e3 e4
   have hsz:(SetTable.insertAt es (SetTable.below t.place (pth (zah w d) N).1) (zah w d,Value.ref b)).toList=(rs.take (SetTable.below P.toArray (pth (zah w d) N).1)++(d,b)::rs.drop (SetTable.below P.toArray (pth (zah w d) N).1)).map λr=>(zah w r.1,Value.ref r.2):=by
    rw [SetTable.toList_insertAt,S.ents,ebl]
    simp [List.map_take,List.map_drop]
   have hpl:t'.place.toList=P.take (SetTable.below P.toArray (pth (zah w d) N).1)++(pth (zah w d) N).1::P.drop (SetTable.below P.toArray (pth (zah w d) N).1):=by
    rw [e3,SetTable.toList_insertAt,S.tab.pl,ebl]
   have hlen:(P.take (SetTable.below P.toArray (pth (zah w d) N).1)++(pth (zah w d) N).1::P.drop (SetTable.below P.toArray (pth (zah w d) N).1)).length=P.length+1:=by
    simp only [List.length_append,List.length_take,List.length_cons,List.length_drop];omega
   have htf:t'.tooFull=false:=by
    unfold SetTable.tooFull SetTable.fill
    rw [e1,e2]
    have:t'.place.size=P.length+1:=by rw [<-Array.length_toList,hpl,hlen]
    rw [this]
    have:=S.len
    simp
    omega
   generalize SetTable.below P.toArray (pth (zah w d) N).1=p at *
   rw [ebl] at hsz ⊢
   have hz:(SetTable.insertAt es p (zah w d,Value.ref b)).size<=sizeLine:=by
    rw [<-Array.length_toList,hsz,List.length_map]
    simp only [List.length_append,List.length_take,List.length_cons,List.length_drop]
    rw [sizeLine_eq];omega
   refine wpAny_bind (wpAny_storeSet_of S.get rfl ?_ hz)
   rw [htf]
   simp only [Bool.and_false,Bool.false_eq_true,if_false]
   have sb:=Heap.SameBut.update s.heap a (Obj.putSet (SetTable.insertAt es p (zah w d,Value.ref b)) t')
   refine wpAny_pure (q true _ (rs.take p++(d,b)::rs.drop p) (SetTable.insertAt es p (zah w d,Value.ref b)) (ep+1) t' (P.take p++(pth (zah w d) N).1::P.drop p) ⟨?_,⟨e1,e2,hpl,ok'⟩,?_,by rw [e4];exact S.led,hsz,λr hr=>?_,?_,λz hz=>?_⟩ sb (λy=>?_) λr hr=>?_)
   ·exact Heap.get?_update_self _ S.get rfl
   ·rw [hlen]
    simp only [List.length_append,List.length_take,List.length_cons,List.length_drop]
    have:=S.len
    omega
   ·have kt:∀ c its,s.heap.IsTuple c its->(s.heap.update a (Obj.putSet (SetTable.insertAt es p (zah w d,Value.ref b)) t')).IsTuple c its:=λc its ⟨o,e,cc,r⟩=>by
     have ne:c≠a:=λz=>by
      subst z
      rw [S.get] at e
      cases e
      injection cc with z
      exact absurd z (by decide)
     exact ⟨o,(sb.2 c ne).trans e,cc,r⟩
    have hr':r∈rs\/r=(d,b):=by
     rcases List.mem_append.mp hr with h | h
     ·exact .inl (List.mem_of_mem_take h)
     ·rcases List.mem_cons.mp h with h | h
      ·exact .inr h
      ·exact .inl (List.mem_of_mem_drop h)
    rcases hr' with h | rfl
    ·exact ⟨(S.key r h).1,KAt.keep kt _ _ (S.key r h).2⟩
    ·exact ⟨hd,KAt.keep kt _ _ hk⟩
   ·have e0:(rs.take p++(d,b)::rs.drop p).Perm ((d,b)::rs):=by
     refine List.perm_middle.trans ?_
     rw [List.take_append_drop]
    rw [(e0.map (·.1)).nodup_iff,List.map_cons,List.nodup_cons]
    exact ⟨hm,S.nd⟩
   ·have ez:(P.take p++(pth (zah w d) N).1::P.drop p).zip (rs.take p++(d,b)::rs.drop p)=(P.take p).zip (rs.take p)++((pth (zah w d) N).1,(d,b))::(P.drop p).zip (rs.drop p):=by
     rw [List.zip_append (by rw [List.length_take,List.length_take,S.len]),List.zip_cons_cons]
    rw [ez] at hz
    have sub:∀ j,j∈P->j∈P.take p++(pth (zah w d) N).1::P.drop p:=λj hj=>by
     rw [<-List.take_append_drop p P] at hj
     rcases List.mem_append.mp hj with h | h
     ·exact List.mem_append_left _ h
     ·exact List.mem_append_right _ (List.mem_cons_of_mem _ h)
    have old:z∈P.zip rs->∃ k,(pth (zah w z.2.1) k).1=z.1/\∀ k',k'<k->(pth (zah w z.2.1) k').1∈P.take p++(pth (zah w d) N).1::P.drop p:=λh=>by
     obtain ⟨k,g1,g2⟩:=S.way z h
     exact ⟨k,g1,λk' hk'=>sub _ (g2 k' hk')⟩
    rcases List.mem_append.mp hz with h | h
    ·rw [List.zip,<-List.take_zipWith] at h
     exact old (List.mem_of_mem_take h)
    ·rcases List.mem_cons.mp h with h | h
     ·subst h
      exact ⟨N,rfl,λk' hk'=>sub _ (hb k' hk')⟩
     ·rw [List.zip,<-List.drop_zipWith] at h
      exact old (List.mem_of_mem_drop h)
   ·simp only [List.map_append,List.map_cons,List.mem_append,List.mem_cons]
    rw [<-List.take_append_drop p rs]
    simp only [List.map_append,List.mem_append]
    have et:(rs.take p++rs.drop p).take p=rs.take p:=by rw [List.take_append_drop]
    have ed:(rs.take p++rs.drop p).drop p=rs.drop p:=by rw [List.take_append_drop]
    rw [et,ed]
    constructor
    ·rintro (h | h | h)
     ·exact .inr (.inl h)
     ·exact .inl h
     ·exact .inr (.inr h)
    ·rintro (h | h | h)
     ·exact .inr (.inl h)
     ·exact .inl h
     ·exact .inr (.inr h)
   ·rcases List.mem_append.mp hr with h | h
    ·exact .inl (List.mem_of_mem_take h)
    ·rcases List.mem_cons.mp h with h | h
     ·exact .inr h
     ·exact .inl (List.mem_of_mem_drop h)
  unfold SetTable.put
  dsimp only
  rw [S.tab.dum,zkp]
  simp only [Bool.false_eq_true,if_false]
  cases hpl:t.plain with
  | true=>
   simp only [if_true]
   refine wpAny_bind (zlP 8 d _ _ _ hk λbv=>?_)
   cases bv with
   | true=>
    simp only [if_true]
    exact fin _ S.tab.mask rfl rfl rfl
   | false=>
    simp only [Bool.false_eq_true,if_false]
    exact fin _ S.tab.mask rfl rfl rfl
  | false=>
   simp only [Bool.false_eq_true,if_false]
   refine wpAny_bind (wpAny_pure ?_)
   simp only [if_true]
   exact fin _ S.tab.mask rfl rfl rfl
end
end IT
set_option linter.all false
set_option maxHeartbeats 4000000
set_option maxRecDepth 100000
namespace IT
open PySem PyProof.Rows
theorem zjm {α:Type} [DecidableEq α]:∀ {l m:List α},l.Nodup->(∀ x∈l,x∈m)->l.length<=m.length
 | [],m,_,_=>Nat.zero_le _
 | x::l,m,n,h=>by
  rw [List.nodup_cons] at n
  have hx:=h x List.mem_cons_self
  have:=zjm (l:=l) (m:=m.erase x) n.2 λy hy=>(List.mem_erase_of_ne (a:=y) (b:=x) (λe=>n.1 (by rw [<-e];exact hy))).mpr (h y (List.mem_cons_of_mem _ hy))
  rw [List.length_erase_of_mem hx] at this
  have hp:0<m.length:=List.length_pos_of_mem hx
  simp only [List.length_cons]
  omega
section
variable {prog:Program} {w:World} {A:Around} {E:Value->Shared->Prop} {R:Result->Shared->Prop} {I l S:Addr} {items:Array Value} {vals:List (D×Addr)}
theorem zlp (hA:A.in1.handled=none) (hu:A.units+16<cLine) (hlI:l≠I) (hSI:S≠I) (hSl:S≠l) (hv:items.toList=vals.map λr=>Value.ref r.2) (mx:List D) (h4:mx.length<=4) (hmx:∀ r∈vals,r.1∈mx) :
  ∀ (k i:Nat) (s:Shared) (rs:List (D×Addr)) (es:Array (Int×Value)) (ep:Nat) (t:SetTable) (P:List Nat),items.size-i=k->i<=items.size->s.heap.IsListIter I l i->s.heap.IsList l items->zaI w s.heap S rs es ep t P →
  (∀ r∈vals,zai r.1=true/\KAt s.heap r.1 (.ref r.2))->(∀ y,y∈rs.map (·.1)↔y∈(vals.take i).map (·.1))->(∀ r∈rs,r∈vals) →
  (∀ h' tk rs' es' ep' t' P',zaI w h' S rs' es' ep' t' P'->(∀ y,y∈rs'.map (·.1)↔y∈vals.map (·.1))->(∀ r∈rs',r∈vals)->(∀ b o,b≠S->b≠I->s.heap.get? b=some o->h'.get? b=some o)->R (.ok (.ret .none)) { s with heap:=h',toks:=tk }) →
  codeAny (model prog w) A (.builtin "set.update.loop" ⟨[.ref S,.ref I],[]⟩) R s:=by
 have W:=Walks.list (prog:=prog) (w:=w) (A:=A.in1) hA I l hlI items
 have iter_no:∀ (h:Heap) i its,h.IsListIter I l i->¬ h.IsTuple I its:=λh i its ⟨o,e,c,_⟩ ⟨o',e',c',_⟩=>by
  rw [e] at e'
  cases e'
  rw [c] at c'
  injection c' with z
  exact absurd z (by decide)
 have hlen:vals.length=items.size:=by rw [<-Array.length_toList,hv,List.length_map]
 intro k
 induction k with
 | zero=>
  intro i s rs es ep t P hk hi hit hl hS hkey hmem hsub hR
  have hin:i=items.size:=by omega
  subst hin
  refine codeAny_builtin F.entry_set_update_loop ?_
  rw [Around.under_plainId F.plain_set_update_loop _];show wpAny _ A.in1 (pyNext (.ref I) >>= _) _ _ s
  refine wpAny_bind (W.done s _ _ ⟨hit,hl⟩ λh' tk hk'=>?_)
  have kb:∀ b o,b≠I->s.heap.get? b=some o->h'.get? b=some o:=λb o hb e=>hk' b o (by simpa using hb) e
  refine wpAny_pure (hR h' tk rs es ep t P (hS.mono (λo e=>kb S o hSI e) λb its tt=>?_) (λy=>?_) hsub λb o _ hb e=>kb b o hb e)
  ·have ne:b≠I:=λz=>iter_no _ _ its hit (z▸tt)
   obtain ⟨o,e,r⟩:=tt
   exact ⟨o,kb b o ne e,r⟩
  ·rw [hmem y,List.take_of_length_le (by omega)]
 | succ k ih=>
  intro i s rs es ep t P hk hi hit hl hS hkey hmem hsub hR
  have hlt:i<items.size:=by omega
  refine codeAny_builtin F.entry_set_update_loop ?_
  rw [Around.under_plainId F.plain_set_update_loop _];show wpAny _ A.in1 (pyNext (.ref I) >>= _) _ _ s
  refine wpAny_bind (W.item i s _ _ hlt ⟨hit,hl⟩ λv h' tk hP hst' hk'=>?_)
  have kb:∀ b o,b≠I->s.heap.get? b=some o->h'.get? b=some o:=λb o hb e=>hk' b o (by simpa using hb) e
  have kt:∀ b its,s.heap.IsTuple b its->h'.IsTuple b its:=λb its tt=>by
   have ne:b≠I:=λz=>iter_no _ _ its hit (z▸tt)
   obtain ⟨o,e,r⟩:=tt
   exact ⟨o,kb b o ne e,r⟩
  have hiv:i<vals.length:=by omega
  have ev:v=.ref (vals[i]).2:=by
   rw [<-Array.getElem?_toList,hv,List.getElem?_map,List.getElem?_eq_getElem hiv] at hP
   exact (Option.some.inj hP).symm
  subst ev
  obtain ⟨hk1,hk2⟩:=hkey vals[i] (List.getElem_mem ..)
  have hS1:=hS.mono (λo e=>kb S o hSI e) kt
  have hk3:=KAt.keep kt _ _ hk2
  show wpAny _ A.in1 (holding [Value.ref (vals[i]).2] (setAdd S (.ref (vals[i]).2)) >>= _) _ _ { s with heap:=h',toks:=tk }
  refine wpAny_bind (wpAny_holding ?_)
  unfold setAdd
  refine wpAny_holding (wpAny_bind (ze2 8 (vals[i]).1 A.in1 { s with heap:=h',toks:=tk } _ _ (zbl hk1) hk3 (by show A.units+1+8<cLine;omega) ?_))
  refine znE (s:={ s with heap:=h',toks:=tk+zec (vals[i]).1 }) hS1 hk1 hk3 (by show A.units+1+8<cLine;omega) (λhn=>?_) λc h2 rs' es' ep' t' P' S2 sb hm2 hs2=>?_
  ·have:=zjm (l:=(vals[i]).1::rs.map (·.1)) (m:=mx) (List.nodup_cons.mpr ⟨hn,hS.nd⟩) λx hx=>by
    rcases List.mem_cons.mp hx with rfl | hx
    ·exact hmx _ (List.getElem_mem ..)
    ·obtain ⟨r,hr,rfl⟩:=List.mem_map.mp hx
     exact hmx r (hsub r hr)
   simp only [List.length_cons,List.length_map] at this
   omega
  ·have kt2:∀ b its,h'.IsTuple b its->h2.IsTuple b its:=λb its ⟨o,e,c,r⟩=>by
    have ne:b≠S:=λz=>by
     subst z
     rw [hS1.get] at e
     cases e
     injection c with z
     exact absurd z (by decide)
    exact ⟨o,(sb.2 b ne).trans e,c,r⟩
   refine wpAny_pure ⟨plainId_quiet F.plain_set_update_loop _,ih (i+1) _ rs' es' ep' t' P' (by omega) hlt ?_ ?_ S2 (λr hr=>⟨(hkey r hr).1,KAt.keep kt2 _ _ (KAt.keep kt _ _ (hkey r hr).2)⟩) (λy=>?_) (λr hr=>?_) λh3 tk3 rs3 es3 ep3 t3 P3 g1 g2 g3 g4=>?_⟩
   ·obtain ⟨o,e,r⟩:=hst'.1
    exact ⟨o,(sb.2 I (Ne.symm hSI)).trans e,r⟩
   ·obtain ⟨o,e,r⟩:=hst'.2
    exact ⟨o,(sb.2 l (Ne.symm hSl)).trans e,r⟩
   ·rw [hm2 y,hmem y,List.take_succ_eq_append_getElem hiv,List.map_append,List.mem_append]
    simp only [List.map_cons,List.map_nil,List.mem_singleton]
    exact ⟨λh=>h.symm,λh=>h.symm⟩
   ·rcases hs2 r hr with h | h
    ·exact hsub r h
    ·rw [h];exact List.getElem_mem ..
   ·exact hR h3 tk3 rs3 es3 ep3 t3 P3 g1 g2 g3 λb o hb1 hb2 e=>g4 b o hb1 hb2 ((sb.2 b hb1).trans (kb b o hb2 e))
end
section
variable {prog:Program} {w:World} {A:Around} {E:Value->Shared->Prop} {s:Shared}
noncomputable abbrev set0 (w:World):Obj:={ cls:=.type "set",dict:=none,data:=.set #[] 0 (.fresh 0 0 (!byTx w)) }
theorem zll (a:Value) {Q₁:Value->Shared->Prop} (h:Q₁ (.ref s.heap.objs.size) { s with heap:=s.heap.push (set0 w) }) :
  codeAny (model prog w) A (.call (.builtin "set.__new__") ⟨[.type "set",a],[]⟩) (wants Q₁ E) s:=by
 refine codeAny_of_tree ?_;show wpAny _ A.in1 (do checkBuiltinCall "set.__new__" ⟨[.type "set",a],[]⟩;again (.builtin "set.__new__" ⟨[.type "set",a],[]⟩)) _ _ s
 refine wpAny_bind (wpAny_of_eq (F.newCall_set_1 a) (wpAny_pure ⟨plainId_quiet PySem.F.plain_set_new _,codeAny_builtin PySem.F.entry_set_new ?_⟩))
 rw [Around.under_plainId PySem.F.plain_set_new _];unfold Builtin.«set.__new__» Builtin.Frozenset.newClass
 have hsub:=sub_set_self
 obtain ⟨hp,g,d,tk,os⟩:=s
 dsimp only
 wp_walk
 refine wpAny_askSetting (wpAny_pure ?_)
 dsimp only;simp only [newObj]
 exact wpAny_bind (wpAny_alloc (wpAny_pure (wpAny_pure h)))
theorem zm0 {h:Heap} {a:Addr} (e:h.get? a=some (set0 w)):zaI w h a [] #[] 0 (.fresh 0 0 (!byTx w)) []:=
 ⟨e,⟨rfl,rfl,rfl,rfl⟩,rfl,rfl,rfl,(λr hr=>nomatch hr),List.nodup_nil,(λz hz=>nomatch hz)⟩
theorem zfj {l:Addr} {items:Array Value} {vals:List (D×Addr)} {mx:List D} {Q:Value->Shared->Prop} (hh:A.handled=none) (hu:A.units+32<cLine) (hl:s.heap.IsList l items) (hv:items.toList=vals.map λr=>Value.ref r.2)
  (hkey:∀ r∈vals,zai r.1=true/\KAt s.heap r.1 (.ref r.2)) (h4:mx.length<=4) (hmx:∀ r∈vals,r.1∈mx)
  (h:∀ h' tk rs es ep t P,zaI w h' s.heap.objs.size rs es ep t P->(∀ y,y∈rs.map (·.1)↔y∈vals.map (·.1))->(∀ r∈rs,r∈vals)->(∀ b o,s.heap.get? b=some o->h'.get? b=some o)->Q (.ref s.heap.objs.size) { s with heap:=h',toks:=tk }) :
  wpAny (model prog w) A (call (.type "set") [.ref l]) Q E s:=by
 obtain ⟨c,tl,hmro⟩:=PySem.F.called_set.mro
 have hmade:=PySem.F.called_set.made
 have hsub:=PySem.F.called_set.sub
 refine wpAny_call (codeAny_of_tree ?_);show wpAny _ _ (callAny (.type "set") _) _ _ _
 refine wpAny_pure ⟨Code.quiet_builtin _ (by decide +kernel),codeAny_builtin PySem.F.entry_type_call ?_⟩;rw [Around.under_plain (weight_type_call_type "set" [.ref l] []) rfl]
 have h1:=PySem.F.called_set.notType
 have h2:=PySem.F.called_set.canCreate
 have hct:=PySem.F.typeCall_set_1 (.ref l)
 repeat (any_goals (first | assumption | wp_step))
 refine codeAny_mono (zll (.ref l) (E:=E) (Q₁:=λobj s₁=>obj=.ref s.heap.objs.size/\s₁={ s with heap:=s.heap.push (set0 w) }) ⟨rfl,rfl⟩) λr s₁ hr=>?_
 cases r with
 | error e=>exact hr
 | ok fl=>
  cases fl with
  | ret obj=>
   obtain ⟨rfl,rfl⟩:=hr
   have hS:(s.heap.push (set0 w)).get? s.heap.objs.size=some (set0 w):=Heap.get?_push_size _ rfl
   have hT:Shared.TypeIs { s with heap:=s.heap.push (set0 w) } (.ref s.heap.objs.size) "set":=⟨_,hS,rfl⟩
   have hli:=PySem.F.called_set.init.lookup
   have hbi:=PySem.F.called_set.init.bind (.ref s.heap.objs.size)
   repeat (any_goals (first | assumption | wp_step))
   refine codeAny_mono (codeAny_call_builtin (R:=wants (λr s₂=>r=.none/\∃ h' tk rs es ep t P,s₂={ s with heap:=h',toks:=tk }/\zaI w h' s.heap.objs.size rs es ep t P/\(∀ y,y∈rs.map (·.1)↔y∈vals.map (·.1))/\(∀ r∈rs,r∈vals)/\(∀ b o,s.heap.get? b=some o->h'.get? b=some o)) E)
    PySem.F.called_set.init.plain PySem.F.entry_set_init (check_set_init_1 hT ?_)) λr₂ s₂ hr₂=>?_
   ·obtain ⟨⟨ocls,odict,odata,oslots⟩,hol,hcl,nl,hdl⟩:=hl
    simp only at hcl hdl
    subst hcl;subst hdl
    have hol':(s.heap.push (set0 w)).get? l=some { cls:=.type "list",dict:=odict,data:=.seq items nl,slots:=oslots }:=Heap.get?_push_of_some _ hol
    have hsls:=PySem.F.sub_list_set
    have hslf:=PySem.F.sub_list_frozenset
    have hne:(Value.type "list"==Value.type "dict")=false:=by decide
    have hl1:(s.heap.push (set0 w)).IsList l items:=⟨_,hol',rfl,nl,rfl⟩
    unfold Builtin.«set.__init__» noKeywords Builtin.Frozenset.updateFrom
    generalize hPI:pyIter=PI
    wp_walk
    subst hPI
    refine wpAny_pyIter_list hl1 ?_
    refine wpAny_bind (wpAny_runValue ?_)
    have hlS:l<s.heap.objs.size:=Heap.lt_size hol
    have sz1:(s.heap.push (set0 w)).objs.size=s.heap.objs.size+1:=Heap.size_push ..
    have keep:∀ b its,s.heap.IsTuple b its->((s.heap.push (set0 w)).push { cls:=.type "list_iterator",data:=.fields #[.ref l,.int 0 0] }).IsTuple b its:=λb its ⟨o,e,r⟩=>⟨o,Heap.get?_push_of_some _ (Heap.get?_push_of_some _ e),r⟩
    refine zlp (mx:=mx) (vals:=vals) (items:=items) (l:=l) (by simp [hh]) (by show A.units+1+1+16<cLine;omega) ?_ ?_ (Nat.ne_of_gt hlS) hv h4 hmx items.size 0 _ [] #[] 0 _ [] (by omega) (Nat.zero_le _) ⟨_,Heap.get?_push_size _ rfl,rfl,rfl⟩ (hl1.push _) (zm0 (Heap.get?_push_of_some _ hS)) (λr hr=>⟨(hkey r hr).1,KAt.keep keep _ _ (hkey r hr).2⟩) (λy=>by simp) (λr hr=>nomatch hr) ?_
    ·rw [sz1];exact Nat.ne_of_lt (Nat.lt_succ_of_lt hlS)
    ·rw [sz1];exact Nat.ne_of_lt (Nat.lt_succ_self _)
    ·intro h' tk rs es ep t P g1 g2 g3 g4
     refine wpAny_pure ?_
     show wpAny _ _ (ret Value.none) _ _ _
     refine wpAny_pure ⟨rfl,h',tk,rs,es,ep,t,P,rfl,g1,g2,g3,λb o e=>g4 b o (Nat.ne_of_lt (Heap.lt_size e)) ?_ (Heap.get?_push_of_some _ (Heap.get?_push_of_some _ e))⟩
     rw [sz1];exact Nat.ne_of_lt (Nat.lt_succ_of_lt (Heap.lt_size e))
   ·cases r₂ with
    | error e=>exact hr₂
    | ok fl₂=>
     cases fl₂ with
     | ret r=>
      obtain ⟨rfl,h',tk,rs,es,ep,t,P,rfl,g1,g2,g3,g4⟩:=hr₂
      repeat (any_goals (first | assumption | wp_step))
      exact h _ _ _ _ _ _ _ g1 g2 g3 g4
     | _=>exact hr₂.elim
  | _=>exact hr.elim
end
end IT
set_option linter.all false
set_option maxHeartbeats 4000000
set_option maxRecDepth 100000
namespace IT
open PySem PyProof.Rows
theorem zaT:Slot "set_iterator" "__next__" "set_iterator.__next__":=
 .of (owner:="set_iterator") (n:="__next__") (by rw [typeLookup_type,builtinLookup_eq_fast];kernel_rfl) (by decide +kernel) (by decide +kernel) (by decide +kernel) (by first | exact .inl (by decide +kernel) | exact .inr (by decide +kernel)) (by rw [isSubtype_type];kernel_rfl)
theorem zcA:entryFor table "set_iterator.__next__"=some Builtin.«set_iterator.__next__»:=entryFor_of_tree (by kernel_rfl)
theorem zc8 (a:Value):argsOk "set_iterator.__next__" ⟨[a],[]⟩:=by unfold argsOk;kernel_rfl
theorem zfa:entryFor table "set.__iter__"=some Builtin.«frozenset.__iter__»:=entryFor_alias (id':="frozenset.__iter__") (by kernel_rfl) rfl (by decide +kernel) (by kernel_rfl)
noncomputable abbrev sitO (f:Value) (i:Nat) (v:Addr) (n ep:Nat):Obj:={ cls:=.type "set_iterator",dict:=none,data:=.fields #[f,.int i 0,.ref v,.int n 0,.int ep 0],slots:=#[] }
inductive Mode (w:World) (v:Addr) (es:Array (Int×Value)) (ep:Nat) (t:SetTable) (P:List Nat) (fs:Nat->Value) (vs:List (Int×Value)) (h:Heap):Prop where
 | drawn (T:Addr) (p:List Nat) (hf:fs=λ_=>.ref T) (hT:h.get? T=some { cls:=.type "tuple",data:=.seq (p.map λi:Nat=>rawInt (i:Int)).toArray 0 }) (hp:p.length=es.size) (hv:∀ (i j:Nat),p[i]?=some j->∃ e,es[j]?=some e/\vs[i]?=some e)
 | text (hb:byTx w=true) (hf:fs=λ_=>rawInt 0) (hv:(pickOrder (w.params.setOrder v ep) es).toList=vs)
 | slots (hb:byTx w=false) (hd:t.plain=true\/es.size<=1) (hf:fs=λi=>rawInt ((if i=0 then 0 else P.getD (i-1) 0+1:Nat):Int)) (hv:vs=es.toList)
theorem Mode.keep {w:World} {v:Addr} {es:Array (Int×Value)} {ep:Nat} {t:SetTable} {P:List Nat} {fs:Nat->Value} {vs:List (Int×Value)} {h h':Heap} {b:Addr} (m:Mode w v es ep t P fs vs h) (k:∀ c o,c≠b->h.get? c=some o->h'.get? c=some o) (hb:∀ o,h.get? b=some o->o.cls≠.type "tuple"):Mode w v es ep t P fs vs h':=by
 cases m with
 | drawn T p hf hT hp hv=>exact .drawn T p hf (k T _ (λe=>by subst e;exact hb _ hT rfl) hT) hp hv
 | text hb hf hv=>exact .text hb hf hv
 | slots hb hd hf hv=>exact .slots hb hd hf hv
theorem zcY {α:Type}:∀ {l:List α} {i:Nat} (hi:i<l.length),(l[i]::l.eraseIdx i).Perm l
 | [],i,hi=>by simp at hi
 | x::l,0,hi=>by simp
 | x::l,i+1,hi=>by
  simp only [List.getElem_cons_succ,List.eraseIdx_cons_succ]
  exact (List.Perm.swap _ _ _).trans (List.Perm.cons _ (zcY (by simpa using hi)))
section
variable {prog:Program} {w:World} {A:Around} {E:Value->Shared->Prop} {s:Shared}
theorem zbj {Q:Bool->Shared->Prop} (q:Q (byTx w) s):wpAny (model prog w) A setsByText Q E s:=by
 unfold setsByText
 exact wpAny_bind (wpAny_askSetting (wpAny_pure q))
theorem zjj {M:Model} {src:Source} {n:Nat} {Q:Nat->Shared->Prop} (h0:n≠0) (q:∀ i,i<n->Q i { s with drawn:=s.drawn.bump src }):wpAny M A (choose src n) Q E s:=by
 intro p _ p1
 simp only [choose,Sem.wp_choose,Sem.wp_pure]
 exact ⟨h0,q _ (Nat.mod_lt _ (Nat.pos_of_ne_zero h0))⟩
theorem zie {M:Model} {α:Type}:∀ (n:Nat) (xs:List α) (s:Shared) (Q:List α->Shared->Prop),xs.length=n->(∀ ys d,ys.Perm xs->Q ys { s with drawn:=d })->wpAny M A (drawOrder n xs) Q E s
 | 0,xs,s,Q,hl,q=>by
  cases xs with
  | nil=>exact wpAny_pure (q [] s.drawn (List.Perm.refl _))
  | cons x xs=>simp at hl
 | n+1,xs,s,Q,hl,q=>by
  cases xs with
  | nil=>simp at hl
  | cons x xs=>
   unfold drawOrder
   refine wpAny_bind (zjj (by simp) λi hi=>?_)
   rw [List.getElem?_eq_getElem hi]
   refine wpAny_bind (zie n _ _ _ (by rw [List.length_eraseIdx_of_lt hi];omega) λys d hp=>?_)
   refine wpAny_pure (q _ d ?_)
   exact (List.Perm.cons _ hp).trans (zcY hi)
theorem zfX {α:Type} (nx:Nat->Nat):∀ (fuel k:Nat) (left:List α) (out:Array α),left.length=fuel->(pickOrder.go nx fuel k left out).toList.Perm (out.toList++left)
 | 0,k,left,out,hl=>by
  cases left with
  | nil=>simp [pickOrder.go]
  | cons x xs=>simp at hl
 | fuel+1,k,left,out,hl=>by
  have hi:nx k % left.length<left.length:=Nat.mod_lt _ (by omega)
  unfold pickOrder.go
  rw [List.getElem?_eq_getElem hi]
  dsimp only
  refine (zfX nx fuel (k+1) _ _ (by rw [List.length_eraseIdx_of_lt hi];omega)).trans ?_
  rw [Array.toList_push,List.append_assoc]
  exact List.Perm.append_left _ (zcY hi)
variable {I v:Addr} {rs:List (D×Addr)} {es:Array (Int×Value)} {ep:Nat} {t:SetTable} {P:List Nat} {fs:Nat->Value} {vs:List (Int×Value)} {i:Nat}
theorem ziz {Q:Array (Int×Value)->Shared->Prop} (S:zaI w s.heap v rs es ep t P) (hb:byTx w=true) (q:Q (pickOrder (w.params.setOrder v ep) es) s):wpAny (model prog w) A (setWalk v) Q E s:=by
 unfold setWalk
 refine wpAny_bind (wpAny_setState_of S.get rfl S.fits ?_)
 dsimp only
 refine wpAny_bind (zbj ?_)
 rw [hb,if_pos rfl]
 exact wpAny_bind (wpAny_askSetting (wpAny_pure q))
theorem zmW {e:Int×Value} {Q:Option Value->Shared->Prop} (S:zaI w s.heap v rs es ep t P) (m:Mode w v es ep t P fs vs s.heap) (hit:s.heap.get? I=some (sitO (fs i) i v es.size ep)) (hi:i<es.size) (he:vs[i]?=some e)
  (q:∀ h',h'.get? I=some (sitO (fs (i+1)) (i+1) v es.size ep)->Heap.SameBut I s.heap h'->Q (some e.2) { s with heap:=h' }):wpAny (model prog w) A (pyNext (.ref I)) Q E s:=by
 have hT:s.TypeIs (.ref I) "set_iterator":=⟨_,hit,rfl⟩
 unfold pyNext
 refine wpAny_bind (wpAny_attempt (wpAny_callSpecial?_slot (name:=Str.ofString "__next__") hT zaT (wpAny_call_entry zaT hT zcA ?_ (zc8 _))))
 show wpAny _ _ (fieldsOf (.ref I) >>= _) _ _ _
 refine wpAny_bind (wpAny_fieldsOf hit rfl ?_)
 dsimp only
 refine wpAny_bind (wpAny_setEntries_of S.get rfl S.fits ?_)
 rw [if_neg (by simp)]
 have ei:((i+1:Nat):Int)=(i:Int)+1:=by omega
 cases m with
 | drawn T p hf hTu hp hv=>
  subst hf
  have hip:i<p.length:=by omega
  obtain ⟨e',g1,g2⟩:=hv i p[i] (List.getElem?_eq_getElem hip)
  rw [he] at g2
  cases g2
  show wpAny _ _ (seqItems? (.ref T) >>= _) _ _ _
  unfold seqItems?
  refine wpAny_bind (wpAny_bind (wpAny_load hTu (wpAny_pure ?_)))
  dsimp only
  have eg:(p.map λi:Nat=>rawInt (i:Int)).toArray[(i:Int).toNat]?=some (.int (p[i]:Nat) 0):=by
   rw [Int.toNat_natCast]
   simp [hip,rawInt]
  rw [eg]
  dsimp only
  unfold setNextDrawn
  refine wpAny_bind (wpAny_bind (wpAny_setState_of S.get rfl S.fits ?_))
  dsimp only
  rw [if_neg (by simp)]
  rw [Int.toNat_natCast,g1]
  refine wpAny_pure (wpAny_bind (wpAny_setField_rec hit (by simp) λh1 he1 hs1=>wpAny_pure ⟨_,rfl,wpAny_pure (q h1 ?_ hs1)⟩))
  rw [he1]
  simp [sitO,rawInt,ei]
 | text hb hf hv=>
  subst hf
  show wpAny _ _ (setNext v (0:Int).toNat (i:Int).toNat (ep:Int).toNat >>= _) _ _ _
  unfold setNext
  refine wpAny_bind (wpAny_bind (wpAny_setState_of S.get rfl S.fits ?_))
  dsimp only
  refine wpAny_bind (zbj ?_)
  rw [hb,if_pos rfl,Int.toNat_natCast,Int.toNat_natCast]
  rw [if_neg (by simp)]
  refine wpAny_bind (ziz S hb ?_)
  rw [<-Array.getElem?_toList,hv,he]
  refine wpAny_pure ?_
  dsimp only [Option.map_some]
  refine wpAny_bind (wpAny_setField_rec hit (by simp) λh1 he1 hs1=>wpAny_bind (wpAny_setField_rec he1 (by simp) λh2 he2 hs2=>wpAny_pure ⟨_,rfl,wpAny_pure (q h2 ?_ (hs1.trans hs2))⟩))
  rw [he2]
  simp [sitO,rawInt,ei]
 | slots hb hd hf hv=>
  subst hf hv
  show wpAny _ _ (setNext v ((if i=0 then 0 else P.getD (i-1) 0+1:Nat):Int).toNat (i:Int).toNat (ep:Int).toNat >>= _) _ _ _
  unfold setNext
  refine wpAny_bind (wpAny_bind (wpAny_setState_of S.get rfl S.fits ?_))
  dsimp only
  refine wpAny_bind (zbj ?_)
  rw [hb,if_neg (by decide),Int.toNat_natCast]
  refine wpAny_ite_split (λhab=>?_) (λ_=>?_)
  ·exfalso
   have hab':(!t.plain&&decide (es.size>1))=true:=hab
   simp only [Bool.and_eq_true,Bool.not_eq_true',decide_eq_true_eq] at hab'
   rcases hd with z | z
   ·rw [z] at hab';exact absurd hab'.1 (by decide)
   ·omega
  ·refine wpAny_bind (m:=_) ?_
   have hl:t.led=true:=by rw [S.led,hb];rfl
   show wpAny _ _ (if (!t.led&&!es.isEmpty)=true then _ else _) _ _ _
   rw [if_neg (by rw [hl];simp)]
   refine wpAny_pure (wpAny_pure ?_)
   have hiP:i<P.length:=by rw [S.len,<-S.size];exact hi
   have eb:SetTable.below t.place (if i=0 then 0 else P.getD (i-1) 0+1)=i:=by
    rw [S.tab.arr]
    exact zjb S.tab.ok (Nat.le_of_lt hiP)
   have e1:es[i]?=some e:=by rw [<-Array.getElem?_toList];exact he
   have e2:t.place[i]?=some P[i]:=by rw [<-Array.getElem?_toList,S.tab.pl];exact List.getElem?_eq_getElem hiP
   try dsimp only
   rw [eb,e1,e2]
   dsimp only
   refine wpAny_bind (wpAny_setField_rec hit (by simp) λh1 he1 hs1=>wpAny_bind (wpAny_setField_rec he1 (by simp) λh2 he2 hs2=>wpAny_pure ⟨_,rfl,wpAny_pure (q h2 ?_ (hs1.trans hs2))⟩))
   rw [he2]
   have e3:P.getD i 0=P[i]:=by simp [hiP]
   simp [sitO,rawInt,ei,hiP]
theorem zgH {α:Type} {Q':α->Shared->Prop} {E':Value->Shared->Prop} {h1:Heap} (hh:A.handled=none) (hs1:Heap.SameBut I s.heap h1)
  (q:∀ h2 x,(∀ b o,b≠I->s.heap.get? b=some o->h2.get? b=some o)->({ s with heap:=h2 }:Shared).TypeIs x "StopIteration"->E' x { s with heap:=h2 }):wpAny (model prog w) A.in1 (do raiseNew (<-newExc (.type "StopIteration") [])) Q' E' { s with heap:=h1 }:=by
 refine wpAny_bind ?_;simp only [newExc,newTuple]
 refine wpAny_bind (wpAny_newObj_type ?_ (by size_fits))
 refine wpAny_bind (m:=firstArgMember _ _) (wpAny_of_eq (a:=Value.none) (by first | rfl | (simp only [firstArgMember];rfl)) ?_);refine wpAny_newObj_type ?_ (by size_fits)
 simp only [raiseNew];refine wpAny_bind (wpAny_handled ?_)
 rw [show A.in1.handled=none from hh]
 refine wpAny_bind (wpAny_pure (wpAny_throw ?_))
 exact q _ _ ((hs1.extBut.push _).push _) ⟨_,Heap.get?_push_size _ rfl,rfl⟩
theorem zon {Q:Option Value->Shared->Prop} (hh:A.handled=none) (S:zaI w s.heap v rs es ep t P) (m:Mode w v es ep t P fs vs s.heap) (hl:vs.length=es.size) (hit:s.heap.get? I=some (sitO (fs es.size) es.size v es.size ep))
  (q:∀ h',(∀ b o,b≠I->s.heap.get? b=some o->h'.get? b=some o)->Q none { s with heap:=h' }):wpAny (model prog w) A (pyNext (.ref I)) Q E s:=by
 have hT:s.TypeIs (.ref I) "set_iterator":=⟨_,hit,rfl⟩
 unfold pyNext
 refine wpAny_bind (wpAny_attempt (wpAny_callSpecial?_slot (name:=Str.ofString "__next__") hT zaT (wpAny_call_entry zaT hT zcA ?_ (zc8 _))))
 show wpAny _ _ (fieldsOf (.ref I) >>= _) _ _ _
 refine wpAny_bind (wpAny_fieldsOf hit rfl ?_)
 dsimp only
 refine wpAny_bind (wpAny_setEntries_of S.get rfl S.fits ?_)
 rw [if_neg (by simp)]
 cases m with
 | drawn T p hf hTu hp hv=>
  subst hf
  show wpAny _ _ (seqItems? (.ref T) >>= _) _ _ _
  unfold seqItems?
  refine wpAny_bind (wpAny_bind (wpAny_load hTu (wpAny_pure ?_)))
  dsimp only
  have eg:(p.map λi:Nat=>rawInt (i:Int)).toArray[(es.size:Int).toNat]?=none:=by
   rw [Int.toNat_natCast]
   simp [hp]
  rw [eg]
  dsimp only
  exact wpAny_bind (wpAny_setField_rec hit (by simp) λh1 he1 hs1=>wpAny_bind (wpAny_setField_rec he1 (by simp) λh2 he2 hs2=>zgH (s:=s) hh (hs1.trans hs2) λh3 x k2 ty=>wpAny_bind (wpAny_isInstance (b:=true) ty isSubtype_stop (wpAny_pure (q h3 k2)))))
 | text hb hf hv=>
  subst hf
  show wpAny _ _ (setNext v (0:Int).toNat (es.size:Int).toNat (ep:Int).toNat >>= _) _ _ _
  unfold setNext
  refine wpAny_bind (wpAny_bind (wpAny_setState_of S.get rfl S.fits ?_))
  dsimp only
  refine wpAny_bind (zbj ?_)
  rw [hb,if_pos rfl,Int.toNat_natCast,Int.toNat_natCast]
  rw [if_neg (by simp)]
  refine wpAny_bind (ziz S hb ?_)
  rw [<-Array.getElem?_toList,hv,List.getElem?_eq_none (by omega)]
  refine wpAny_pure ?_
  dsimp only [Option.map_none]
  exact wpAny_bind (wpAny_setField_rec hit (by simp) λh1 he1 hs1=>zgH (s:=s) hh hs1 λh3 x k2 ty=>wpAny_bind (wpAny_isInstance (b:=true) ty isSubtype_stop (wpAny_pure (q h3 k2))))
 | slots hb hd hf hv=>
  subst hf hv
  show wpAny _ _ (setNext v ((if es.size=0 then 0 else P.getD (es.size-1) 0+1:Nat):Int).toNat (es.size:Int).toNat (ep:Int).toNat >>= _) _ _ _
  unfold setNext
  refine wpAny_bind (wpAny_bind (wpAny_setState_of S.get rfl S.fits ?_))
  dsimp only
  refine wpAny_bind (zbj ?_)
  rw [hb,if_neg (by decide),Int.toNat_natCast]
  refine wpAny_ite_split (λhab=>?_) (λ_=>?_)
  ·exfalso
   have hab':(!t.plain&&decide (es.size>1))=true:=hab
   simp only [Bool.and_eq_true,Bool.not_eq_true',decide_eq_true_eq] at hab'
   rcases hd with z | z
   ·rw [z] at hab';exact absurd hab'.1 (by decide)
   ·omega
  ·refine wpAny_bind (m:=_) ?_
   have hl:t.led=true:=by rw [S.led,hb];rfl
   show wpAny _ _ (if (!t.led&&!es.isEmpty)=true then _ else _) _ _ _
   rw [if_neg (by rw [hl];simp)]
   refine wpAny_pure (wpAny_pure ?_)
   have eb:SetTable.below t.place (if es.size=0 then 0 else P.getD (es.size-1) 0+1)=es.size:=by
    rw [S.tab.arr]
    exact zjb S.tab.ok (by rw [S.len,<-S.size];exact Nat.le_refl _)
   have e1:es[es.size]?=none:=by simp
   try dsimp only
   rw [eb,e1]
   dsimp only
   exact wpAny_bind (wpAny_setField_rec hit (by simp) λh1 he1 hs1=>zgH (s:=s) hh hs1 λh3 x k2 ty=>wpAny_bind (wpAny_isInstance (b:=true) ty isSubtype_stop (wpAny_pure (q h3 k2))))
end
end IT
set_option linter.all false
set_option maxHeartbeats 4000000
set_option maxRecDepth 100000
namespace IT
open PySem PyProof.Rows
section
variable {prog:Program} {w:World} {A:Around} {E:Value->Shared->Prop} {s:Shared} {I v:Addr} {rs:List (D×Addr)} {es:Array (Int×Value)} {ep:Nat} {t:SetTable} {P:List Nat}
theorem ziX (l:List (Int×Value)):((List.range l.length).map λj=>l.getD j (0,.none))=l:=by
 refine List.ext_getElem (by simp) λi h1 h2=>?_
 simp [h2]
theorem zmb {Q:Value->Shared->Prop} (S:zaI w s.heap v rs es ep t P)
  (q:∀ h' d fs vs,h'.get? (h'.objs.size-1)=some (sitO (fs 0) 0 v es.size ep)->(∀ b o,s.heap.get? b=some o->h'.get? b=some o)->s.heap.objs.size<=h'.objs.size-1->Mode w v es ep t P fs vs h'->vs.Perm es.toList->Q (.ref (h'.objs.size-1)) { s with heap:=h',drawn:=d }):wpAny (model prog w) A (pyIter (.ref v)) Q E s:=by
 have hT:s.TypeIs (.ref v) "set":=⟨_,S.get,rfl⟩
 have hz:=S.size
 have h4:=S.le4
 refine wpAny_pyIter_slot hT F.slot_set_iter (wpAny_call_entry F.slot_set_iter hT zfa ?_ (F.args_set_iter_1 _))
 show wpAny _ _ (Builtin.Frozenset.sizeOf v >>= _) _ _ _
 unfold Builtin.Frozenset.sizeOf
 refine wpAny_bind (wpAny_bind (wpAny_setEntries_of S.get rfl S.fits (wpAny_pure ?_)))
 unfold setDrawn
 refine wpAny_bind (wpAny_bind (wpAny_setState_of S.get rfl S.fits ?_))
 dsimp only
 refine wpAny_bind (zbj (wpAny_pure ?_))
 have fin:∀ (h1:Heap) (d:Drawn) (f:Value),(∀ b o,s.heap.get? b=some o->h1.get? b=some o)->s.heap.objs.size<=h1.objs.size->(∀ fs vs,fs 0=f->(∀ h2,(∀ b o,h1.get? b=some o->h2.get? b=some o)->Mode w v es ep t P fs vs h2)->vs.Perm es.toList->True) →
   (∃ fs vs,fs 0=f/\(∀ h2,(∀ b o,h1.get? b=some o->h2.get? b=some o)->Mode w v es ep t P fs vs h2)/\vs.Perm es.toList) →
   wpAny (model prog w) A.in1 (do ret (<-newFields "set_iterator" [f,rawInt 0,.ref v,rawInt es.size,rawInt (<-setEpoch v)])) (λfl s'=>∃ a,fl=.done (.ret a)/\∃ T r,s'.TypeIs a T/\typeLookup (.type T) (Str.ofString "__next__")=pure (some r)/\Q a s') E { s with heap:=h1,drawn:=d }:=by
  intro h1 d f k1 sz1 _ ⟨fs,vs,e0,hm,hp⟩
  refine wpAny_bind (wpAny_setEpoch_of (s:={ s with heap:=h1,drawn:=d }) (k1 _ _ S.get) rfl S.fits ?_)
  refine wpAny_bind (wpAny_newObj_type (wpAny_pure ⟨_,rfl,"set_iterator",_,⟨_,Heap.get?_push_size _ rfl,rfl⟩,zaT.lookup,?_⟩) (by size_fits))
  have e1:(h1.push (sitO f 0 v es.size ep)).objs.size-1=h1.objs.size:=by rw [Heap.size_push];rfl
  have:=q (h1.push (sitO f 0 v es.size ep)) d fs vs (by rw [e1,e0];exact Heap.get?_push_size _ rfl) (λb o e=>Heap.get?_push_of_some _ (k1 b o e)) (by rw [e1];exact sz1) (hm _ λb o e=>Heap.get?_push_of_some _ e) hp
  rw [e1] at this
  exact this
 by_cases hb:byTx w=true
 ·have e0:(!byTx w&&(!t.plain&&decide (es.size>1)))=false:=by rw [hb];rfl
  show wpAny _ _ (if (!byTx w&&(!t.plain&&decide (es.size>1)))=true then _ else _) _ _ _
  rw [e0]
  simp only [Bool.false_eq_true,if_false]
  refine wpAny_bind (wpAny_pure ?_)
  exact fin s.heap s.drawn (rawInt 0) (λ_ _ e=>e) (Nat.le_refl _) (λ_ _ _ _ _=>trivial) ⟨λ_=>rawInt 0,_,rfl,λh2 _=>.text hb rfl rfl,by have:=zfX (w.params.setOrder v ep) es.size 0 es.toList #[] (by simp);rw [List.nil_append] at this;exact this⟩
 ·have hb':byTx w=false:=by simpa using hb
  by_cases hd:(!t.plain&&decide (es.size>1))=true
  ·have e0:(!byTx w&&(!t.plain&&decide (es.size>1)))=true:=by rw [hb',hd];rfl
   show wpAny _ _ (if (!byTx w&&(!t.plain&&decide (es.size>1)))=true then _ else _) _ _ _
   rw [e0]
   simp only [if_true]
   refine wpAny_bind (zie es.size (List.range es.size) s _ (by simp) λys d hp=>?_)
   refine wpAny_bind (wpAny_newTuple ?_ (by rw [List.length_map,hp.length_eq,List.length_range,sizeLine_eq];omega))
   refine fin (s.heap.push { cls:=.type "tuple",data:=.seq (ys.map λi:Nat=>rawInt (i:Int)).toArray 0 }) d (.ref s.heap.objs.size) (λb o e=>Heap.get?_push_of_some _ e) (by rw [Heap.size_push];exact Nat.le_succ _) (λ_ _ _ _ _=>trivial) ⟨λ_=>.ref s.heap.objs.size,ys.map λj=>es.toList.getD j (0,.none),rfl,λh2 k2=>.drawn s.heap.objs.size ys rfl (k2 _ _ (Heap.get?_push_size _ rfl)) (by rw [hp.length_eq,List.length_range]) λi j e=>?_,?_⟩
   ·have hj:j<es.toList.length:=by
     have:=(hp.mem_iff).mp (List.mem_of_getElem? e)
     simpa using this
    refine ⟨es.toList[j],by rw [<-Array.getElem?_toList];exact List.getElem?_eq_getElem hj,?_⟩
    rw [List.getElem?_map,e]
    simp only [Option.map_some,List.getD_eq_getElem?_getD,List.getElem?_eq_getElem hj,Option.getD_some]
   ·have:=(hp.map λj=>es.toList.getD j (0,Value.none))
    rw [<-Array.length_toList,ziX] at this
    exact this
  ·have e0:(!byTx w&&(!t.plain&&decide (es.size>1)))=false:=by rw [hb'];simpa using hd
   show wpAny _ _ (if (!byTx w&&(!t.plain&&decide (es.size>1)))=true then _ else _) _ _ _
   rw [e0]
   simp only [Bool.false_eq_true,if_false]
   refine wpAny_bind (wpAny_pure ?_)
   refine fin s.heap s.drawn (rawInt 0) (λ_ _ e=>e) (Nat.le_refl _) (λ_ _ _ _ _=>trivial) ⟨λi=>rawInt ((if i=0 then 0 else P.getD (i-1) 0+1:Nat):Int),es.toList,rfl,λh2 _=>.slots hb' ?_ rfl rfl,List.Perm.refl _⟩
   simp only [Bool.and_eq_true,Bool.not_eq_true',decide_eq_true_eq,not_and] at hd
   by_cases hpn:t.plain=true
   ·exact .inl hpn
   ·exact .inr (Nat.le_of_not_lt (hd (by simpa using hpn)))
theorem zmA {R:Result->Shared->Prop} {L:Addr} {res:Value} {fs:Nat->Value} {vs:List (Int×Value)} (hh:A.handled=none) (hLI:L≠I) (hLv:L≠v) (hvI:v≠I) (hl:vs.length=es.size) :
  ∀ (k i:Nat) (s:Shared) (acc:Array Value) (c:Nat),es.size-i=k->i<=es.size->zaI w s.heap v rs es ep t P->Mode w v es ep t P fs vs s.heap->s.heap.get? I=some (sitO (fs i) i v es.size ep)->s.heap.get? L=some { cls:=.type "list",dict:=none,data:=.seq acc c,slots:=#[] }->acc.toList=(vs.take i).map (·.2) →
  (∀ h' acc' c',(∀ b o,b≠L->b≠I->s.heap.get? b=some o->h'.get? b=some o)->h'.get? L=some { cls:=.type "list",dict:=none,data:=.seq acc' c',slots:=#[] }->acc'.toList=vs.map (·.2)->R (.ok (.ret res)) { s with heap:=h' }) →
  codeAny (model prog w) A (.builtin "list.extend.loop" ⟨[.ref L,.ref I,res],[]⟩) R s:=by
 intro k
 induction k with
 | zero=>
  intro i s acc c hk hi S m hit hL hacc hR
  have hin:i=es.size:=by omega
  subst hin
  refine codeAny_builtin F.entry_extend_loop ?_
  rw [Around.under_plainId F.plain_extend_loop _];show wpAny _ A.in1 (pyNext (.ref I) >>= _) _ _ s
  exact wpAny_bind (zon (A:=A.in1) hh S m hl hit λh' he=>wpAny_pure (hR h' acc c (λb o _ hb e=>he b o hb e) (he L _ hLI hL) (by rw [hacc,List.take_of_length_le (by omega)])))
 | succ k ih=>
  intro i s acc c hk hi S m hit hL hacc hR
  have hlt:i<es.size:=by omega
  have hiv:i<vs.length:=by omega
  refine codeAny_builtin F.entry_extend_loop ?_
  rw [Around.under_plainId F.plain_extend_loop _];show wpAny _ A.in1 (pyNext (.ref I) >>= _) _ _ s
  refine wpAny_bind (zmW (A:=A.in1) S m hit hlt (List.getElem?_eq_getElem hiv) λh1 hit1 hs1=>?_)
  have hL1:=hs1.extBut L _ hLI hL
  have sz:acc.size=i:=by rw [<-Array.length_toList,hacc,List.length_map,List.length_take];omega
  have h4:=S.le4
  have hz:=S.size
  show wpAny _ A.in1 (updateSeq L (·.push (vs[i]).2) >>= _) _ _ _
  refine wpAny_bind (wpAny_updateSeq hL1 rfl (wpAny_pure ⟨plainId_quiet F.plain_extend_loop _,?_⟩) (by rw [sz,sizeLine_eq];omega) (by show (acc.push _).size<=sizeLine+1;rw [Array.size_push,sz,sizeLine_eq];omega))
  have oth:∀ b o,b≠L->h1.get? b=some o->(h1.update L (Obj.mapSeq (·.push (vs[i]).2))).get? b=some o:=λb o hb e=>(Heap.get?_update_other _ _ (Ne.symm hb)).trans e
  have kIL:∀ b its,s.heap.IsTuple b its->(h1.update L (Obj.mapSeq (·.push (vs[i]).2))).IsTuple b its:=λb its ⟨o,e,cc,r⟩=>by
   have n1:b≠I:=λz=>by subst z;rw [hit] at e;cases e;injection cc with z;exact absurd z (by decide)
   have n2:b≠L:=λz=>by subst z;rw [hL] at e;cases e;injection cc with z;exact absurd z (by decide)
   exact ⟨o,oth b o n2 (hs1.extBut b o n1 e),cc,r⟩
  have m1:Mode w v es ep t P fs vs h1:=m.keep (b:=I) (λc o hc e=>hs1.extBut c o hc e) λo e z=>by rw [hit] at e;cases e;injection z with z;exact absurd z (by decide)
  refine ih (i+1) _ (acc.push (vs[i]).2) _ (by omega) hlt (S.mono (λo e=>oth v o (Ne.symm hLv) (hs1.extBut v o hvI e)) kIL) (m1.keep (b:=L) oth λo e z=>?_) (oth I _ (Ne.symm hLI) hit1) (Heap.get?_update_self _ hL1 rfl) ?_ λh' acc' c' hk' hL' hacc'=>?_
  ·rw [hL1] at e;cases e;injection z with z;exact absurd z (by decide)
  ·rw [Array.toList_push,hacc,List.take_succ_eq_append_getElem hiv,List.map_append];rfl
  ·exact hR h' acc' c' (λb o h1' h2' e=>hk' b o h1' h2' (oth b o h1' (hs1.extBut b o h2' e))) hL' hacc'
theorem zh6:isSubtype (.type "set") (.type "set")=pure true:=by rw [isSubtype_type];kernel_rfl
theorem zli {prog:Program} {w:World} {A:Around} {E:Value->Shared->Prop} {s:Shared} {d:Addr} {Q:Bool->Shared->Prop} (hT:s.TypeIs (.ref d) "set") (q:Q false s):wpAny (model prog w) A (Builtin.List.listLengthHint (.ref d)) Q E s:=by
 unfold Builtin.List.listLengthHint
 generalize hi : "set.__len__"=id
 have e:splitId id=some ("set", "__len__"):=by subst hi;decide +kernel
 refine wpAny_bind (wpAny_specialOf hT (hi▸F.slot_set_len.lookup) ?_)
 wp_delta
 rw [e]
 subst hi
 refine wpAny_bind (wpAny_isInstance hT zh6 (wpAny_ite_split (λz=>absurd z (by decide)) λ_=>wpAny_ite_split (λ_=>wpAny_bind (wpAny_typeOf hT (wpAny_pure q))) λz=>absurd (by decide +kernel) z))
theorem zgf {Q:List Value->Shared->Prop} (hh:A.handled=none) (S:zaI w s.heap v rs es ep t P)
  (q:∀ (h':Heap) (d:Drawn) (vs:List (Int×Value)),(∀ b o,s.heap.get? b=some o->h'.get? b=some o)->s.heap.objs.size<=h'.objs.size->vs.Perm es.toList->Q (vs.map (·.2)) { s with heap:=h',drawn:=d }):wpAny (model prog w) A (collect (.ref v)) Q E s:=by
 have vlt:v<s.heap.objs.size:=Heap.lt_size S.get
 unfold collect
 refine wpAny_bind (wpAny_runValue (codeAny_builtin entry_proto_collect' ?_))
 show wpAny _ _ (do again (.builtin "list.__iadd__" ⟨[<-newList [],.ref v],[]⟩)) _ _ s
 refine wpAny_bind (wpAny_newList (wpAny_pure ⟨Code.quiet_builtin _ (by decide +kernel),codeAny_builtin entry_list_iadd' ?_⟩))
 have hS:(s.heap.push (seqObj "list" #[] 0)).get? s.heap.objs.size=some { cls:=.type "list",data:=.seq #[] }:=Heap.get?_push_size _ rfl
 show wpAny _ _ (Builtin.List.listExtendWith (.ref s.heap.objs.size) (.ref v) (.ref s.heap.objs.size)) _ _ { s with heap:=s.heap.push (seqObj "list" #[] 0) }
 have S1:zaI w (s.heap.push (seqObj "list" #[] 0)) v rs es ep t P:=S.mono (λo e=>Heap.get?_push_of_some _ e) λb its ⟨o,e,r⟩=>⟨o,Heap.get?_push_of_some _ e,r⟩
 have sz0:(s.heap.push (seqObj "list" #[] 0)).objs.size=s.heap.objs.size+1:=Heap.size_push ..
 have kp:∀ b o,s.heap.get? b=some o->(s.heap.push (seqObj "list" #[] 0)).get? b=some o:=λb o e=>Heap.get?_push_of_some _ e
 generalize s.heap.push (seqObj "list" #[] 0)=h1 at hS S1 sz0 kp ⊢
 have hT:({ s with heap:=h1 }:Shared).TypeIs (.ref v) "set":=⟨_,S1.get,rfl⟩
 unfold Builtin.List.listExtendWith
 refine wpAny_bind (wpAny_typeOf hT ?_)
 have e1:Builtin.List.listSameRef (.ref s.heap.objs.size) (.ref v)=false:=by simp [Builtin.List.listSameRef,Nat.ne_of_gt vlt]
 have n1:(Value.type "set"==Value.type "list")=false:=by decide
 have n2:(Value.type "set"==Value.type "tuple")=false:=by decide
 simp only [e1,n1,n2,Bool.or_false,Bool.false_eq_true,if_false]
 refine wpAny_bind (zmb (s:={ s with heap:=h1 }) S1 λh2 d fs vs hit k2 hI m hp=>?_)
 have hI':s.heap.objs.size+1<=h2.objs.size-1:=by rw [<-sz0];exact hI
 have hT1:({ s with heap:=h2,drawn:=d }:Shared).TypeIs (.ref v) "set":=⟨_,k2 _ _ S1.get,rfl⟩
 refine wpAny_bind (wpAny_holding (zli hT1 ?_))
 have hS1:=k2 _ _ hS
 have S2:zaI w h2 v rs es ep t P:=S1.mono (λo e=>k2 v o e) λb its ⟨o,e,r⟩=>⟨o,k2 b o e,r⟩
 generalize hIe:h2.objs.size-1=I at hit hI' ⊢
 show wpAny _ _ (if (_||_)=true then _ else _) _ _ _
 refine wpAny_ite_split (λ_=>?_) (λhab=>absurd (by decide) hab)
 refine wpAny_bind (wpAny_rule (wpAny_bind ?_))
 show wpAny _ _ (updateSeq s.heap.objs.size (·.push .none) >>= λ_=>updateSeq s.heap.objs.size (·.pop)) _ _ _
 refine wpAny_bind (wpAny_updateSeq hS1 rfl ?_)
 have hS2:=Heap.get?_update_self (Obj.mapSeq (·.push Value.none)) hS1 rfl
 refine wpAny_updateSeq (hz:=by seq_fits) hS2 rfl ?_
 have hS3:=Heap.get?_update_self (Obj.mapSeq (·.pop)) hS2 rfl
 have oth:∀ b o,b≠s.heap.objs.size->h2.get? b=some o->((h2.update s.heap.objs.size (Obj.mapSeq (·.push Value.none))).update s.heap.objs.size (Obj.mapSeq (·.pop))).get? b=some o:=λb o hb e=>
  (Heap.get?_update_other _ _ (Ne.symm hb)).trans ((Heap.get?_update_other _ _ (Ne.symm hb)).trans e)
 have notT:∀ b its,h2.IsTuple b its->b≠s.heap.objs.size:=λb its ⟨o,e,cc,_⟩ z=>by
  subst z
  rw [hS1] at e;cases e;injection cc with z;exact absurd z (by decide)
 refine wpAny_pure ⟨plainId_quiet F.plain_extend_loop _,?_⟩
 refine zmA (I:=I) (v:=v) hh (Nat.ne_of_lt hI') (Nat.ne_of_gt vlt) (Nat.ne_of_lt (Nat.lt_trans vlt hI')) (by rw [hp.length_eq,Array.length_toList]) es.size 0 _ #[] _ (by omega) (Nat.zero_le _) (S2.mono (λo e=>oth v o (Nat.ne_of_lt vlt) e) λb its tt=>?_) (m.keep (b:=s.heap.objs.size) oth λo e z=>?_) (oth I _ (Nat.ne_of_gt hI') hit) hS3 (by simp) λh' acc c' hk hL' hacc=>?_
 ·have:=notT b its tt
  obtain ⟨o,e,r⟩:=tt
  exact ⟨o,oth b o this e,r⟩
 ·rw [hS1] at e;cases e;injection z with z;exact absurd z (by decide)
 ·show wpAny (model prog w) A (do
   let o<-load s.heap.objs.size
   match o.data with
   | .seq xs _=>pure xs.toList
   | _=>unsupported "internal:collect") _ _ _
  refine wpAny_bind (wpAny_load hL' ?_)
  have key:=q h' d vs (λb o e=>hk b o (Nat.ne_of_lt (Heap.lt_size e)) (Nat.ne_of_lt (Nat.lt_trans (Heap.lt_size e) hI')) (oth b o (Nat.ne_of_lt (Heap.lt_size e)) (k2 b o (kp b o e)))) (Nat.le_of_lt (Heap.lt_size hL')) hp
  rw [<-hacc] at key
  exact wpAny_pure key
end
end IT
set_option linter.all false
set_option maxHeartbeats 4000000
set_option maxRecDepth 100000
namespace IT
open PySem PySem.Spec L2
theorem zdR (x:D):∀ l:List D,(insD x l).Perm (x::l)
 | []=>List.Perm.refl _
 | y::r=>by
  simp only [insD]
  split
  ·exact (List.Perm.cons y (zdR x r)).trans (List.Perm.swap x y r)
  ·exact List.Perm.refl _
theorem zbn:∀ l:List D,(zdc l).Perm l
 | []=>List.Perm.refl _
 | x::r=>(zdR x (zdc r)).trans (List.Perm.cons x (zbn r))
theorem zg6 {f:D->Nat} (x:D):∀ l:List D,(∀ y∈l,ltT y x=decide (f y<f x))->(∀ y∈l,f y≠f x)->l.Pairwise (λa b=>f a<f b)->(insD x l).Pairwise (λa b=>f a<f b)
 | [],_,_,_=>by simp [insD]
 | y::r,h,hn,hp=>by
  rw [List.pairwise_cons] at hp
  simp only [insD]
  rw [h y List.mem_cons_self]
  have ny:=hn y List.mem_cons_self
  by_cases e:f y<f x
  ·rw [decide_eq_true e,if_pos rfl,List.pairwise_cons]
   refine ⟨λz hz=>?_,zg6 x r (λz hz=>h z (List.mem_cons_of_mem _ hz)) (λz hz=>hn z (List.mem_cons_of_mem _ hz)) hp.2⟩
   rcases List.mem_cons.mp ((zdR x r).mem_iff.mp hz) with rfl | hz
   ·exact e
   ·exact hp.1 z hz
  ·rw [decide_eq_false e,if_neg Bool.false_ne_true,List.pairwise_cons,List.pairwise_cons]
   refine ⟨λz hz=>?_,hp⟩
   rcases List.mem_cons.mp hz with rfl | hz
   ·omega
   ·have:=hp.1 z hz;omega
theorem zdY {f:D->Nat}:∀ l:List D,(∀ y∈l,∀ x∈l,ltT y x=decide (f y<f x))->l.Pairwise (λa b=>f a≠f b)->(zdc l).Pairwise (λa b=>f a<f b)
 | [],_,_=>List.Pairwise.nil
 | x::r,h,hn=>by
  rw [List.pairwise_cons] at hn
  refine zg6 x (zdc r) (λy hy=>h y (List.mem_cons_of_mem _ ((zbn r).mem_iff.mp hy)) x List.mem_cons_self) (λy hy=>Ne.symm (hn.1 y ((zbn r).mem_iff.mp hy))) (zdY r (λy hy z hz=>h y (List.mem_cons_of_mem _ hy) z (List.mem_cons_of_mem _ hz)) hn.2)
theorem zg2 {f:D->Nat}:∀ {l m:List D},l.Perm m->l.Pairwise (λa b=>f a<f b)->m.Pairwise (λa b=>f a<f b)->l=m
 | [],m,p,_,_=>(List.Perm.nil_eq p)
 | x::l,[],p,_,_=>by simp at p
 | x :: l,y::m,p,h1,h2=>by
  rw [List.pairwise_cons] at h1 h2
  have e:x=y:=by
   rcases List.mem_cons.mp (p.mem_iff.mp List.mem_cons_self) with e | hx
   ·exact e
   ·rcases List.mem_cons.mp (p.mem_iff.mpr List.mem_cons_self) with e | hy
    ·exact e.symm
    ·have:=h1.1 y hy
     have:=h2.1 x hx
     omega
  subst e
  rw [zg2 (List.Perm.cons_inv p) h1.2 h2.2]
theorem zfb:∀ {l:List D},apart l=true↔l.Nodup
 | []=>by simp [apart]
 | x::r=>by
  simp only [apart,Bool.and_eq_true,List.nodup_cons,List.all_eq_true,zfb (l:=r)]
  refine ⟨λh=>⟨λhx=>?_,h.2⟩,λh=>⟨λy hy=>?_,h.2⟩⟩
  ·have:=h.1 x hx
   rw [D.same_refl] at this
   cases this
  ·rw [zcx (x:=x) (y:=y) λe=>h.1 (by rw [e];exact hy)];rfl
theorem zhE {xs ys zs:List D} (p:ys.Perm xs) (h:zch xs=some zs):zch ys=some zs:=by
 unfold zch at h ⊢
 split at h
 ·rename_i hc
  simp only [Option.some.injEq] at h
  simp only [Bool.and_eq_true,Bool.or_eq_true,List.all_eq_true,decide_eq_true_eq,beq_iff_eq] at hc
  obtain ⟨⟨⟨⟨h4,hk⟩,ha⟩,hr⟩,hf⟩:=hc
  have er:∀ x,rnk ys x=rnk xs x:=λx=>p.countP_eq _
  have hr':=hr
  unfold rkOk at hr'
  simp only [List.all_eq_true,Bool.and_eq_true,beq_iff_eq] at hr'
  have hrk:rkOk ys=true:=by
   unfold rkOk
   simp only [List.all_eq_true,Bool.and_eq_true,beq_iff_eq,er]
   exact λx hx y hy=>hr' x (p.mem_iff.mp hx) y (p.mem_iff.mp hy)
  have hlt:∀ x∈xs,∀ y∈xs,ltT x y=decide (rnk xs x<rnk xs y):=λx hx y hy=>(hr' x hx y hy).2
  have hne:∀ l:List D,l.Nodup->(∀ x∈l,x∈xs)->l.Pairwise (λa b=>rnk xs a≠rnk xs b):=λl hn hs=>by
   induction l with
   | nil=>exact List.Pairwise.nil
   | cons x r ih=>
    rw [List.nodup_cons] at hn
    refine List.pairwise_cons.mpr ⟨λy hy e=>?_,ih hn.2 λz hz=>hs z (List.mem_cons_of_mem _ hz)⟩
    have hx:=hs x List.mem_cons_self
    have hy':=hs y (List.mem_cons_of_mem _ hy)
    obtain ⟨t1,e1⟩:=Option.isSome_iff_exists.mp (hr' x hx y hy').1
    obtain ⟨t2,e2⟩:=Option.isSome_iff_exists.mp (hr' y hy' x hx).1
    have f1:=(hr' x hx y hy').2
    have f2:=(hr' y hy' x hx).2
    simp only [ltT,e1,e2,e,Nat.lt_irrefl,decide_false] at f1 f2
    subst f1 f2
    exact hn.1 (zj8 x y e1 e2▸hy)
  have nx:=zfb.mp ha
  have ny:ys.Nodup:=p.nodup_iff.mpr nx
  have es:zdc ys=zdc xs:=zg2 (f:=rnk xs) ((zbn ys).trans (p.trans (zbn xs).symm)) (zdY ys (λx hx y hy=>hlt x (p.mem_iff.mp hx) y (p.mem_iff.mp hy)) (hne ys ny λx hx=>p.mem_iff.mp hx)) (zdY xs hlt (hne xs nx λ_ h=>h))
  rw [if_pos,es,h]
  simp only [Bool.and_eq_true,Bool.or_eq_true,List.all_eq_true,decide_eq_true_eq,beq_iff_eq]
  refine ⟨⟨⟨⟨by rw [p.length_eq];exact h4,λx hx=>hk x (p.mem_iff.mp hx)⟩,zfb.mpr ny⟩,hrk⟩,hf.imp (λg x hx=>g x (p.mem_iff.mp hx)) λg x hx=>g x (p.mem_iff.mp hx)⟩
 ·cases h
theorem ze9 {x:D}:∀ {l:List D},x∈once l↔x∈l
 | []=>by simp [once]
 | y :: r=>by
  simp only [once,List.mem_cons,List.mem_filter,ze9 (l:=r)]
  constructor
  ·rintro (h | h)
   ·exact .inl h
   ·exact .inr h.1
  ·rintro (h | h)
   ·exact .inl h
   ·by_cases e:x=y
    ·exact .inl e
    ·exact .inr ⟨h,by rw [zcx (Ne.symm e)];rfl⟩
theorem zik:∀ l:List D,(once l).Nodup
 | []=>List.nodup_nil
 | y::r=>by
  rw [once,List.nodup_cons]
  refine ⟨λh=>?_,(zik r).filter _⟩
  have:=(List.mem_filter.mp h).2
  rw [D.same_refl] at this
  cases this
theorem zin:∀ {l m:List D},l.Nodup->m.Nodup->(∀ x,x∈l↔x∈m)->l.Perm m
 | [],m,_,_,h=>by
  cases m with
  | nil=>exact List.Perm.refl _
  | cons y m=>exact absurd ((h y).mpr List.mem_cons_self) (by simp)
 | x::l,m,n1,n2,h=>by
  rw [List.nodup_cons] at n1
  have hx:=(h x).mp List.mem_cons_self
  refine (List.Perm.cons x (zin n1.2 (n2.erase x) λy=>?_)).trans (List.perm_cons_erase hx).symm
  rw [n2.mem_erase_iff]
  constructor
  ·exact λhy=>⟨λe=>n1.1 (e▸hy),(h y).mp (List.mem_cons_of_mem _ hy)⟩
  ·rintro ⟨hne,hy⟩
   rcases List.mem_cons.mp ((h y).mpr hy) with e | hy
   ·exact absurd e hne
   ·exact hy
theorem zkQ {α β:Type} {f:α->β}:∀ {l m:List β},l.Perm m->∀ rs:List α,m=rs.map f->∃ rs':List α,rs'.Perm rs/\l=rs'.map f:=by
 intro l m p
 induction p with
 | nil=>
  intro rs e
  exact ⟨rs,List.Perm.refl _,e⟩
 | cons x p ih=>
  intro rs e
  cases rs with
  | nil=>cases e
  | cons r rs=>
   simp only [List.map_cons,List.cons.injEq] at e
   obtain ⟨rs',h1,h2⟩:=ih rs e.2
   exact ⟨r::rs',List.Perm.cons r h1,by rw [List.map_cons,e.1,h2]⟩
 | swap x y l=>
  intro rs e
  match rs,e with
  | [],e=>cases e
  | [_],e=>simp at e
  | r1::r2::rs,e=>
   simp only [List.map_cons,List.cons.injEq] at e
   exact ⟨r2::r1::rs,List.Perm.swap _ _ _,by simp only [List.map_cons,e.1,e.2.1,e.2.2]⟩
 | trans p1 p2 ih1 ih2=>
  intro rs e
  obtain ⟨rs1,h1,h2⟩:=ih2 rs e
  obtain ⟨rs2,h3,h4⟩:=ih1 rs1 h2
  exact ⟨rs2,h3.trans h1,h4⟩
structure SetF (w:World) (rs:List (D×Addr)) (es:Array (Int×Value)) (t:SetTable) (P:List Nat):Prop where
 tab:zd3 t P
 len:P.length=rs.length
 led:t.led=!byTx w
 ents:es.toList=rs.map λr=>(zah w r.1,Value.ref r.2)
 nd:(rs.map (·.1)).Nodup
 way:∀ z∈P.zip rs,∃ k,(pth (zah w z.2.1) k).1=z.1/\∀ k',k'<k->(pth (zah w z.2.1) k').1∈P
noncomputable abbrev zhC (es:Array (Int×Value)) (ep:Nat) (t:SetTable):Obj:={ cls:=.type "set",dict:=none,data:=.set es ep t,slots:=#[] }
noncomputable def setO (v:Addr) (o:Obj):HO:=.ext λh=>h.get? v=some o
theorem ziJ {X:Cx} {pins:List (Addr×Obj)} {σ:St} {H:Hp} {s:Shared} (I:Inv X pins σ H s) (d:Drawn):Inv X pins σ H { s with drawn:=d }:=
 ⟨I.ok,I.os,I.bare,I.base,I.loc,I.cell,I.free,I.freeC,I.pin,I.hok,I.len⟩
theorem zgc {K:PySem.W.Frag} {A0:Addr->Prop} {H:Hp}:∀ {xs:List D} {ws:List V},RepDs K A0 H xs ws->(∀ x∈xs,zai x=true)->∃ vals:List (D×Addr),vals.map (·.1)=xs/\ws=vals.map (λr=>V.ref r.2)/\∀ r∈vals,zai r.1=true/\RepD K A0 H r.1 (.ref r.2)
 | [],ws,q,_=>by
  simp only [RepDs] at q
  subst q
  exact ⟨[],rfl,rfl,λr hr=>nomatch hr⟩
 | x::xs,ws,q,h=>by
  simp only [RepDs] at q
  obtain ⟨v,r,rfl,q1,q2⟩:=q
  obtain ⟨vals,e1,e2,e3⟩:=zgc q2 λy hy=>h y (List.mem_cons_of_mem _ hy)
  have hx:=h x List.mem_cons_self
  have hb:∃ b,v=.ref b:=by
   cases x with
   | tup ys=>simp only [RepD] at q1;obtain ⟨b,_,e,_⟩:=q1;exact ⟨b,e⟩
   | _=>cases hx
  obtain ⟨b,rfl⟩:=hb
  refine ⟨(x,b)::vals,by rw [List.map_cons,e1],by rw [List.map_cons,e2],λr hr=>?_⟩
  rcases List.mem_cons.mp hr with rfl | hr
  ·exact ⟨hx,q1⟩
  ·exact e3 r hr
theorem zjZ:∀ {vals:List (D×Addr)} {us:List Value},Vals (vals.map λr=>V.ref r.2) us->us=vals.map λr=>Value.ref r.2
 | [],us,q=>by cases q;rfl
 | r::vals,us,q=>by
  cases q with
  | cons h t=>
   cases h
   rw [List.map_cons,zjZ t]
section
variable {X:Cx}
theorem zfI (hc:X.calm=true) (hu:X.A.units+64<cLine):zb7 X (.type "set") (λus H Q=>∃ (A0:Addr->Prop) (l:Addr) (ws:List V) (xs:List D),us=[.ref l]/\SqL X.K H l ws/\RepDs X.K A0 H xs ws/\(∀ x∈xs,zai x=true)/\(once xs).length<=4 ∧
  ∀ (v:Addr) (rs:List (D×Addr)) (es:Array (Int×Value)) (ep:Nat) (t:SetTable) (P:List Nat),SetF X.w rs es t P->(∀ y,y∈rs.map (·.1)↔y∈xs)->(∀ r∈rs,zai r.1=true/\RepD X.K A0 H r.1 (.ref r.2))->H v=none->Q (.ref v) (upd H v (setO v (zhC es ep t)))):=by
 intro pins s σ H us vs Q I rv q
 obtain ⟨A0,l,ws,xs,rfl,hq,zs,hk,h4,k⟩:=q
 obtain ⟨u,rfl,ru⟩:=rv.one
 cases ru
 obtain ⟨its,rv,pl,hz⟩:=I.list hq
 obtain ⟨vals,e1,rfl,e3⟩:=zgc zs hk
 have eu:=zjZ rv
 have SA:=zay I
 refine zfj (vals:=vals) (mx:=once xs) (I.ok.hd hc) (by omega) pl.isList (by simpa using eu) (λr hr=>⟨(e3 r hr).1,zdO SA r.1 (.ref r.2) (.ref r.2) (zb0 (e3 r hr).1).1 (e3 r hr).2 rfl⟩) h4 (λr hr=>ze9.mpr (by rw [<-e1];exact List.mem_map.mpr ⟨r,hr,rfl⟩)) λh' tk rs es ep t P S g2 g3 g4=>?_
 refine ⟨.ref s.heap.objs.size,upd H s.heap.objs.size (setO s.heap.objs.size (zhC es ep t)),I.laid (t':=tk) g4 (Nat.le_refl _) ⟨S.get,⟨_,S.get⟩,λh1 h2 e kp=>kp _ e⟩,rfl,k _ rs es ep t P ⟨S.tab,S.len,S.led,S.ents,S.nd,S.way⟩ (λy=>by rw [g2 y,e1]) (λr hr=>e3 r (g3 r hr)) I.fresh⟩
theorem zdK (hc:X.calm=true) (hu:X.A.units+64<cLine):zb7 X (.builtin "sorted") (λus H Q=>∃ (μ:List Addr) (h:Sto) (v:Addr) (rs:List (D×Addr)) (es:Array (Int×Value)) (ep:Nat) (t:SetTable) (P:List Nat) (xs zs:List D),us=[.ref v]/\H v=some (setO v (zhC es ep t))/\SetF X.w rs es t P/\(∀ y,y∈rs.map (·.1)↔y∈xs) ∧
  (∀ r∈rs,zai r.1=true/\RepD X.K (Live μ h) H r.1 (.ref r.2))/\zch (once xs)=some zs/\∀ p ws,RepDs X.K (Live μ h) H zs ws->H p=none->Q (.ref p) (upd H p (.lst ws))):=by
 intro pins s σ H us vs Q I rv q
 obtain ⟨μ,h,v,rs,es,ep,t,P,xs,zs,rfl,hv,F,hm,hk,hz,k⟩:=q
 obtain ⟨u,rfl,ru⟩:=rv.one
 cases ru
 have SA:=zay I
 have hget:s.heap.get? v=some (zhC es ep t):=(show zbh X.prog X.w H s.heap v (setO v (zhC es ep t)) from I.hok v _ hv).1
 have S:zaI X.w s.heap v rs es ep t P:=⟨hget,F.tab,F.len,F.led,F.ents,λr hr=>⟨(hk r hr).1,zdO SA r.1 (.ref r.2) (.ref r.2) (zb0 (hk r hr).1).1 (hk r hr).2 rfl⟩,F.nd,F.way⟩
 refine zfV (G:=λvs s'=>∃ (h':Heap) (d:Drawn) (rs':List (D×Addr)),s'={ s with heap:=h',drawn:=d }/\(∀ b o,s.heap.get? b=some o->h'.get? b=some o)/\s.heap.objs.size<=h'.objs.size/\rs'.Perm rs/\vs=rs'.map λr=>Value.ref r.2) (by omega)
  (λQ' E hQ=>zgf (A:=X.A.in1) (I.ok.hd hc) S λh' d vs0 g1 g2 g3=>hQ _ _ ?_) λvs s' ⟨h',d,rs',e1,g1,g2,g3,e2⟩=>?_
 ·rw [S.ents] at g3
  obtain ⟨rs',p1,p2⟩:=zkQ g3 rs rfl
  exact ⟨h',d,rs',rfl,g1,g2,p1,by rw [p2,List.map_map];rfl⟩
 ·subst e1
  have pm:(rs'.map (·.1)).Perm (once xs):=(g3.map _).trans (zin S.nd (zik xs) λy=>by rw [hm y,ze9])
  obtain ⟨p,Sp⟩:=zeN (zhE pm hz)
  have hk':∀ r∈rs',zai r.1=true/\RepD X.K (Live μ h) H r.1 (.ref r.2):=λr hr=>hk r (g3.mem_iff.mp hr)
  have KA:KAts h' (rs'.map (·.1)) vs:=by
   rw [e2]
   refine zge (by simp) λj x u e3 e4=>?_
   rw [List.getElem?_map,Option.map_eq_some_iff] at e3 e4
   obtain ⟨r,e5,rfl⟩:=e3
   obtain ⟨r',e6,rfl⟩:=e4
   rw [e5] at e6
   cases e6
   have hr:=List.mem_of_getElem? e5
   exact KAt.keep (λc its ⟨o,e,y⟩=>⟨o,g1 c o e,y⟩) _ _ (zdO SA r.1 (.ref r.2) (.ref r.2) (zb0 (hk' r hr).1).1 (hk' r hr).2 rfl)
  refine ⟨rs'.map (·.1),zs,p,KA,Sp,λh2 c hk2 hL=>?_⟩
  have RD:RepDs X.K (Live μ h) H (rs'.map (·.1)) (rs'.map λr=>V.ref r.2):=by
   refine zcu (by simp) λj x u e3 e4=>?_
   rw [List.getElem?_map,Option.map_eq_some_iff] at e3 e4
   obtain ⟨r,e5,rfl⟩:=e3
   obtain ⟨r',e6,rfl⟩:=e4
   rw [e5] at e6
   cases e6
   exact (hk' r (List.mem_of_getElem? e5)).2
  have V1:Vals (rs'.map λr=>V.ref r.2) vs:=by
   rw [e2]
   refine zdJ (by simp) λj x u e3 e4=>?_
   rw [List.getElem?_map,Option.map_eq_some_iff] at e3 e4
   obtain ⟨r,e5,rfl⟩:=e3
   obtain ⟨r',e6,rfl⟩:=e4
   rw [e5] at e6
   cases e6
   rfl
  refine ⟨.ref h'.objs.size,upd H h'.objs.size (.lst (p.map λi=>(rs'.map λr=>V.ref r.2).getD i .non)),ziJ (I.laid (h':=h2) (t':=s.toks) (o:=.lst (p.map λi=>(rs'.map λr=>V.ref r.2).getD i .non)) (λb o e=>hk2 b o (g1 b o e)) g2 ⟨?_,_,c,zg4 V1 (λi hi=>by have:=Sp.mem i hi;simpa using this),hL⟩) d,rfl,k _ _ (by rw [Sp.out];exact zfo RD Sp.mem) (I.hok.fresh g2)⟩
  rw [List.length_map,Sp.plen,sizeLine_eq]
  have:=Sp.len
  omega
theorem zoI {e:Expr} {p p2 pos2 pos:Pos} {f:IT.Env->M R} (hu:X.A.units+64<cLine) (hc:X.calm=true) (hg:Gl X "sorted") (hm:X.mg "sorted"=none) (hg2:Gl X "set") (hm2:X.mg "set"=none) (he:IE X e f) (hs:starEach [e] X.env=[(false,eval e X.env)])
  (hs2:starEach [.Call (.Name "set" p2) [e] [] pos2] X.env=[(false,eval (.Call (.Name "set" p2) [e] [] pos2) X.env)]) :
  IL X (.Call (.Name "sorted" p) [.Call (.Name "set" p2) [e] [] pos2] [] pos) (λσ=>bnd (f σ) λr=>bnd (rd r) λd=>opt (zc0 d)):=by
 refine PE.imp (zcj (zdK hc hu) hg hm PyProof.Rows.boot_sorted (zaY (zbR (zfI hc hu) hg2 hm2 PyProof.Rows.boot_set (zaY he zbI hs) (by decide) (by decide) hs rfl) zbI hs2) (by decide) (by decide) hs2 rfl) λσ H Q q0=>?_
 obtain ⟨μ,h,env,R0,re,zs,h',e,k⟩:=q0
 simp only [zaa,zaq] at e
 obtain ⟨r,h1,e1,d,h2,e2,e3,rfl⟩:=e
 refine ⟨μ,h,env,R0,re,r,h1,e1,λμ1 H1 v s1 R1 q1=>?_⟩
 obtain ⟨rfl,z⟩:=zbg R1 q1 e2
 cases d with
 | lst xs=>
  obtain ⟨a,vs,rfl,q,zs'⟩:=z
  simp only [zc0] at e3
  split at e3
  ·rename_i hb
   simp only [Bool.and_eq_true,List.all_eq_true] at hb
   have h4:(once xs).length<=4:=by
    obtain ⟨p,S⟩:=zeN e3
    exact S.len
   refine ⟨Live μ1 h2,a,vs,xs,rfl,q,zs',hb.2,h4,λv rs es ep t P F hmem hkey hv=>?_⟩
   have sF:=Stp.fresh (μ:=μ1) (h:=h2) (o:=setO v (zhC es ep t)) hv
   refine ⟨μ1,h2,v,rs,es,ep,t,P,xs,zs,rfl,zaj,F,hmem,λr hr=>⟨(hkey r hr).1,RepD.stp sF R1 (hkey r hr).2⟩,e3,λp ws q2 hp=>?_⟩
   exact k μ1 _ p ws (s1.trans sF) (R1.fresh hv) q2 hp
  ·cases e3
 | _=>simp [zc0] at e3
end
end IT
set_option linter.all false
set_option maxHeartbeats 4000000
set_option maxRecDepth 100000
namespace IT
open PySem PySem.Spec L2
inductive GEnt (K:PySem.W.Frag) (w:World):List (List Nat×D)->List DictEntry->Prop where
 | nil:GEnt K w [] []
 | cons {k:List Nat} {d:D} {e:DictEntry} {t:Tok} {v:V} {kvs:List (List Nat×D)} {es:List DictEntry} (h1:e.hash=hashStr w (zaB k)) (h2:e.key=.str (zaB k) t) (h3:RelV v e.val) (h4:∀ A H,RepD K A H d v) (r:GEnt K w kvs es):GEnt K w ((k,d)::kvs) (e::es)
inductive GDic (K:PySem.W.Frag) (w:World) (mg:Str->Option Value) (x:Str) (kvs:List (List Nat×D)):Prop where
 | mk (a:Addr) (o:Obj) (es:Array DictEntry) (ep:Nat) (h1:mg x=some (.ref a)) (h2:K.lookup a=some o) (h4:o.ExactDict) (h5:o.data=.dict es ep) (h6:GEnt K w kvs es.toList) (h7:(kvs.map (·.1)).Nodup)
section
variable {K:PySem.W.Frag} {w:World} {prog:Program}
theorem GEnt.keys:∀ {kvs:List (List Nat×D)} {es:List DictEntry},GEnt K w kvs es->∀ e∈es,∃ k,(strKind prog w).is k e.key=true/\e.hash=(strKind prog w).hash k
 | _,_,.nil,e,h=>nomatch h
 | _,_,.cons (k:=k) (e:=e0) h1 h2 h3 h4 r,e,h=>by
  rcases List.mem_cons.mp h with rfl | h
  ·exact ⟨zaB k,by rw [h2];exact strKind_is ..,h1⟩
  ·exact GEnt.keys r e h
theorem GEnt.pairs:∀ {kvs:List (List Nat×D)} {es:List DictEntry},GEnt K w kvs es->∃ vs:List (Str×Value),Pairs (strKind prog w) es vs/\vs.map (·.1)=kvs.map (λp=>zaB p.1)/\∀ (k:List Nat) (d:D),kvs.lookup k=some d->∃ (i:Nat) (u:Value) (v:V),vs[i]?=some (zaB k,u)/\RelV v u/\∀ A H,RepD K A H d v
 | _,_,.nil=>⟨[],.nil,rfl,λk d e=>by simp at e⟩
 | _,_,.cons (k:=k) (d:=d) (e:=e0) (v:=v) (kvs:=kvs) h1 h2 h3 h4 r=>by
  obtain ⟨vs,g1,g2,g3⟩:=GEnt.pairs r
  refine ⟨(zaB k,e0.val)::vs,.cons (by rw [h2];exact strKind_is ..) rfl g1,by rw [List.map_cons,List.map_cons,g2],λk' d' e=>?_⟩
  rw [List.lookup_cons] at e
  split at e
  ·rename_i hk
   have hk:=eq_of_beq hk
   cases e
   subst hk
   exact ⟨0,_,v,rfl,h3,h4⟩
  ·obtain ⟨i,u,v',e1,e2⟩:=g3 k' d' e
   exact ⟨i+1,u,v',by simpa using e1,e2⟩
end
section
variable {X:Cx}
theorem zpS {x:Str} {kvs:List (List Nat×D)} (g:GDic X.K X.w X.mg x kvs):∃ a,X.mg x=some (.ref a)/\IxR X (λv y H Q=>∃ k d,v=.ref a/\y=.str (zaB k)/\kvs.lookup k=some d/\∀ z,(∀ A H,RepD X.K A H d z)->Q z H):=by
 obtain ⟨a,o,es,ep,h1,h2,h4,h5,h6,h7⟩:=g
 refine ⟨a,h1,?_⟩
 intro value slice pins s σ H v y u w' Q I rx ry h hs
 obtain ⟨k,d,rfl,rfl,hl,q⟩:=h
 cases rx
 obtain ⟨t,rfl⟩:=ry
 obtain ⟨vs,g1,g2,g3⟩:=GEnt.pairs (prog:=X.prog) h6
 obtain ⟨i,u,z,e1,e2,e3⟩:=g3 k d hl
 have nd:(vs.map (·.1)).Nodup:=by
  rw [g2]
  have:kvs.map (λp=>zaB p.1)=(kvs.map (·.1)).map zaB:=by rw [List.map_map];rfl
  rw [this]
  exact znW (λa b e=>zbP e) h7
 have dd:s.heap.DictOf (strKind X.prog X.w) a vs:=⟨o,es,ep,I.kIn a o h2,h4,h5,λe he=>GEnt.keys h6 e (by simpa using he),g1,nd⟩
 have hv:=valueAt_of_get nd e1
 refine PyProof.Rows.subscriptTail_builtinR (x:=u) dd.typeIs PySem.slot_dict_getitem.lookup ?_ hs
 exact wpAny_getItem_of (strKind_is _ _ _ _) dd.mapOf hv ⟨rfl,z,H,I.tok _,e2,q z e3⟩
theorem znD {x:Str} {b:Expr} {p pos:Pos} {kvs:List (List Nat×D)} {f:IT.Env->M R} (g:GDic X.K X.w X.mg x kvs) (hg:Gl X x) (hd:(x==("__debug__":Str))=false) (hb:IE X b f) (hx:zds b) :
  IE X (.Subscript (.Name x p) b pos) (λσ=>bnd (f σ) λy=>bnd (opt (gGet kvs y)) λv=>ok (.d v)):=by
 obtain ⟨a,hm,ix⟩:=zpS g
 refine PE.imp (zmp ix (zmV (v:=.ref a) hg hm rfl hd) hb hx) λσ H Q q=>?_
 obtain ⟨μ,h,env,R0,re,r,h',e,k⟩:=q
 simp only [zaa,zab,zaq] at e
 obtain ⟨y,h1,e1,z,h2,⟨e2,rfl⟩,rfl,rfl⟩:=e
 refine ⟨μ,h,env,R0,re,y,_,e1,λμ1 H1 v s1 R1 q1=>?_⟩
 cases y with
 | loc _=>cases e2
 | d y=>
  cases y with
  | str kk=>
   simp only [RepR,RepD] at q1
   subst q1
   exact ⟨kk,z,rfl,rfl,e2,λw' hw=>k μ1 H1 w' s1 R1 (hw _ _)⟩
  | _=>cases e2
end
section
variable {X:Cx} {pos:Pos}
noncomputable def gLst (K:PySem.W.Frag) (n:Nat) (t:TGs):TG:=λv σ H Q=>∃ a xs,v=.ref a/\SqL K H a xs/\xs.length=n/\t xs σ H Q
theorem zoj {es:List Expr} {k:Nat} {t:TGs} {n:Nat} (hc:X.calm=true) (h:PGs X es t) (hn:(assignEach es X.env).length=n) (hst:(assignEach es X.env).findIdx? (·.1)=none):PG X (.Tuple es k pos) (gLst X.K n t):=by
 intro pins s σ H v u Q I r hw
 obtain ⟨a,xs,e1,hq,hl,hw⟩:=hw
 subst e1
 cases r
 obtain ⟨its,rv,ht,hz⟩:=I.list hq
 rw [PyProof.Rows.assign_Tuple]
 refine wpAny_bind (wpAny_standAt ?_)
 unfold unpack
 rw [hst,show (assignEach es X.env).length=its.toArray.size by simp [hn,<-hl,rv.length]]
 refine wpAny_bind (wpAny_holding (PySem.W.kun_itemsOf (I.ok.hd hc) ht.isList λh' hx=>?_))
 have I1:Inv X pins σ H { s with heap:=h' }:=I.kept (t':=s.toks) λb o e=>hx b o (Nat.ne_of_lt (Heap.lt_size e)) e
 exact h pins _ σ H xs _ Q I1 (by simpa using rv) hw
theorem zg0:∀ {is:List Nat} {xs:List D} {σ σ':IT.Env} {h:Sto},zgm is xs σ=some σ'->bindTs (is.map Tg.name) xs σ h=some (σ',h)
 | [],[],σ,σ',h,e=>by simp only [zgm,Option.some.injEq] at e;subst e;rfl
 | [],_::_,σ,σ',h,e=>by cases e
 | i::is,[],σ,σ',h,e=>by cases e
 | i::is,x::xs,σ,σ',h,e=>by
  simp only [zgm] at e
  simp only [List.map_cons,bindTs,zaa]
  exact ⟨_,h,rfl,zg0 e⟩
theorem zpb {es:List Expr} {tk:Nat} {tp:Pos} {e:Expr} {is:List Nat} {f:IT.Env->M R} (hc:X.calm=true) (he:IE X e f) (hp:PGs X es (tGs X.K (is.map Tg.name))) (hl:es.length=is.length) (hn:(assignEach es X.env).length=es.length) (hst:(assignEach es X.env).findIdx? (·.1)=none)
  (hs:swapsWithSole [.Tuple es tk tp] e pos.line X.env=pure false) (hw:swappedStores [.Tuple es tk tp] e X.env=pure none) (h1:(assignEach [.Tuple es tk tp] X.env).map (·.2)=[assign (.Tuple es tk tp) X.env]) :
  PS X (.Assign [.Tuple es tk tp] e pos) (tS X.K λσ=>bnd (f σ) λr=>bnd (rd r) λd=>bnd (opt (lsOf d)) λxs=>bnd (opt (zgm is xs σ)) λσ'=>ok (.nx,σ')):=by
 refine PS.imp (ziH he (zoj (n:=es.length) hc hp hn hst) hs hw h1) λD σ H q0=>?_
 obtain ⟨μ,h,env,R0,re,fl,env',h',e,kk⟩:=q0
 simp only [zaa,zab,zaq,Prod.mk.injEq] at e
 obtain ⟨r,h1,e1,d,h2,e2,xs,h3,⟨e3,rfl⟩,σ',h4,⟨e4,rfl⟩,⟨rfl,rfl⟩,rfl⟩:=e
 refine ⟨μ,h,env,R0,re,r,h1,e1,λμ1 H1 v s1 R1 q1=>?_⟩
 obtain ⟨rfl,z⟩:=zbg R1 q1 e2
 cases d with
 | lst ys=>
  simp only [lsOf,Option.some.injEq] at e3
  subst e3
  obtain ⟨a,vs,rfl,q,zs⟩:=z
  have eb:=zg0 (h:=h2) e4
  refine ⟨a,vs,rfl,q,?_,μ1,_,env,ys,σ',R1,re.stp s1 R0,zs,eb,λσ2 re2=>kk μ1 H1 σ2 s1 R1 re2⟩
  rw [<-zs.length,hl]
  have:=zbZ _ _ _ _ _ _ eb
  simpa using this
 | _=>cases e3
end
end IT
set_option linter.all false
set_option maxRecDepth 100000
set_option maxHeartbeats 4000000
open PySem.AutoSeq1 (wpAny_loadPart')
namespace PySem
structure EnAt (h0 h:Heap) (e it l:Addr) (i:Nat) (vs:Array Value) (n:Nat):Prop where
 own:h.get? e=some { cls:=.type "enumerate",dict:=none,data:=.fields vs,slots:=#[] }
 at':h.IsListIter it l i
 size:h.objs.size=n
 rest:∀ b o,b≠e->b≠it->h0.get? b=some o->h.get? b=some o
section
variable {prog:Program} {w:World} {A:Around} {E:Value->Shared->Prop} {s:Shared} {h0:Heap} {e it l:Addr} {i n k:Nat} {vs items:Array Value} {x:Value}
theorem EnAt.get {Q:Value->Shared->Prop} (a:EnAt h0 s.heap e it l i vs n) (hx:vs[k]?=some x) (q:Q x s):wpAny (model prog w) A (field (.ref e) k) Q E s:=wpAny_field a.own rfl hx q
theorem EnAt.put {Q:Unit->Shared->Prop} (a:EnAt h0 s.heap e it l i vs n) (ne:e≠it) (hk:k<vs.size) (q:∀ h',EnAt h0 h' e it l i (vs.setIfInBounds k x) n->Q () { s with heap:=h' }):wpAny (model prog w) A (setField (.ref e) k x) Q E s:=
 wpAny_setField_rec a.own hk λh' o sb=>q h' ⟨o,a.at'.extBut sb.extBut ne.symm,sb.1.trans a.size,λb u be bi g=>sb.extBut b u be (a.rest b u be bi g)⟩
theorem EnAt.step {Q:Value->Shared->Prop} (a:EnAt h0 s.heap e it l i vs n) (ne:e≠it) (hl:s.heap.IsList l items) (hx:items[i]?=some x) (q:∀ h',EnAt h0 h' e it l (i+1) vs n->Q x { s with heap:=h' }):wpAny (model prog w) A (Builtin.SmallTypes.nextOf (.ref it)) Q E s:=
 wpAny_nextOf_list_item a.at' hl hx λh' j sb=>q h' ⟨(sb.2 e ne).trans a.own,j,sb.1.trans a.size,λb u be bi g=>sb.extBut b u bi (a.rest b u be bi g)⟩
end
section
variable {prog:Program} {w:World} {A:Around} {E:Value->Shared->Prop} {s:Shared}
theorem zqr {M:Model} {c:Code} {P:Value->Shared->Prop} {R:Result->Shared->Prop} (h:codeAny M A c (wants P E) s) (k:∀ v t,P v t->R (.ok (.ret v)) t) (ke:∀ e t,E e t->R (.error e) t):codeAny M A c R s:=
 codeAny_mono h λr t z=>match r,z with
  | .ok (.ret v),z=>k v t z
  | .error e,z=>ke e t z
end
end PySem
set_option linter.all false
set_option maxHeartbeats 4000000
set_option maxRecDepth 100000
namespace IT
open PySem PySem.Spec L2
section
variable {X:Cx}
end
end IT
set_option linter.all false
set_option maxHeartbeats 4000000
set_option maxRecDepth 100000
namespace PySem
section
variable {M:Model} {A:Around} {E:Value->Shared->Prop} {s:Shared} {env:Env}
end
end PySem
namespace IT
open PySem PySem.Spec L2
section
variable {X:Cx}
end
end IT
set_option linter.all false
set_option maxHeartbeats 4000000
set_option maxRecDepth 100000
namespace IT
open PySem PyProof.Rows
section
variable {prog:Program} {w:World} {A:Around} {E:Value->Shared->Prop} {R:Result->Shared->Prop} {I l S:Addr} {items:Array Value} {ts:List (List Nat)}
variable {s:Shared}
end
end IT
set_option linter.all false
set_option maxHeartbeats 4000000
set_option maxRecDepth 100000
namespace IT
open PySem PySem.Spec L2
section
variable {X:Cx}
end
end IT
set_option linter.all false
set_option maxHeartbeats 4000000
set_option maxRecDepth 100000
namespace IT
open PySem PySem.Spec L2
theorem noT {P:Prop} (h:false=true):P:=by cases h
theorem noF {P:Prop} (h:true=false):P:=by cases h
structure zjS where
 name:Str
 init:Nat
 fields:List Str
 meths:List (Str×Nat)
structure Cst where
 N:List Str
 names:List (Str×NameKind)
 fns:List (Str×Nat×List D)
 globs:List (Str×D)
 top:Bool
 cls:List zjS
 gds:List (Str×List (List Nat×D))
noncomputable def zas:Expr->Bool
 | .Starred _ _=>false
 | _=>true
noncomputable def visB (C:Cst) (x:Str):Bool:=match C.names.lookup x with
 | some .local=>true
 | some .cell=>true
 | some .free=>true
 | _=>false
noncomputable def locB (C:Cst) (x:Str):Bool:=match C.names.lookup x with
 | some .local=>true
 | some .cell=>C.top
 | _=>false
noncomputable def zcK (C:Cst) (x:Str):Bool:=match C.names.lookup x with
 | some .globalImplicit=>true
 | _=>false
noncomputable def zbK (x:Str):Bool:=!(x==("__debug__":Str))&&!(x==("__classdict__":Str))
noncomputable def conB:D->Const->Bool
 | .non,.none=>true
 | .bl b,.bool c=>b==c
 | .int i,.int j=>i==j
 | .str x,.str y=>zaB x==y
 | _,_=>false
noncomputable def boB:Bo->Operator->Bool
 | .add,.Add=>true
 | .mul,.Mult=>true
 | .fdiv,.FloorDiv=>true
 | .mod,.Mod=>true
 | _,_=>false
noncomputable def coB:Co->CmpOp->Bool
 | .eq,.Eq=>true
 | .ne,.NotEq=>true
 | .lt,.Lt=>true
 | .gt,.Gt=>true
 | .isin,.In=>true
 | .isN,.Is=>true
 | _,_=>false
noncomputable def biS:Bi->Str
 | .len=>"len"
 | .tuple=>"tuple"
 | .int=>"int"
 | .all=>"all"
noncomputable def meS:Me->Str
 | .append=>"append"
 | .pop=>"pop"
noncomputable def biOn:Bi->Bool
 | .len=>true
 | .tuple=>true
 | .int=>true
 | .all=>true
noncomputable def meOn:Me->Bool
 | .append=>true
 | .pop=>true
noncomputable def zk7:Expr->Bool
 | .Call _ [] _ _=>false
 | _=>true
noncomputable def me0:Me->Bool
 | .pop=>true
 | _=>false
noncomputable def zfR:Expr->Bool
 | .Name _ _=>true
 | _=>false
noncomputable def zhU:Expr->Bool
 | .Set _ _ _=>true
 | _=>false
noncomputable def zcS:Expr->Bool
 | .Slice _ _ _ _=>true
 | _=>false
noncomputable def zdd:E->Bool
 | .con .non=>true
 | _=>false
noncomputable def zdU:Expr->Bool
 | .UnaryOp .Not _ _=>false
 | .BoolOp _ _ _=>false
 | .IfExp _ _ _ _=>false
 | .Compare _ _ _ _=>false
 | _=>true
noncomputable def ziS:Expr->Bool
 | .Compare _ _ _ _=>true
 | _=>false
noncomputable def zn6 (x:Str):Str:=("?":Str)++x
noncomputable def relN (outer names:List (Str×NameKind)):List (Str×NameKind):=
 names.map λ(n,k)=>if (k==NameKind.free&&outer.lookup n==some .cell) then (n,.cell) else (n,k)
mutual
noncomputable def zcO:Tg->Expr->List (Nat×Str)
 | .name i,e=>match e with
  | .Name x _=>[(i,x)]
  | _=>[]
 | .tup ts,e=>match e with
  | .Tuple xs _ _=>tgNamess ts xs
  | _=>[]
noncomputable def tgNamess:List Tg->List Expr->List (Nat×Str)
 | [],_=>[]
 | t::ts,es=>match es with
  | e::es=>zcO t e++tgNamess ts es
  | []=>[]
end
noncomputable def blkN (N:List Str) (own:List (Nat×Str)):List Str:=
 own.foldl (λM p=>M.set p.1 p.2) (N.map λx=>if own.any (λp=>p.2==x) then zn6 x else x)
noncomputable def blkC (C:Cst) (sc:Scope) (own:List (Nat×Str)):Cst:={ N:=blkN C.N own,names:=relN C.names sc.names,fns:=C.fns,globs:=C.globs,top:=false,cls:=C.cls,gds:=C.gds }
noncomputable def zop (C:Cst) (C':Cst) (own:List Nat) (i:Nat) (x:Str):Bool:=match C'.names.lookup x with
 | some .local=>own.contains i
 | some .cell | some .free=>own.contains i||(C.N[i]?==some x&&(C.names.lookup x==some .cell||C.names.lookup x==some .free))
 | _=>true
noncomputable def zjK (C:Cst) (sc:Scope) (C':Cst) (own:List Nat):Bool:=
 sc.kind==.function&&sc.names.all (λy=>y.2 != .cell)&&sc.names.all (λx=>x.2 != .local||sc.names.lookup x.1==some .local)
 && sc.names.all (λx=>x.2 != .free||C.names.lookup x.1==some .cell||C.names.lookup x.1==some .free)
 && (List.range C'.N.length).all (λi=>match C'.N[i]? with | some x=>zop C C' own i x | none=>true)
 && C'.N.length==C.N.length&&decide C'.N.Nodup
mutual
noncomputable def zcd (C:Cst):Tg->Expr->Bool
 | .name i,e=>match e with
  | .Name x _=>C.N[i]?==some x&&locB C x
  | _=>false
 | .tup ts,e=>match e with
  | .Tuple xs _ _=>chkTgs C ts xs
  | _=>false
noncomputable def chkTgs (C:Cst):List Tg->List Expr->Bool
 | [],es=>match es with
  | []=>true
  | _=>false
 | t::ts,es=>match es with
  | e::es=>zas e&&zcd C t e&&chkTgs C ts es
  | []=>false
end
noncomputable def inB:Bool->CmpOp->Bool
 | false,.In=>true
 | true,.NotIn=>true
 | _,_=>false
noncomputable def zg7:List (List Nat×D)->List (List Nat×D)->Bool
 | [],ys=>ys.isEmpty
 | p::r,ys=>match ys with
  | q::t=>p.1==q.1&&p.2.same q.2&&zg7 r t
  | []=>false
noncomputable def enuB:I->Expr->Bool
 | _,_=>true
mutual
noncomputable def chkE:E->Cst->Expr->Bool
 | .con d,_,e=>match e with
  | .Constant c _ _=>conB d c
  | _=>false
 | .var i,C,e=>match e with
  | .Name x _=>C.N[i]?==some x&&visB C x&&zbK x
  | _=>false
 | .bin o a b,C,e=>match e with
  | .BinOp l op r _=>boB o op&&chkE a C l&&chkE b C r
  | _=>false
 | .cmp o a b,C,e=>match e with
  | .Compare l [op] [r] _=>coB o op&&chkE a C l&&chkE b C r&&!zhU r
  | _=>false
 | .and a b,C,e=>match e with
  | .BoolOp .And (v::w::rest) pos=>chkE a C v&&(match rest with | []=>chkE b C w | y::ys=>chkE b C (.BoolOp .And (w::y::ys) pos))
  | _=>false
 | .or a b,C,e=>match e with
  | .BoolOp .Or (v::w::rest) pos=>chkE a C v&&(match rest with | []=>chkE b C w | y::ys=>chkE b C (.BoolOp .Or (w::y::ys) pos))
  | _=>false
 | .not a,C,e=>match e with
  | .UnaryOp .Not x _=>chkE a C x
  | _=>false
 | .ife c a b,C,e=>match e with
  | .IfExp t x y _=>chkT c C t&&chkE a C x&&chkE b C y
  | _=>false
 | .tup es,C,e=>match e with
  | .Tuple xs _ _=>chkEs es C xs&&decide (xs.length<=1000)
  | _=>false
 | .lst _ l,C,e=>chkL l C e
 | .idx a i,C,e=>match e with
  | .Subscript x y _=>chkE a C x&&chkE i C y&&!zcS y
  | _=>false
 | .sli a lo hi,C,e=>match e with
  | .Subscript x (.Slice l u none _) _=>chkE a C x&&(match l with | none=>zdd lo | some y=>chkE lo C y)&&(match u with | none=>zdd hi | some y=>chkE hi C y)
  | _=>false
 | .call f es,C,e=>match e with
  | .Call (.Name x _) (v::vs) [] _=>(match C.fns[f]? with | some p=>p.1==x | none=>false)&&zcK C x&&zbK x&&chkEs es C (v::vs)
  | _=>false
 | .bi b es,C,e=>match e with
  | .Call (.Name x _) (v::vs) [] _=>(biOn b&&x==biS b)&&zcK C x&&chkEs es C (v::vs)
  | _=>false
 | .me m o es,C,e=>match e with
   | .Call (.Attribute ov name apos) (v::vs) [] cpos=>(!me0 m&&meOn m)&&name==meS m&&zfR ov&&chkE o C ov&&chkEs es C (v::vs)&&apos.endLine==cpos.line&&decide ((v::vs).length<20)
   | .Call (.Attribute ov name apos) [] [] cpos=>(me0 m&&meOn m)&&name==meS m&&zfR ov&&chkE o C ov&&chkEs es C []&&apos.endLine==cpos.line
   | _=>false
 | .isi t a,C,e=>match e with
  | .Call (.Name x _) [v,.Name y _] [] _=>x==("isinstance":Str)&&zcK C x&&zas v&&chkE a C v&&y==Str.ofString (tyS t)&&zcK C y
  | _=>false
 | .lm m o a,C,e=>match e with
   | .Call (.Attribute ov name apos) [v] [] cpos=>name==lmS m&&zk7 ov&&chkE o C ov&&zas v&&chkE a C v&&apos.endLine==cpos.line
   | _=>false
 | .dnew,_,e=>match e with
  | .Dict [] [] _=>true
  | _=>false
 | .dof a,C,e=>match e with
  | .Call (.Name x _) [v] [] _=>x==("dict":Str)&&zcK C x&&zas v&&chkE a C v
  | _=>false
 | .din neg k d,C,e=>match e with
  | .Compare l [op] [r] _=>inB neg op&&chkE k C l&&chkE d C r&&!zhU r
  | _=>false
 | .dgt d k,C,e=>match e with
  | .Call (.Attribute ov name apos) [v] [] cpos=>name==("get":Str)&&zk7 ov&&chkE d C ov&&zas v&&chkE k C v&&apos.endLine==cpos.line
  | _=>false
 | .ddx d k,C,e=>match e with
  | .Subscript x y _=>chkE d C x&&chkE k C y&&!zcS y
  | _=>false
 | .gdx g kvs k,C,e=>match e with
  | .Subscript (.Name x _) y _=>x==g&&(match C.gds.lookup x with | some kvs'=>zg7 kvs kvs' | none=>false)&&zcK C x&&zbK x&&chkE k C y&&!zcS y
  | _=>false
 | .stuck,_,_=>true
noncomputable def chkEs:List E->Cst->List Expr->Bool
 | [],_,es=>match es with
  | []=>true
  | _=>false
 | a::as,C,es=>match es with
  | e::es=>zas e&&chkE a C e&&chkEs as C es
  | []=>false
noncomputable def chkT:T->Cst->Expr->Bool
 | .val a,C,e=>chkE a C e&&(zdU e||ziS e)
 | .and a b,C,e=>match e with
  | .BoolOp .And (v::w::rest) pos=>chkT a C v&&(match rest with | []=>chkT b C w | y::ys=>chkT b C (.BoolOp .And (w::y::ys) pos))
  | _=>false
 | .or a b,C,e=>match e with
  | .BoolOp .Or (v::w::rest) pos=>chkT a C v&&(match rest with | []=>chkT b C w | y::ys=>chkT b C (.BoolOp .Or (w::y::ys) pos))
  | _=>false
 | .not a,C,e=>match e with
  | .UnaryOp .Not x _=>chkT a C x
  | _=>false
noncomputable def zgF:List T->Cst->List Expr->Bool
 | [],_,es=>match es with
  | []=>true
  | _=>false
 | t::ts,C,es=>match es with
  | e::es=>chkT t C e&&zgF ts C es&&es.isEmpty
  | []=>false
noncomputable def chkL:L->Cst->Expr->Bool
 | .disp es,C,e=>match e with
  | .List xs _=>chkEs es C xs&&decide (xs.length<=1000)
  | _=>false
 | .comp tg it cs el,C,e=>match e with
  | .ListComp elt [g] sc _=>g.is_async==0&&!zhU g.iter&&zjK C sc (blkC C sc (zcO tg g.target)) tg.slots&&(zcd (blkC C sc (zcO tg g.target)) tg g.target&&enuB it g.target)&&chkI it C g.iter
    && zgF cs (blkC C sc (zcO tg g.target)) g.ifs&&chkE el (blkC C sc (zcO tg g.target)) elt
  | _=>false
 | .rev a,C,e=>match e with
  | .Subscript v (.Slice none none (some (.UnaryOp .USub (.Constant (.int i) _ _) _)) _) _=>i==1&&chkE a C v
  | _=>false
 | .ofD a,C,e=>match e with
  | .Call (.Name x _) [v] [] _=>x==("list":Str)&&zcK C x&&zas v&&chkE a C v
  | _=>false
 | .sdi a,C,e=>match e with
  | .Call (.Name x _) [.Call (.Attribute ov name apos) [] [] cpos] [] _=>x==("sorted":Str)&&zcK C x&&name==("items":Str)&&zk7 ov&&chkE a C ov&&apos.endLine==cpos.line
  | _=>false
 | .sst a,C,e=>match e with
  | .Call (.Name x _) [.Call (.Name y _) [v] [] _] [] _=>x==("sorted":Str)&&zcK C x&&y==("set":Str)&&zcK C y&&zas v&&chkE a C v
  | _=>false
noncomputable def chkI:I->Cst->Expr->Bool
 | .seq a,C,e=>chkE a C e
 | .rng a,C,e=>match e with
  | .Call (.Name x _) [v] [] _=>x==("range":Str)&&zcK C x&&zas v&&chkE a C v
  | _=>false
 | .dic a,C,e=>chkE a C e
end
noncomputable def zc4:Expr->Bool
 | .ListComp _ _ _ _=>true
 | .SetComp _ _ _ _=>true
 | .DictComp _ _ _ _ _=>true
 | _=>false
noncomputable def zlQ:E->Bool
 | _=>false
noncomputable def zcb:Expr->Bool
 | .Tuple _ _ _=>true
 | .List _ _=>true
 | _=>false
mutual
noncomputable def chkS:S->Cst->Stmt->Bool
 | .asg tg a,C,st=>match st with
  | .Assign [t] v pos=>zcd C tg t&&zas t&&chkE a C v&&!(zcb t&&zcb v)&&(!zc4 v||(zc4 v&&zfR t&&!zlQ a))
  | _=>false
 | .exp a,C,st=>match st with
  | .Expr v _=>chkE a C v&&!zc4 v
  | _=>false
 | .ife c a b,C,st=>match st with
  | .If t x y _=>chkT c C t&&chkSs a C x&&chkSs b C y
  | _=>false
 | .for tg it body,C,st=>match st with
  | .For t iter b [] _=>(zcd C tg t&&enuB it t)&&chkI it C iter&&chkSs body C b&&!zhU iter
  | _=>false
 | .ret a,C,st=>match st with
  | .Return (some v) _=>chkE a C v
  | _=>false
 | .setD o i a,C,st=>match st with
  | .Assign [.Subscript ov iv _] v _=>chkE a C v&&chkE o C ov&&chkE i C iv&&!zc4 v&&!zcS iv
  | _=>false
 | .unp is a,C,st=>match st with
  | .Assign [.Tuple ts _ _] v _=>chkTgs C (is.map Tg.name) ts&&chkE a C v&&!zc4 v&&!zcb v
  | _=>false
 | .stuck,_,_=>true
noncomputable def chkSs:List S->Cst->List Stmt->Bool
 | [],_,sts=>match sts with
  | []=>true
  | _=>false
 | s::ss,C,sts=>match sts with
  | st::sts=>chkS s C st&&chkSs ss C sts
  | []=>false
end
end IT
set_option linter.all false
set_option maxHeartbeats 4000000
set_option maxRecDepth 100000
namespace IT
open PySem PySem.Spec L2
noncomputable def zcv:List Str:=["len", "sum", "tuple", "int", "range", "all", "any", "max", "min", "list", "isinstance", "str", "bool", "dict", "enumerate", "sorted", "set"]
structure Good (Γ:Calls) (n:Nat) (C:Cst) (X:Cx):Prop where
 nox:X.xe=λ_ _=>False
 calm:X.calm=true
 room:Room n X.A
 room1:Room (n+1) X.A
 kind:X.env.scope.kind=.function
 N:X.N=C.N
 nd:X.N.Nodup
 names:X.env.scope.names=C.names
 fn:C.top=true->∀ x,X.fn x=true
 funs:∀ (f:Nat) (p:Str×Nat×List D),C.fns[f]?=some p->zo0 X n p.1 p.2.1 p.2.2 (Γ f)
 blt:∀ x∈zcv,X.mg x=none
 glob:∀ (x:Str) (d:D),C.globs.lookup x=some d->∃ u v,X.mg x=some u/\RelV v u/\∀ A H,RepD X.K A H d v
 gdic:∀ (x:Str) (kvs:List (List Nat×D)),C.gds.lookup x=some kvs->GDic X.K X.w X.mg x kvs
 makes:∀ i∈C.cls,∃ np,zoJ X n i.name np (Γ i.init)
 meths:∀ i∈C.cls,∀ p∈i.meths,∃ np,zns X n i.name p.1 np (Γ p.2)
 attrs:∀ i∈C.cls,∀ f∈i.fields,∀ A,PySem.W.nsIn X.K mainGlobals i.name=some (some (.ref A))->zje X.K A f
theorem zap {e:Expr} {es:List Expr} {env:PySem.Env} (h:zas e=true):starEach (e::es) env=(false,eval e env)::starEach es env:=by
 cases e<;>first | rfl | (first | exact noT h | exact noF h)
theorem zcy:∀ {as:List E} {C:Cst} {es:List Expr},chkEs as C es=true->as.length=es.length
 | [],C,[],_=>rfl
 | [],C,_::_,h=>by simp [chkEs] at h
 | a::as,C,[],h=>by simp [chkEs] at h
 | a::as,C,e::es,h=>by
  simp only [chkEs,Bool.and_eq_true] at h
  simp [zcy h.2]
theorem zbV:∀ {as:List E} {C:Cst} {es:List Expr},chkEs as C es=true->∀ e∈es,zas e=true
 | [],C,[],_,e,he=>by simp at he
 | [],C,_::_,h,_,_=>by simp [chkEs] at h
 | a::as,C,[],h,_,_=>by simp [chkEs] at h
 | a::as,C,e::es,h,x,hx=>by
  simp only [chkEs,Bool.and_eq_true] at h
  rcases List.mem_cons.mp hx with rfl | hx
  ·exact h.1.1
  ·exact zbV h.2 x hx
theorem zdp {env:PySem.Env} {pos:Pos}:∀ {es:List Expr},(∀ e∈es,zas e=true)->(backTo pos (starEach es env)).any (·.1)=false
  | [],_=>rfl
  | e::es,h=>by
    rw [zap (h e (by simp))]
    show (false||(backTo pos (starEach es env)).any (·.1))=false
    rw [zdp λx hx=>h x (by simp [hx])]
    rfl
theorem zdh {env:PySem.Env} {pos:Pos}:∀ {es:List Expr},(∀ e∈es,zas e=true)->(backTo pos (starEach es env)).all (λx=>!x.1)=true
 | [],_=>rfl
 | e::es,h=>by
  rw [zap (h e (by simp))]
  show (true&&(backTo pos (starEach es env)).all (λx=>!x.1))=true
  rw [zdh λx hx=>h x (by simp [hx])]
  rfl
theorem zff {Γ:Calls}:∀ {es:List E} {σ:IT.Env} {h h':Sto} {rs:List R},evs Γ es σ h=some (rs,h')->rs.length=es.length
 | [],σ,h,h',rs,e=>by
  simp only [evs,zab] at e
  rw [<-e.1];rfl
 | a::as,σ,h,h',rs,e=>by
  simp only [evs,zaa,zab] at e
  obtain ⟨r,h1,e1,rs',h2,e2,rfl,rfl⟩:=e
  simp [zff e2]
section
variable {Γ:Calls} {n:Nat} {C:Cst} {X:Cx} {x:Str}
theorem zoK (G:Good Γ n C X) (h:visB C x=true):Vis X.env.scope x:=by
 unfold visB at h
 unfold Vis
 rw [G.names]
 split at h
 ·rename_i e;exact .inl e
 ·rename_i e;exact .inr (.inl e)
 ·rename_i e;exact .inr (.inr e)
 ·cases h
theorem zlR (G:Good Γ n C X) (h:locB C x=true):Loc X.env.scope x/\(X.fn x=true\/X.env.scope.names.lookup x=some .local):=by
 unfold locB at h
 unfold L2.Loc
 rw [G.names]
 split at h
 ·rename_i e;exact ⟨.inl e,.inr e⟩
 ·rename_i e;exact ⟨.inr e,.inl (G.fn h x)⟩
 ·cases h
theorem zdB (G:Good Γ n C X) (h:zcK C x=true):Gl X x:=by
 unfold zcK at h
 show X.env.scope.names.lookup x=_
 rw [G.names]
 split at h
 ·rename_i e;exact e
 ·cases h
theorem zeU (h:zbK x=true):(x==("__debug__":Str))=false/\(x==("__classdict__":Str))=false:=by
 unfold zbK at h
 simpa using h
end
theorem opB {X:Cx} {o:Bo} {op:Operator} (h:boB o op=true):OpD X (binaryOp op) (bop o):=by
  cases o<;>cases op<;>first | (exact noT h) | exact zmf | exact zl9 | exact zk6 | exact zlW
theorem coBe {X:Cx} {o:Co} {op:CmpOp} (hu:X.A.units+64<cLine) (h:coB o op=true):OpD X (compareOp op) (cop o):=by
  cases o<;>cases op<;>first | (exact noT h) | exact znH hu | exact zo6 hu | exact znV | exact zoY | exact zkD hu | exact zms
theorem zox {o:Co} {x y z:D} (h:cop o x y=some z):∃ t,z=.bl t:=by
 (delta cop at h;(try dsimp only at h))
 split at h<;>first
  | (split at h<;>first | (cases h;exact ⟨_,rfl⟩) | (split at h<;>first | (cases h;exact ⟨_,rfl⟩) | cases h) | cases h)
  | (cases h;exact ⟨_,rfl⟩)
  | cases h
theorem zpY {o:Co} {x y r:R} {h h':Sto} (e:mD (cop o) x y h=some (r,h')):∃ t,r=.d (.bl t):=by
 simp only [mD,zaa,zab,zaq] at e
 obtain ⟨dx,h1,e1,dy,h2,e2,z,h3,⟨e3,_⟩,rfl,_⟩:=e
 obtain ⟨t,rfl⟩:=zox e3
 exact ⟨t,rfl⟩
theorem zhY {e:Expr} {env:PySem.Env} (h:zdU e=true):∀ whole,isTrue e env whole=(do let v<-whole;standAt e.pos;holding [v] (truthy v)):=by
 intro whole
 cases e with
 | UnaryOp op x p=>cases op<;>first | rfl | (first | exact noT h | exact noF h)
 | BoolOp _ _ _=>first | exact noT h | exact noF h
 | IfExp _ _ _ _=>first | exact noT h | exact noF h
 | Compare _ _ _ _=>first | exact noT h | exact noF h
 | _=>rfl
theorem zeT {o:Expr} {env:PySem.Env} {name:Str} (h:zk7 o=true):attributeBase o name env (eval o env)=eval o env:=by
 unfold attributeBase
 split
 ·cases h
 ·rfl
theorem zf6 {o:Expr} {env:PySem.Env} {name:Str} (h:zfR o=true):attributeBase o name env (eval o env)=eval o env:=by
 cases o<;>first | rfl | (first | exact noT h | exact noF h)
theorem zeW {e:Expr} (h:zcS e=false):zds e:=by
 intro o i
 cases e<;>first | rfl | (first | exact noT h | exact noF h)
theorem ziw {e:Expr} {env:PySem.Env} (h:zhU e=false):∀ x,foldedSetIterable e env x=pure x:=by
 intro x
 cases e<;>first | rfl | (first | exact noT h | exact noF h)
theorem zeY {e:Expr} {op:CmpOp} (h:zhU e=false):behindInMarks op e=false:=by
 cases e<;>first | rfl | (first | exact noT h | exact noF h)
theorem zgx {t v:Expr} {l:Nat} {env:PySem.Env} (h:zc4 v=false):swapsWithSole [t] v l env=pure false:=by
 cases v<;>first | rfl | (first | exact noT h | exact noF h)
theorem zkY {v:Expr} {l:Nat} {env:PySem.Env} (h:zc4 v=false):swapsWith v none l env=pure false:=by
 cases v<;>first | rfl | (first | exact noT h | exact noF h)
theorem zcG {t v:Expr} {env:PySem.Env} (h:(zcb t&&zcb v)=false):swappedStores [t] v env=pure none:=by
 cases t with
 | Tuple a b c=>cases v<;>first | rfl | (first | exact noT h | exact noF h)
 | List a b=>cases v<;>first | rfl | (first | exact noT h | exact noF h)
 | _=>rfl
theorem zeE {t:Expr} {env:PySem.Env} (h:zas t=true):(assignEach [t] env).map (·.2)=[assign t env]:=by
 cases t<;>first | rfl | (first | exact noT h | exact noF h)
theorem zdg {t:Expr} {ts:List Expr} {env:PySem.Env} (h:zas t=true):assignEach (t::ts) env=(false,assign t env)::assignEach ts env:=by
 cases t<;>first | rfl | (first | exact noT h | exact noF h)
theorem zew {env:PySem.Env}:∀ {ts:List Expr},(∀ e∈ts,zas e=true)->(assignEach ts env).length=ts.length/\(assignEach ts env).findIdx? (·.1)=none
 | [],_=>⟨rfl,rfl⟩
 | t::ts,h=>by
  obtain ⟨h1,h2⟩:=zew (env:=env) (ts:=ts) λx hx=>h x (by simp [hx])
  rw [zdg (h t (by simp))]
  refine ⟨by simp [h1],?_⟩
  rw [List.findIdx?_cons]
  simp [h2]
theorem zmU {o i:Expr} {p:Pos} {env:PySem.Env} (h:zcS i=false) (v:Value):assign (.Subscript o i p) env v=(do let ov<-holding [v] (eval o env);let iv<-holding [v,ov] (eval i env);standAt p;holding [v,ov,iv] (setItem ov iv v);release [v,ov,iv] []):=by
 cases i<;>first | rfl | (first | exact noT h | exact noF h)
theorem zoe {X:Cx} {d:D} {c:Const} {k:Nat} {pos:Pos} (h:conB d c=true):IE X (.Constant c k pos) (λ_=>ok (.d d)):=by
 cases d with
 | non=>cases c<;>first | (exact noT h) | exact zgP zoO (by intro _ _;simp only [RepD])
 | bl b=>
  cases c with
  | bool c=>obtain rfl:=eq_of_beq h;exact zgP zpz (by intro _ _;simp only [RepD])
  | _=>exact noT h
 | int b=>
  cases c with
  | int c=>obtain rfl:=eq_of_beq h;exact zgP zlB (by intro _ _;simp only [RepD])
  | _=>exact noT h
 | str b=>
  cases c with
  | str c=>obtain rfl:=eq_of_beq h;exact zgP znJ (by intro _ _;simp only [RepD])
  | _=>exact noT h
 | _=>cases c<;>exact noT h
theorem zeB {C:Cst}:∀ {ts:List Tg} {es:List Expr},chkTgs C ts es=true->(∀ e∈es,zas e=true)/\es.length=ts.length
 | [],[],_=>⟨by simp,rfl⟩
 | [],_::_,h=>by simp [chkTgs] at h
 | _::_,[],h=>by simp [chkTgs] at h
 | t::ts,e::es,h=>by
  simp only [chkTgs,Bool.and_eq_true] at h
  obtain ⟨h1,h2⟩:=zeB h.2
  refine ⟨λx hx=>?_,by simp [h2]⟩
  rcases List.mem_cons.mp hx with rfl | hx
  ·exact h.1.1
  ·exact h1 x hx
mutual
theorem okTg {Γ:Calls} {n:Nat} {C:Cst} {X:Cx} (G:Good Γ n C X):∀ (t:Tg) (e:Expr),zcd C t e=true->PG X e (tG X.K t)
 | .name i,e,h=>by
  cases e with
  | Name x pos=>
   simp only [zcd,Bool.and_eq_true] at h
   obtain ⟨h1,h2⟩:=zlR G h.2
   exact zl7 G.nd (by rw [G.N];exact eq_of_beq h.1) h1 h2
  | _=>simp [zcd] at h
 | .tup ts,e,h=>by
  cases e with
  | Tuple xs k pos=>
   have h:chkTgs C ts xs=true:=by simpa [zcd] using h
   obtain ⟨h1,h2⟩:=zeB h
   obtain ⟨h3,h4⟩:=zew (env:=X.env) h1
   exact zoT G.calm (okTgs G ts xs h) h2 h3 h4
  | _=>simp [zcd] at h
theorem okTgs {Γ:Calls} {n:Nat} {C:Cst} {X:Cx} (G:Good Γ n C X):∀ (ts:List Tg) (es:List Expr),chkTgs C ts es=true->PGs X es (tGs X.K ts)
 | [],es,h=>by
  cases es with
  | nil=>exact zl6
  | cons _ _=>simp [chkTgs] at h
 | t::ts,es,h=>by
  cases es with
  | nil=>simp [chkTgs] at h
  | cons e es=>
   simp only [chkTgs,Bool.and_eq_true] at h
   exact zk8 (okTg G t e h.1.2) (okTgs G ts es h.2) (by rw [zdg h.1.1];rfl)
end
theorem znO {Γ:Calls} {n:Nat} {C:Cst} {X:Cx} (G:Good Γ n C X) (t:Tg) (e:Expr) (h:zcd C t e=true):PG X e (tGI X.K t):=by
 cases t with
 | name i=>exact zki (okTg G _ _ h)
 | tup ts=>
  by_cases hl:ts.length=2
  ·match ts,hl,h with
   | [a,b],_,h=>
    cases e with
    | Tuple xs k pos=>
     have h:chkTgs C [a,b] xs=true:=by simpa [zcd] using h
     match xs,h with
     | [x,y],h=>
      obtain ⟨h1,h2⟩:=zeB h
      obtain ⟨h3,h4⟩:=zew (env:=X.env) h1
      have hs:=okTgs G [a,b] [x,y] h
      simp only [chkTgs,Bool.and_eq_true] at h
      exact zlZ G.calm hs (zqh (okTg G a x h.1.2) (okTg G b y h.2.1.2) (by rw [zdg h.1.1];rfl) (by rw [zdg h.2.1.1];rfl)) h3 h4
     | [],h=>simp [chkTgs] at h
     | [_],h=>simp [chkTgs] at h
     | _::_::_::_,h=>simp [chkTgs] at h
    | _=>simp [zcd] at h
  ·exact zmL hl (okTg G _ _ h)
theorem zij {r:R} {w:Wk} {h h':Sto} (e:zbE r h=some (w,h')):WlOk w h':=by
 (delta zbE at e;simp only [zaa] at e)
 obtain ⟨o,h1,e1,e2⟩:=e
 obtain ⟨rfl,ho⟩:=zep e1
 cases o with
 | some ls=>
  obtain ⟨l,rfl,ho⟩:=ho
  simp only [zab] at e2
  obtain ⟨rfl,rfl⟩:=e2
  intro i hi
  cases hi
  exact ⟨_,ho,λc fs z=>by cases z⟩
 | none=>
  simp only [zaa] at e2
  obtain ⟨d,h2,e3,e4⟩:=e2
  cases r with
  | loc l=>
   obtain ⟨o,ho,il,rfl,rfl⟩:=zek e3
   (delta wkOf items at e4;(try dsimp only at e4);simp only [zab] at e4)
   obtain ⟨rfl,rfl⟩:=e4
   intro i hi
   cases hi
   exact ⟨o,ho,λc fs z=>by rw [z] at il;cases il⟩
  | d x=>
   have:w.l=none:=by
    (delta wkOf at e4;(try dsimp only at e4))
    cases hi:items d with
    | none=>
     rw [hi] at e4;cases e4
    | some xs=>rw [hi] at e4;obtain ⟨rfl,rfl⟩:=zab.mp e4;rfl
   intro i hi
   rw [this] at hi
   cases hi
theorem zj6 {Γ:Calls} {it:I} {σ:IT.Env} {h h':Sto} {w:Wk} (e:evI Γ it σ h=some (w,h')):WlOk w h':=by
 cases it with
 | seq a=>
  simp only [evI,zaa] at e
  obtain ⟨r,h1,e1,e2⟩:=e
  exact zij e2
 | dic a=>
  simp only [evI,zaa] at e
  obtain ⟨r,h1,e1,e2⟩:=e
  cases r with
  | d _=>cases e2
  | loc l=>
   simp only [zgA] at e2
   split at e2
   ·rename_i kvs ho
    simp only [Option.some.injEq,Prod.mk.injEq] at e2
    obtain ⟨rfl,rfl⟩:=e2
    intro i hi
    cases hi
    exact ⟨_,ho,λc fs z=>by cases z⟩
   ·cases e2
 | rng a=>
  simp only [evI,zaa] at e
  obtain ⟨r,h1,e1,e2⟩:=e
  (delta zes at e2;(try dsimp only at e2))
  intro i el
  split at e2
  ·split at e2
   ·obtain ⟨rfl,rfl⟩:=zab.mp e2;cases el
   ·cases e2
  ·cases e2
end IT
set_option linter.all false
set_option maxHeartbeats 4000000
set_option maxRecDepth 100000
namespace IT
open PySem PySem.Spec L2
section
variable {Γ:Calls} {n:Nat} {C:Cst} {X:Cx}
theorem zf1 (G:Good Γ n C X) (sc:Scope):(relabel sc X.env).names=relN C.names sc.names:=by
 unfold relabel relN
 show sc.names.map _=sc.names.map _
 refine List.map_congr_left λp _=>?_
 obtain ⟨m,k⟩:=p
 have e1:X.env.kindOf m=C.names.lookup m:=by
  show X.env.scope.names.lookup m=_
  rw [G.names]
 simp only [G.kind,e1]
 have e2:(ScopeKind.function==ScopeKind.function)=true:=rfl
 rw [e2,Bool.and_true]
theorem Good.blk (G:Good Γ n C X) {sc:Scope} {own:List (Nat×Str)} {os:List Nat} (h:zjK C sc (blkC C sc own) os=true) (cl:List (Str×Addr)) (pins:List (Addr×Obj)) (s₂:Shared) (H₂:Hp) (Cc:Addr) (fp:List Addr) :
  Good Γ n (blkC C sc own) (blk X (blkC C sc own).N s₂ H₂ (compEnvC sc cl Cc X.env) fp pins):=by
 unfold zjK at h
 simp only [Bool.and_eq_true] at h
 obtain ⟨⟨⟨⟨⟨⟨hk,_⟩,_⟩,_⟩,_⟩,_⟩,hnd⟩:=h
 refine ⟨G.nox,G.calm,G.room,G.room1,?_,rfl,of_decide_eq_true hnd,zf1 G sc,λz=>absurd z (by show ¬ (false=true);decide),λf x e=>⟨(G.funs f x e).ex,(G.funs f x e).fill,(G.funs f x e).len⟩,G.blt,G.glob,G.gdic,λi hi=>let ⟨np,z⟩:=G.makes i hi;⟨np,z.ex,z.len⟩,λi hi p hp=>let ⟨np,z⟩:=G.meths i hi p hp;⟨np,z.ex,z.len⟩,G.attrs⟩
 show (relabel sc X.env).kind=_
 have:sc.kind=.function:=by cases e:sc.kind<;>rw [e] at hk<;>first | rfl | (exact absurd hk (by decide))
 exact this
theorem znf (G:Good Γ n C X) {sc:Scope} {own:List (Nat×Str)} {os:List Nat} (h:zjK C sc (blkC C sc own) os=true):zgN X sc (blkC C sc own).N os:=by
 unfold zjK at h
 simp only [Bool.and_eq_true] at h
 obtain ⟨⟨⟨⟨⟨⟨hk,hc⟩,hn⟩,hf⟩,hs⟩,hl⟩,hnd⟩:=h
 have ke:∀ m,X.env.kindOf m=C.names.lookup m:=λm=>by
  show X.env.scope.names.lookup m=_
  rw [G.names]
 refine ⟨?_,?_,?_,?_,?_,?_⟩
 ·cases e:sc.kind<;>rw [e] at hk<;>first | rfl | (exact absurd hk (by decide))
 ·intro y hy z
  have:=List.all_eq_true.mp hc y hy
  rw [z] at this
  exact absurd this (by decide)
 ·intro x hx z
  have:=List.all_eq_true.mp hn x hx
  rw [z] at this
  have e2:(NameKind.local != NameKind.local)=false:=by decide
  rw [e2,Bool.false_or] at this
  exact eq_of_beq this
 ·intro x hx z
  have:=List.all_eq_true.mp hf x hx
  rw [z] at this
  have e2:(NameKind.free != NameKind.free)=false:=by decide
  rw [e2,Bool.false_or,Bool.or_eq_true] at this
  rw [ke]
  rcases this with q | q
  ·exact .inl (eq_of_beq q)
  ·exact .inr (eq_of_beq q)
 ·intro i x e v
  have hi:i<(blkC C sc own).N.length:=(List.getElem?_eq_some_iff.mp e).1
  have:=List.all_eq_true.mp hs i (by simpa using hi)
  rw [e] at this
  simp only [zop] at this
  unfold Vis at v
  rw [zf1 G sc] at v ⊢
  have en:(blkC C sc own).names=relN C.names sc.names:=rfl
  rw [en] at this
  rw [G.N,ke]
  rcases v with v | v | v
  ·rw [v] at this
   exact .inl (by simpa using this)
  ·rw [v] at this
   simp only [Bool.or_eq_true,Bool.and_eq_true] at this
   rcases this with q | ⟨q,q2⟩
   ·exact .inl (by simpa using q)
   ·refine .inr ⟨eq_of_beq q,?_,by rw [v];decide⟩
    rcases q2 with q2 | q2
    ·exact .inl (eq_of_beq q2)
    ·exact .inr (eq_of_beq q2)
  ·rw [v] at this
   simp only [Bool.or_eq_true,Bool.and_eq_true] at this
   rcases this with q | ⟨q,q2⟩
   ·exact .inl (by simpa using q)
   ·refine .inr ⟨eq_of_beq q,?_,by rw [v];decide⟩
    rcases q2 with q2 | q2
    ·exact .inl (eq_of_beq q2)
    ·exact .inr (eq_of_beq q2)
 ·rw [G.N]
  exact eq_of_beq hl
end
noncomputable def zdH (Γ:Calls) (X:Cx) (tg:Tg) (it:I) (cs:List T) (el:E) (e:Expr):Prop:=
 ∃ elt gt gi gifs sc pos N',e=.ListComp elt [⟨gt,gi,gifs,0⟩] sc pos/\zgN X sc N' tg.slots/\PI X gt gi (tI X.K (evI Γ it)) ∧
  (∀ cl pins s₂ H₂ C fp,PG (blk X N' s₂ H₂ (compEnvC sc cl C X.env) fp pins) gt (tGI X.K tg)/\PTs (blk X N' s₂ H₂ (compEnvC sc cl C X.env) fp pins) gifs (tTv X.K (tvs Γ cs))/\PE (blk X N' s₂ H₂ (compEnvC sc cl C X.env) fp pins) elt (tE X.K (ev Γ el))) ∧
  ∀ x,foldedSetIterable gi X.env x=pure x
theorem zdH.read {Γ:Calls} {K:PySem.W.Frag} {tg:Tg} {it:I} {cs:List T} {el:E} {σ:St} {H:Hp} {Q:VK} (q:tLs K (evL Γ (.comp tg it cs el)) σ H Q):zhx (tI K (evI Γ it)) tg.slots (tGI K tg) (tTv K (tvs Γ cs)) (tE K (ev Γ el)) σ H Q:=by
 have e:evL Γ (.comp tg it cs el)=λσ=>bnd (evI Γ it σ) λw=>zbN w.l (zny tg (tvs Γ cs) (ev Γ el) σ) w.xs:=by
  funext σ
  rfl
 rw [e] at q
 exact zjg (λσ h w h' e=>zj6 e) q
theorem zdH.il {Γ:Calls} {X:Cx} {tg:Tg} {it:I} {cs:List T} {el:E} {e:Expr} (hx:X.xe=λ_ _=>False) (hc:X.calm=true) (h:zdH Γ X tg it cs el e):IL X e (evL Γ (.comp tg it cs el)):=by
 obtain ⟨elt,gt,gi,gifs,sc,pos,N',rfl,ok,hi,hB,hs⟩:=h
 exact PE.imp (znm hx hc ok hi hB hs) λσ H Q q=>zdH.read q
theorem zkH {K:PySem.W.Frag} {fl:IT.Env->M (List D)} {m:Bool} {σ:St} {H:Hp} {Q:VK} (q:tE K (λσ=>bnd (fl σ) λxs=>if m then alloc xs else ok (.d (.lst xs))) σ H Q):tLs K fl σ H Q:=by
 obtain ⟨μ,h,env,R0,re,r,h',e,k⟩:=q
 simp only [zaa] at e
 obtain ⟨xs,h1,e1,e2⟩:=e
 refine ⟨μ,h,env,R0,re,xs,h1,e1,λμ1 H1 a vs s1 R1 q1 ha=>?_⟩
 cases m with
 | true=>
  simp only [if_true,alloc,Option.some.injEq,Prod.mk.injEq] at e2
  obtain ⟨rfl,rfl⟩:=e2
  refine k (μ1++[a]) _ (.ref a) (s1.trans (Stp.alloc R1 ha)) (R1.alloc ha q1) ⟨a,?_,rfl⟩
  rw [<-R1.len]
  simp
 | false=>
  simp only [Bool.false_eq_true,if_false] at e2
  obtain ⟨rfl,rfl⟩:=zab.mp e2
  have s2:Stp μ1 h1 H1 μ1 h1 (upd H1 a (.lst vs)):=Stp.fresh ha
  refine k μ1 _ (.ref a) (s1.trans s2) (R1.fresh ha) ?_
  simp only [RepR,RepD]
  refine ⟨a,vs,rfl,.inl ⟨λl=>?_,.inl zaj⟩,RepDs.stp s2 R1 q1⟩
  obtain ⟨ws,z,_⟩:=R1.liveAt l
  rw [ha] at z;cases z
theorem tLs.imp {K:PySem.W.Frag} {fl:IT.Env->M (List D)} {σ:St} {H:Hp} {Q Q':VK} (q:tLs K fl σ H Q) (i:∀ v H,Q v H->Q' v H):tLs K fl σ H Q':=by
 obtain ⟨μ,h,env,R0,re,xs,h',e,k⟩:=q
 exact ⟨μ,h,env,R0,re,xs,h',e,λμ' H' a vs s1 R1 q1 ha=>i _ _ (k μ' H' a vs s1 R1 q1 ha)⟩
theorem zhQ {K:PySem.W.Frag} {i:Nat} {v:V} {σ:St} {H:Hp} {Q:St->Hp->Prop} (q:tG K (.name i) v σ H Q):zkR i v σ H Q:=by
 obtain ⟨μ,h,env,r,env',R0,re,qr,e,k⟩:=q
 simp only [zaM,zab] at e
 obtain ⟨rfl,_⟩:=e
 exact k _ (re.set i qr)
theorem zkW {K:PySem.W.Frag} {t:Tg} {f:IT.Env->M R} {D:Ends} {σ:St} {H:Hp} (q:tS K (λσ=>bnd (f σ) λr=>bnd (zaM t r σ) λσ'=>ok (.nx,σ')) D σ H):tE K f σ H λx H1=>tG K t x σ H1 D.nx:=by
 obtain ⟨μ,h,env,R0,re,fl,env',h',e,k⟩:=q
 simp only [zaa,zab,Prod.mk.injEq] at e
 obtain ⟨r,h1,e1,env1,h2,e2,⟨rfl,rfl⟩,rfl⟩:=e
 have:=za4 _ _ _ _ _ _ e2
 subst this
 exact ⟨μ,h,env,R0,re,r,_,e1,λμ1 H1 v s1 R1 q1=>⟨μ1,_,env,r,env1,R1,re.stp s1 R0,q1,e2,λσ' re'=>k μ1 H1 σ' s1 R1 re'⟩⟩
noncomputable def zlO:Expr->Bool
 | .BoolOp _ _ _=>true
 | _=>false
theorem zp6 {Γ:Calls} {n:Nat} {C:Cst} {X:Cx} (G:Good Γ n C X) {b:Bi} {x:Str} {e:Expr} {es:List Expr} {p pos:Pos} {fs:IT.Env->M (List R)} (ho:biOn b=true) (hx:x=biS b) (hg:Gl X x) (ha:IA X (e::es) fs)
  (he:starEach (e::es) X.env=(false,eval e X.env)::starEach es X.env) (hpl:(backTo pos (starEach es X.env)).any (·.1)=false):IE X (.Call (.Name x p) (e::es) [] pos) (λσ=>bnd (fs σ) λrs=>bnd (rds rs) λds=>bnd (opt (biD b ds)) λz=>ok (.d z)):=by
 subst hx
 cases b with
 | len=>exact PE.imp (zcj zjE hg (G.blt _ (by decide)) PySem.boot_len ha (by decide) (by decide) he hpl) λσ H Q q=>ze8 q
 | tuple=>exact PE.imp (zbR zgE hg (G.blt _ (by decide)) PyProof.Rows.boot_tuple ha (by decide) (by decide) he hpl) λσ H Q q=>ze8 q
 | all=>exact PE.imp (zcj (zgu G.calm) hg (G.blt _ (by decide)) PyProof.Rows.boot_all ha (by decide) (by decide) he hpl) λσ H Q q=>ze8 q
 | int=>exact PE.imp (zbR zja hg (G.blt _ (by decide)) PyProof.Rows.boot_int ha (by decide) (by decide) he hpl) λσ H Q q=>ze8 q
end IT
set_option linter.all false
set_option maxHeartbeats 4000000
set_option maxRecDepth 100000
namespace IT
open PySem PySem.Spec L2
theorem zof {neg:Bool} {op:CmpOp} (h:inB neg op=true):op=if neg then .NotIn else .In:=by
 cases neg<;>cases op<;>first | rfl | exact noT h
theorem zfY:∀ {a b:List (List Nat×D)},zg7 a b=true->b=a
  | [],[],_=>rfl
  | [],_::_,h=>by cases h
  | _::_,[],h=>by cases h
  | (p1,p2)::r,(q1,q2)::t,h=>by
    simp only [zg7,Bool.and_eq_true] at h
    rw [eq_of_beq h.1.1,D.same_eq _ _ h.1.2,zfY h.2]
theorem zau {a:E} {C:Cst} {e:Expr} (h:chkT (.val a) C e=true):chkE a C e=true:=by
 unfold chkT at h
 rw [Bool.and_eq_true] at h
 exact h.1
theorem zae {Γ:Calls} {a:E} {C:Cst} {e:Expr} {X:Cx} (k:IE X e (ev Γ a)) (h:chkT (.val a) C e=true) (hn:∀ l ops rs pos,e≠.Compare l ops rs pos):IT' X e (tv Γ (.val a))/\(zlO e=true->PW X e (tTv X.K (tv Γ (.val a)))):=by
 unfold chkT at h
 rw [Bool.and_eq_true,Bool.or_eq_true] at h
 have hp:zdU e=true:=by
  rcases h.2 with z | z
  ·exact z
  ·cases e<;>first | (exact noT z) | exact absurd rfl (hn _ _ _ _)
 refine ⟨zoB k (zhY hp),λz=>?_⟩
 cases e<;>first | (exact noT z) | (first | exact noT hp | exact noF hp)
mutual
theorem okE {Γ:Calls} {n:Nat}:∀ (a:E) (C:Cst) (e:Expr) (X:Cx),chkE a C e=true->Good Γ n C X->IE X e (ev Γ a)
 | .con d,C,e,X,h,G=>by
  cases e with
  | Constant c k pos=>exact zoe (d:=d) (by simpa only [chkE] using h)
  | _=>exact noT h
 | .var i,C,e,X,h,G=>by
  cases e with
  | Name x pos=>
   simp only [chkE,Bool.and_eq_true] at h
   obtain ⟨h1,h2⟩:=zeU h.2
   exact zoV (zoG (by rw [G.N];exact eq_of_beq h.1.1) (zoK G h.1.2) h1 h2)
  | _=>exact noT h
 | .bin o a b,C,e,X,h,G=>by
  cases e with
  | BinOp l op r pos=>
   simp only [chkE,Bool.and_eq_true] at h
   exact zpe (m:=mD (bop o)) (OpD.opI (opB h.1.1)) (okE a C l X h.1.2 G) (okE b C r X h.2 G)
  | _=>exact noT h
 | .cmp o a b,C,e,X,h,G=>by
  unfold chkE at h
  split at h
  ·simp only [Bool.and_eq_true,Bool.not_eq_true'] at h
   exact zjO (m:=mD (cop o)) (OpD.opI (coBe G.room.units h.1.1.1)) (okE a C _ X h.1.1.2 G) (okE b C _ X h.1.2 G) (zeY h.2)
  ·cases h
 | .and a b,C,e,X,h,G=>by
  unfold chkE at h
  split at h
  ·rename_i v w rest pos
   simp only [Bool.and_eq_true] at h
   cases rest with
   | nil=>exact zlw (okE a C v X h.1 G) (zlI (okE b C w X h.2 G))
   | cons y ys=>exact zlw (okE a C v X h.1 G) (okE b C _ X h.2 G)
  ·cases h
 | .or a b,C,e,X,h,G=>by
  unfold chkE at h
  split at h
  ·rename_i v w rest pos
   simp only [Bool.and_eq_true] at h
   cases rest with
   | nil=>exact zot (okE a C v X h.1 G) (zlI (okE b C w X h.2 G))
   | cons y ys=>exact zot (okE a C v X h.1 G) (okE b C _ X h.2 G)
  ·cases h
 | .not a,C,e,X,h,G=>by
  unfold chkE at h
  split at h
  ·exact zpg (okE a C _ X h G)
  ·cases h
 | .ife c a b,C,e,X,h,G=>by
  unfold chkE at h
  split at h
  ·simp only [Bool.and_eq_true] at h
   exact zpr (okT c C _ X h.1.1 G).1 (okE a C _ X h.1.2 G) (okE b C _ X h.2 G)
  ·cases h
 | .tup es,C,e,X,h,G=>by
  unfold chkE at h
  split at h
  ·simp only [Bool.and_eq_true] at h
   exact znv (okEs es C _ X h.1 G) (of_decide_eq_true h.2) (λσ h0 rs h' e=>by rw [zff e];exact zcy h.1)
  ·cases h
 | .lst m l,C,e,X,h,G=>by
  cases l with
  | disp es=>exact zee m (okL (.disp es) C e X (by simpa only [chkE] using h) G)
  | comp tg it cs el=>exact zee m (zdH.il G.nox G.calm (okL (.comp tg it cs el) C e X (by simpa only [chkE] using h) G))
  | rev a=>exact zee m (okL (.rev a) C e X (by simpa only [chkE] using h) G)
  | ofD a=>exact zee m (okL (.ofD a) C e X (by simpa only [chkE] using h) G)
  | sdi a=>exact zee m (okL (.sdi a) C e X (by simpa only [chkE] using h) G)
  | sst a=>exact zee m (okL (.sst a) C e X (by simpa only [chkE] using h) G)
 | .idx a i,C,e,X,h,G=>by
  unfold chkE at h
  split at h
  ·simp only [Bool.and_eq_true,Bool.not_eq_true'] at h
   exact zpa (okE a C _ X h.1.1 G) (okE i C _ X h.1.2 G) (zeW h.2)
  ·cases h
 | .sli a lo hi,C,e,X,h,G=>by
  unfold chkE at h
  split at h
  ·rename_i x l u p2 pos
   simp only [Bool.and_eq_true] at h
   have non:∀ {z:E},zdd z=true->PO X none (tO X.K (ev Γ z)):=by
    intro z hz
    unfold zdd at hz
    split at hz
    ·exact zni
    ·cases hz
   have hl:PO X l (tO X.K (ev Γ lo)):=by
    cases l with
    | none=>exact non h.1.2
    | some y=>exact ziV (okE lo C y X h.1.2 G)
   have hu:PO X u (tO X.K (ev Γ hi)):=by
    cases u with
    | none=>exact non h.2
    | some y=>exact ziV (okE hi C y X h.2 G)
   exact zo3 (okE a C x X h.1.1 G) hl hu
  ·cases h
 | .call f es,C,e,X,h,G=>by
  unfold chkE at h
  split at h
  ·rename_i x p v vs pos
   simp only [Bool.and_eq_true] at h
   have st:=zbV h.2
   cases hp:C.fns[f]? with
   | none=>rw [hp] at h;simp at h
   | some q=>
    rw [hp] at h
    have hx:=eq_of_beq h.1.1.1
    subst hx
    exact zng (G.funs f q hp) G.room (zdB G h.1.1.2) (okEs es C _ X h.2 G) (λσ h0 rs h' e=>by rw [zff e];exact zcy h.2) (zeU h.1.2).1 (zap (st v (by simp))) (zdp λy hy=>st y (by simp [hy]))
  ·cases h
 | .bi b es,C,e,X,h,G=>by
  unfold chkE at h
  split at h
  ·rename_i x p v vs pos
   simp only [Bool.and_eq_true] at h
   have st:=zbV h.2
   exact zp6 G h.1.1.1 (eq_of_beq h.1.1.2) (zdB G h.1.2) (okEs es C _ X h.2 G) (zap (st v (by simp))) (zdp λy hy=>st y (by simp [hy]))
  ·cases h
 | .me m o es,C,e,X,h,G=>by
  unfold chkE at h
  split at h
  ·rename_i ov name apos v vs cpos
   simp only [Bool.and_eq_true] at h
   obtain ⟨⟨⟨⟨⟨⟨h0,h1⟩,h2⟩,h3⟩,h4⟩,h5⟩,h6⟩:=h
   have st:=zbV h4
   have h7:(v::vs).length<20:=of_decide_eq_true h6
   have few:((backTo cpos (starEach (v::vs) X.env)).all (λx=>!x.1)&&(backToKw cpos (keywordEach [] X.env)).all (λx=>x.1.isSome)&&decide ((v::vs).length+([]:List Keyword).length+(if ([]:List Keyword).isEmpty then 0 else 1)<30))=true:=by
    rw [zdh st]
    simp only [List.length_nil,List.isEmpty_nil,if_true,Bool.true_and,Bool.and_eq_true]
    exact ⟨rfl,decide_eq_true (by omega)⟩
   cases m with
   | append=>exact zjQ (okE o C ov X h3 G) (okEs es C _ X h4 G) (eq_of_beq h1) (zf6 h2) few h5 (zap (st v (by simp))) (zdp λy hy=>st y (by simp [hy]))
   | pop=>exact noT h0.1
  ·rename_i ov name apos cpos
   simp only [Bool.and_eq_true] at h
   obtain ⟨⟨⟨⟨⟨h0,h1⟩,h2⟩,h3⟩,h4⟩,h5⟩:=h
   cases es with
   | cons _ _=>simp [chkEs] at h4
   | nil=>
    cases m with
    | append=>exact noT h0.1
    | pop=>exact zoy (okE o C ov X h3 G) (eq_of_beq h1) (zf6 h2) h5
  ·cases h
 | .isi t a,C,e,X,h,G=>by
  unfold chkE at h
  split at h
  ·rename_i x p v y p2 pos
   simp only [Bool.and_eq_true] at h
   obtain ⟨⟨⟨⟨⟨h1,h2⟩,h3⟩,h4⟩,h5⟩,h6⟩:=h
   have hx:=eq_of_beq h1
   subst hx
   have hy:=eq_of_beq h5
   have hb:y∈zcv:=by rw [hy];cases t<;>decide
   exact zph (zdB G h2) (G.blt _ (by decide)) (okE a C v X h4 G) hy (zdB G h6) (G.blt _ hb) (by rw [zap h3];rfl)
  ·cases h
 | .lm m o a,C,e,X,h,G=>by
  unfold chkE at h
  split at h
  ·rename_i ov name apos v cpos
   simp only [Bool.and_eq_true] at h
   obtain ⟨⟨⟨⟨⟨h1,h2⟩,h3⟩,h4⟩,h5⟩,h6⟩:=h
   have st:∀ y∈[v],zas y=true:=by intro y hy;simp at hy;rw [hy];exact h4
   have few:((backTo cpos (starEach [v] X.env)).all (λx=>!x.1)&&(backToKw cpos (keywordEach [] X.env)).all (λx=>x.1.isSome)
     && decide ([v].length+([]:List Keyword).length+(if ([]:List Keyword).isEmpty then 0 else 1)<30))=true:=by
    rw [zdh st]
    simp only [List.length_nil,List.isEmpty_nil,if_true,Bool.true_and,Bool.and_eq_true]
    exact ⟨rfl,decide_eq_true (by simp)⟩
   by_cases hm:m=.countT
   ·subst hm
    exact zpj G.room.units (okE o C ov X h3 G) (okE a C v X h5 G) (eq_of_beq h1) (zeT h2) few h6 (zap h4) rfl
   ·exact zqf G.room.units hm (okE o C ov X h3 G) (okE a C v X h5 G) (eq_of_beq h1) (zeT h2) few h6 (zap h4) rfl
  ·cases h
 | .dnew,C,e,X,h,G=>by
  unfold chkE at h
  split at h
  ·exact zmt
  ·cases h
 | .dof a,C,e,X,h,G=>by
  unfold chkE at h
  split at h
  ·rename_i x p v pos
   simp only [Bool.and_eq_true] at h
   have hx:=eq_of_beq h.1.1.1
   subst hx
   exact zn0 G.calm G.room.units (zdB G h.1.1.2) (G.blt _ (by decide)) (okE a C v X h.2 G) (zap h.1.2)
  ·cases h
 | .din neg k d,C,e,X,h,G=>by
  unfold chkE at h
  split at h
  ·simp only [Bool.and_eq_true,Bool.not_eq_true'] at h
   exact zoi G.room.units (zof h.1.1.1) (okE k C _ X h.1.1.2 G) (okE d C _ X h.1.2 G) (zeY h.2)
  ·cases h
 | .dgt d k,C,e,X,h,G=>by
  unfold chkE at h
  split at h
  ·rename_i ov name apos v cpos
   simp only [Bool.and_eq_true] at h
   obtain ⟨⟨⟨⟨⟨h1,h2⟩,h3⟩,h4⟩,h5⟩,h6⟩:=h
   have st:∀ y∈[v],zas y=true:=by intro y hy;simp at hy;rw [hy];exact h4
   have few:((backTo cpos (starEach [v] X.env)).all (λx=>!x.1)&&(backToKw cpos (keywordEach [] X.env)).all (λx=>x.1.isSome)
     && decide ([v].length+([]:List Keyword).length+(if ([]:List Keyword).isEmpty then 0 else 1)<30))=true:=by
    rw [zdh st]
    simp only [List.length_nil,List.isEmpty_nil,if_true,Bool.true_and,Bool.and_eq_true]
    exact ⟨rfl,decide_eq_true (by simp)⟩
   exact znz G.room.units (okE d C ov X h3 G) (okE k C v X h5 G) (eq_of_beq h1) (zeT h2) few h6 (zap h4) rfl
  ·cases h
 | .ddx d k,C,e,X,h,G=>by
  unfold chkE at h
  split at h
  ·simp only [Bool.and_eq_true,Bool.not_eq_true'] at h
   exact zpk G.room.units (okE d C _ X h.1.1 G) (okE k C _ X h.1.2 G) (zeW h.2)
  ·cases h
 | .gdx g kvs k,C,e,X,h,G=>by
  unfold chkE at h
  split at h
  ·rename_i x p y pos
   simp only [Bool.and_eq_true,Bool.not_eq_true'] at h
   obtain ⟨⟨⟨⟨⟨h1,h2⟩,h3⟩,h4⟩,h5⟩,h6⟩:=h
   cases hp:C.gds.lookup x with
   | none=>rw [hp] at h2;cases h2
   | some kvs'=>
    rw [hp] at h2
    have hk:=zfY h2
    subst hk
    exact znD (G.gdic x _ hp) (zdB G h3) (zeU h4).1 (okE k C y X h5 G) (zeW h6)
  ·cases h
 | .stuck,C,e,X,h,G=>zkv
theorem okEs {Γ:Calls} {n:Nat}:∀ (as:List E) (C:Cst) (es:List Expr) (X:Cx),chkEs as C es=true->Good Γ n C X->IA X es (evs Γ as)
 | [],C,es,X,h,G=>by
  cases es with
  | nil=>exact zo4
  | cons _ _=>simp [chkEs] at h
 | a::as,C,es,X,h,G=>by
  cases es with
  | nil=>simp [chkEs] at h
  | cons e es=>
   simp only [chkEs,Bool.and_eq_true] at h
   exact znp (okE a C e X h.1.2 G) (okEs as C es X h.2 G) (zap h.1.1)
theorem okT {Γ:Calls} {n:Nat}:∀ (t:T) (C:Cst) (e:Expr) (X:Cx),chkT t C e=true->Good Γ n C X->IT' X e (tv Γ t)/\(zlO e=true->PW X e (tTv X.K (tv Γ t)))
 | .val (.cmp o a b),C,e,X,h,G=>by
  unfold chkT at h
  rw [Bool.and_eq_true] at h
  obtain ⟨h,h'⟩:=h
  unfold chkE at h
  split at h
  ·simp only [Bool.and_eq_true,Bool.not_eq_true'] at h
   exact ⟨zic (m:=mD (cop o)) (OpD.opI (coBe G.room.units h.1.1.1)) (okE a C _ X h.1.1.2 G) (okE b C _ X h.1.2 G) (zeY h.2) (λx y h0 r h1 e=>zpY e),λz=>by first | exact noT z | exact noF z⟩
  ·cases h
 | .val (.con d),C,e,X,h,G=>zae (okE (.con d) C e X (zau h) G) h (by intro l ops rs pos z;subst z;exact noT (zau h))
 | .val (.var i),C,e,X,h,G=>zae (okE (.var i) C e X (zau h) G) h (by intro l ops rs pos z;subst z;exact noT (zau h))
 | .val (.bin o a b),C,e,X,h,G=>zae (okE (.bin o a b) C e X (zau h) G) h (by intro l ops rs pos z;subst z;exact noT (zau h))
 | .val (.and a b),C,e,X,h,G=>zae (okE (.and a b) C e X (zau h) G) h (by intro l ops rs pos z;subst z;exact noT (zau h))
 | .val (.or a b),C,e,X,h,G=>zae (okE (.or a b) C e X (zau h) G) h (by intro l ops rs pos z;subst z;exact noT (zau h))
 | .val (.not a),C,e,X,h,G=>zae (okE (.not a) C e X (zau h) G) h (by intro l ops rs pos z;subst z;exact noT (zau h))
 | .val (.ife c a b),C,e,X,h,G=>zae (okE (.ife c a b) C e X (zau h) G) h (by intro l ops rs pos z;subst z;exact noT (zau h))
 | .val (.tup es),C,e,X,h,G=>zae (okE (.tup es) C e X (zau h) G) h (by intro l ops rs pos z;subst z;exact noT (zau h))
 | .val (.idx a i),C,e,X,h,G=>zae (okE (.idx a i) C e X (zau h) G) h (by intro l ops rs pos z;subst z;exact noT (zau h))
 | .val (.sli a lo hi),C,e,X,h,G=>zae (okE (.sli a lo hi) C e X (zau h) G) h (by intro l ops rs pos z;subst z;exact noT (zau h))
 | .val (.call f es),C,e,X,h,G=>zae (okE (.call f es) C e X (zau h) G) h (by intro l ops rs pos z;subst z;exact noT (zau h))
 | .val (.bi b es),C,e,X,h,G=>zae (okE (.bi b es) C e X (zau h) G) h (by intro l ops rs pos z;subst z;exact noT (zau h))
 | .val (.lst m l),C,e,X,h,G=>zae (okE (.lst m l) C e X (zau h) G) h (by intro _ ops rs pos z;subst z;cases l<;>simp [chkT,chkE,chkL] at h)
 | .val (.me m o es),C,e,X,h,G=>zae (okE (.me m o es) C e X (zau h) G) h (by intro l ops rs pos z;subst z;exact noT (zau h))
 | .val (.isi t a),C,e,X,h,G=>zae (okE (.isi t a) C e X (zau h) G) h (by intro l ops rs pos z;subst z;exact noT (zau h))
 | .val (.lm m o a),C,e,X,h,G=>zae (okE (.lm m o a) C e X (zau h) G) h (by intro l ops rs pos z;subst z;exact noT (zau h))
 | .val (.din neg k d),C,e,X,h,G=>by
  unfold chkT at h
  rw [Bool.and_eq_true] at h
  obtain ⟨h,h'⟩:=h
  unfold chkE at h
  split at h
  ·simp only [Bool.and_eq_true,Bool.not_eq_true'] at h
   exact ⟨znP G.room.units (zof h.1.1.1) (okE k C _ X h.1.1.2 G) (okE d C _ X h.1.2 G) (zeY h.2),λz=>by first | exact noT z | exact noF z⟩
  ·cases h
 | .val (.dnew),C,e,X,h,G=>zae (okE (.dnew) C e X (zau h) G) h (by intro l ops rs pos z;subst z;exact noT (zau h))
 | .val (.dof a),C,e,X,h,G=>zae (okE (.dof a) C e X (zau h) G) h (by intro l ops rs pos z;subst z;exact noT (zau h))
 | .val (.dgt d k),C,e,X,h,G=>zae (okE (.dgt d k) C e X (zau h) G) h (by intro l ops rs pos z;subst z;exact noT (zau h))
 | .val (.ddx d k),C,e,X,h,G=>zae (okE (.ddx d k) C e X (zau h) G) h (by intro l ops rs pos z;subst z;exact noT (zau h))
 | .val (.gdx g kvs k),C,e,X,h,G=>zae (okE (.gdx g kvs k) C e X (zau h) G) h (by intro l ops rs pos z;subst z;exact noT (zau h))
 | .val .stuck,C,e,X,h,G=>by
  refine ⟨λpins s σ H Q I q=>?_,λ_ whole pins s σ H Q I q=>?_⟩
  ·obtain ⟨μ,h,env,R0,re,t,h',e,k⟩:=q
   cases e
  ·obtain ⟨μ,h,env,R0,re,t,h',e,k⟩:=q
   cases e
 | .and a b,C,e,X,h,G=>by
  unfold chkT at h
  split at h
  ·rename_i v w rest pos
   simp only [Bool.and_eq_true] at h
   have key:PW X (.BoolOp .And (v::w::rest) pos) (tTv X.K (tv Γ (.and a b))):=by
    cases rest with
    | nil=>exact zlK (tb:=λ_ _ _=>True) (okT a C v X h.1 G).1 (zno (okT b C w X h.2 G).1)
    | cons y ys=>exact zlK (tb:=λ_ _ _=>True) (okT a C v X h.1 G).1 ((okT b C _ X h.2 G).2 rfl)
   exact ⟨key.pt,λ_=>key⟩
  ·cases h
 | .or a b,C,e,X,h,G=>by
  unfold chkT at h
  split at h
  ·rename_i v w rest pos
   simp only [Bool.and_eq_true] at h
   have key:PW X (.BoolOp .Or (v::w::rest) pos) (tTv X.K (tv Γ (.or a b))):=by
    cases rest with
    | nil=>exact zo9 (okT a C v X h.1 G).1 (znL (okT b C w X h.2 G).1)
    | cons y ys=>exact zo9 (okT a C v X h.1 G).1 ((okT b C _ X h.2 G).2 rfl)
   exact ⟨key.pt,λ_=>key⟩
  ·cases h
 | .not a,C,e,X,h,G=>by
  unfold chkT at h
  split at h
  ·exact ⟨zpm (okT a C _ X h G).1,λz=>by first | exact noT z | exact noF z⟩
  ·cases h
theorem okTs {Γ:Calls} {n:Nat}:∀ (ts:List T) (C:Cst) (es:List Expr) (X:Cx),zgF ts C es=true->Good Γ n C X->PTs X es (tTv X.K (tvs Γ ts))
 | [],C,es,X,h,G=>by
  cases es with
  | nil=>
   intro pins s σ H Q I ⟨μ,h0,env,R0,re,t,h',e,k⟩
   simp only [tvs,zab] at e
   obtain ⟨rfl,rfl⟩:=e
   exact zme pins s σ H Q I (k μ H true Stp.refl R0 rfl)
  | cons _ _=>simp [zgF] at h
 | t :: ts,C,es,X,h,G=>by
  cases es with
  | nil=>simp [zgF] at h
  | cons e es=>
   simp only [zgF,Bool.and_eq_true] at h
   obtain ⟨⟨h1,h2⟩,h3⟩:=h
   cases es with
   | cons _ _=>simp at h3
   | nil=>
    cases ts with
    | cons _ _=>simp [zgF] at h2
    | nil=>
     intro pins s σ H Q I ⟨μ,h0,env,R0,re,t',h',e,k⟩
     simp only [tvs,zaa] at e
     obtain ⟨t1,h1',e1,e2⟩:=e
     refine zl2 (okT t C _ X h1 G).1 pins s σ H Q I ⟨μ,h0,env,R0,re,t1,h1',e1,λμ1 H1 b s1 R1 hb=>?_⟩
     subst hb
     cases t1 with
     | true=>
      simp only [if_true,zab] at e2
      obtain ⟨rfl,rfl⟩:=e2
      exact k μ1 H1 _ s1 R1 rfl
     | false=>
      simp only [Bool.false_eq_true,if_false,zab] at e2
      obtain ⟨rfl,rfl⟩:=e2
      exact k μ1 H1 _ s1 R1 rfl
theorem okL {Γ:Calls} {n:Nat}:∀ (l:L) (C:Cst) (e:Expr) (X:Cx),chkL l C e=true->Good Γ n C X->match l with
  | .disp es=>IL X e (evL Γ (.disp es))
  | .comp tg it cs el=>zdH Γ X tg it cs el e
  | .rev a=>IL X e (evL Γ (.rev a))
  | .ofD a=>IL X e (evL Γ (.ofD a))
  | .sdi a=>IL X e (evL Γ (.sdi a))
  | .sst a=>IL X e (evL Γ (.sst a))
 | .disp es,C,e,X,h,G=>by
  unfold chkL at h
  split at h
  ·simp only [Bool.and_eq_true] at h
   exact zmN (okEs es C _ X h.1 G) (of_decide_eq_true h.2) (λσ h0 rs h' e=>by rw [zff e];exact zcy h.1)
  ·cases h
 | .comp tg it cs el,C,e,X,h,G=>by
  unfold chkL at h
  split at h
  ·rename_i elt g sc pos
   obtain ⟨gt,gi,gifs,ga⟩:=g
   simp only [Bool.and_eq_true,Bool.not_eq_true'] at h
   obtain ⟨⟨⟨⟨⟨⟨h1,h2⟩,h3⟩,h4,h4'⟩,h5⟩,h6⟩,h7⟩:=h
   have ea:ga=0:=by simpa using h1
   subst ea
   refine ⟨elt,gt,gi,gifs,sc,pos,(blkC C sc (zcO tg gt)).N,rfl,znf G h3,okI it C gi X h5 G gt h4',λcl pins s₂ H₂ Cc fp=>?_,ziw h2⟩
   have G':=G.blk h3 cl pins s₂ H₂ Cc fp
   exact ⟨znO G' tg gt h4,okTs cs _ gifs _ h6 G',okE el _ elt _ h7 G'⟩
  ·cases h
 | .rev a,C,e,X,h,G=>by
  unfold chkL at h
  split at h
  ·rename_i v i _ _ _ _ _
   simp only [Bool.and_eq_true] at h
   have hi:=eq_of_beq h.1
   subst hi
   exact zo5 (okE a C _ X h.2 G) (PE.imp (zpX zoW zlB) λσ H Q q=>⟨1,rfl,q⟩)
  ·cases h
 | .ofD a,C,e,X,h,G=>by
  unfold chkL at h
  split at h
  ·simp only [Bool.and_eq_true] at h
   obtain ⟨⟨⟨h1,h2⟩,h3⟩,h4⟩:=h
   have hx:=eq_of_beq h1
   subst hx
   exact znN G.calm (zdB G h2) (G.blt _ (by decide)) (okE a C _ X h4 G) (zap h3)
  ·cases h
 | .sdi a,C,e,X,h,G=>by
  unfold chkL at h
  split at h
  ·simp only [Bool.and_eq_true] at h
   obtain ⟨⟨⟨⟨⟨h1,h2⟩,h3⟩,h4⟩,h5⟩,h6⟩:=h
   have hx:=eq_of_beq h1
   subst hx
   exact znF G.room.units G.calm (zdB G h2) (G.blt _ (by decide)) (okE a C _ X h5 G) (eq_of_beq h3) (zeT h4) h6 rfl
  ·cases h
 | .sst a,C,e,X,h,G=>by
  unfold chkL at h
  split at h
  ·simp only [Bool.and_eq_true] at h
   obtain ⟨⟨⟨⟨⟨h1,h2⟩,h3⟩,h4⟩,h5⟩,h6⟩:=h
   have hx:=eq_of_beq h1
   have hy:=eq_of_beq h3
   subst hx hy
   exact zoI G.room.units G.calm (zdB G h2) (G.blt _ (by decide)) (zdB G h4) (G.blt _ (by decide)) (okE a C _ X h6 G) (zap h5) rfl
  ·cases h
theorem okI {Γ:Calls} {n:Nat}:∀ (it:I) (C:Cst) (e:Expr) (X:Cx),chkI it C e=true->Good Γ n C X->∀ tg,enuB it tg=true->PI X tg e (tI X.K (evI Γ it))
 | .seq a,C,e,X,h,G,tg,_=>znT (okE a C e X (by simpa only [chkI] using h) G)
 | .dic a,C,e,X,h,G,tg,_=>zo2 (okE a C e X (by simpa only [chkI] using h) G)
 | .rng a,C,e,X,h,G,tg,_=>by
  unfold chkI at h
  split at h
  ·rename_i x p v pos
   simp only [Bool.and_eq_true] at h
   have hx:=eq_of_beq h.1.1.1
   subst hx
   exact zoC (zdB G h.1.1.2) (G.blt _ (by decide)) (okE a C v X h.2 G) (zap h.1.2)
  ·cases h
end
end IT
set_option linter.all false
set_option maxHeartbeats 4000000
set_option maxRecDepth 100000
namespace IT
open PySem PySem.Spec L2
theorem zkA {Γ:Calls} {n:Nat} {C:Cst} {X:Cx} (G:Good Γ n C X) {tg:Tg} {a:E} {t v:Expr} {pos:Pos} (h1:zcd C tg t=true) (h3:chkE a C v=true) (h2:zas t=true) (h4:(zcb t&&zcb v)=false) (hc:zc4 v=true) (hn:zfR t=true) (hO:zlQ a=false) :
  PS X (.Assign [t] v pos) (tS X.K λσ=>bnd (ev Γ a σ) λr=>bnd (zaM tg r σ) λσ'=>ok (.nx,σ')):=by
 have g:=okTg G tg t h1
 cases t with
 | Name y py=>
  cases tg with
  | tup ts=>simp [zcd] at h1
  | name iy=>
   cases v with
   | ListComp elt gens sc cpos=>
    have hb:∃ b,swapsWith (.ListComp elt gens sc cpos) (some (.Name y py)) pos.line X.env=pure b:=⟨_,rfl⟩
    obtain ⟨b,hb⟩:=hb
    cases b with
    | false=>exact zlG (okE a C _ X h3 G) g hb (zcG h4) (zeE h2)
    | true=>
     cases a with
     | lst m l=>
      cases l with
      | disp es=>simp [chkE,chkL] at h3
      | rev a=>simp [chkE,chkL] at h3
      | ofD a=>simp [chkE,chkL] at h3
      | sdi a=>simp [chkE,chkL] at h3
      | sst a=>simp [chkE,chkL] at h3
      | comp tg2 it cs el=>
       obtain ⟨elt',gt,gi,gifs,sc',pos',N',e,ok,hi,hB,hs⟩:=okL (Γ:=Γ) (n:=n) (.comp tg2 it cs el) C _ X (by simpa only [chkE] using h3) G
       cases e
       simp only [zcd,Bool.and_eq_true] at h1
       obtain ⟨l1,l2⟩:=zlR G h1.2
       refine PS.imp (zgz G.nox G.calm ok hi hB hs hb (zjY G.nd (by rw [G.N];exact eq_of_beq h1.1) l1 l2)) λD σ H q=>?_
       have q1:=zkW q
       have q2:=zkH (fl:=evL Γ (.comp tg2 it cs el)) (m:=m) q1
       exact zdH.read (q2.imp λv H1 z=>zhQ z)
     | me m o es=>simp [chkE] at h3
     | stuck=>exact λpins s σ H D I ⟨μ,h,env,R0,re,fl,env',h',e,k⟩=>by cases e
     | _=>simp [chkE] at h3
   | SetComp _ _ _ _=>
    cases a with
    | lst m l=>cases l<;>simp [chkE,chkL] at h3
    | me m o es=>simp [chkE] at h3
    | stuck=>exact λpins s σ H D I ⟨μ,h,env,R0,re,fl,env',h',e,k⟩=>by cases e
    | _=>simp [chkE] at h3
   | DictComp _ _ _ _ _=>
    cases a with
    | lst m l=>cases l<;>simp [chkE,chkL] at h3
    | me m o es=>simp [chkE] at h3
    | stuck=>exact λpins s σ H D I ⟨μ,h,env,R0,re,fl,env',h',e,k⟩=>by cases e
    | _=>simp [chkE] at h3
   | _=>first | exact noT hc | exact noF hc
 | _=>first | exact noT hn | exact noF hn
mutual
theorem okS {Γ:Calls} {n:Nat}:∀ (s:S) (C:Cst) (st:Stmt) (X:Cx),chkS s C st=true->Good Γ n C X->PS X st (tS X.K (ex Γ s))
 | .asg tg a,C,st,X,h,G=>by
  unfold chkS at h
  split at h
  ·rename_i t v pos
   simp only [Bool.and_eq_true,Bool.not_eq_true',Bool.or_eq_true] at h
   obtain ⟨⟨⟨⟨h1,h2⟩,h3⟩,h4⟩,h5⟩:=h
   rcases h5 with h5 | h5
   ·exact zlG (okE a C v X h3 G) (okTg G tg t h1) (zgx h5) (zcG h4) (zeE h2)
   ·exact zkA G h1 h3 h2 h4 h5.1.1 h5.1.2 h5.2
  ·cases h
 | .exp a,C,st,X,h,G=>by
  unfold chkS at h
  split at h
  ·simp only [Bool.and_eq_true,Bool.not_eq_true'] at h
   exact zpq (okE a C _ X h.1 G) (zkY h.2)
  ·cases h
 | .ife c a b,C,st,X,h,G=>by
  unfold chkS at h
  split at h
  ·simp only [Bool.and_eq_true] at h
   exact zpC (okT c C _ X h.1.1 G).1 (okSs a C _ X h.1.2 G) (okSs b C _ X h.2 G)
  ·cases h
 | .for tg it body,C,st,X,h,G=>by
  unfold chkS at h
  split at h
  ·simp only [Bool.and_eq_true,Bool.not_eq_true'] at h
   obtain ⟨⟨⟨⟨h1,h1'⟩,h2⟩,h3⟩,h4⟩:=h
   exact zn8 (by rw [G.nox];exact PassesOwn.never) G.calm (okI it C _ X h2 G _ h1') (znO G tg _ h1) (okSs body C _ X h3 G) (ziw h4) (λσ h w h' e=>zj6 e)
  ·cases h
 | .ret a,C,st,X,h,G=>by
  unfold chkS at h
  split at h
  ·exact zog (okE a C _ X h G)
  ·cases h
 | .setD o i a,C,st,X,h,G=>by
  unfold chkS at h
  split at h
  ·rename_i ov iv p2 v pos
   simp only [Bool.and_eq_true,Bool.not_eq_true'] at h
   obtain ⟨⟨⟨⟨h1,h2⟩,h3⟩,h4⟩,h5⟩:=h
   exact zmP G.room.units (okE a C v X h1 G) (okE o C ov X h2 G) (okE i C iv X h3 G) (zmU h5) (zgx h4) (zcG (by rfl)) (zeE rfl)
  ·cases h
 | .unp is a,C,st,X,h,G=>by
  unfold chkS at h
  split at h
  ·rename_i ts k tp v pos
   simp only [Bool.and_eq_true,Bool.not_eq_true'] at h
   obtain ⟨⟨⟨h1,h2⟩,h3⟩,h4⟩:=h
   obtain ⟨g1,g2⟩:=zeB h1
   obtain ⟨g3,g4⟩:=zew (env:=X.env) g1
   exact zpb G.calm (okE a C v X h2 G) (okTgs G _ _ h1) (by simpa using g2) g3 g4 (zgx h3) (zcG (by rw [h4];rfl)) (zeE rfl)
  ·cases h
 | .stuck,C,st,X,h,G=>zkt
theorem okSs {Γ:Calls} {n:Nat}:∀ (ss:List S) (C:Cst) (sts:List Stmt) (X:Cx),chkSs ss C sts=true->Good Γ n C X->PSs X sts (tS X.K (exs Γ ss))
 | [],C,sts,X,h,G=>by
  cases sts with
  | nil=>exact zmK
  | cons _ _=>simp [chkSs] at h
 | s::ss,C,sts,X,h,G=>by
  cases sts with
  | nil=>simp [chkSs] at h
  | cons st sts=>
   simp only [chkSs,Bool.and_eq_true] at h
   exact zk3 (okS s C st X h.1 G) (okSs ss C sts X h.2 G)
end
end IT
set_option linter.all false
set_option maxHeartbeats 4000000
set_option maxRecDepth 100000
namespace IT
open PySem PySem.Spec L2
section
variable {K:PySem.W.Frag} {μ μ':List Addr} {h h':Sto} {H H':Hp}
theorem RepDs.less {A A':Addr->Prop} (i:∀ a,A' a->A a) {x:List D} {v:List V} (q:RepDs K A H x v):RepDs K A' H x v:=RepDs.mono (λ_ _ z=>z) (λ_ _ n z=>⟨λl=>n (i _ l),z⟩) x v q
theorem RepD.less {A A':Addr->Prop} (i:∀ a,A' a->A a) {x:D} {v:V} (q:RepD K A H x v):RepD K A' H x v:=RepD.mono (λ_ _ z=>z) (λ_ _ n z=>⟨λl=>n (i _ l),z⟩) x v q
theorem zdm (st:Stp μ h H μ' h' H') (R0:Rep K μ h H):μ'.take h.length=μ:=by
 have hl:=R0.len
 refine List.ext_getElem? λi=>?_
 by_cases hi:i<μ.length
 ·rw [List.getElem?_take_of_lt (by omega),st.pre i μ[i] (List.getElem?_eq_getElem hi),List.getElem?_eq_getElem hi]
 ·rw [List.getElem?_eq_none (by simp;omega),List.getElem?_eq_none (by omega)]
theorem zfS {n:Nat}:∀ a,Live (μ'.take n) (h'.take n) a->Live μ' h' a:=by
 rintro a ⟨i,o,e1,e2,e3⟩
 have hi:i<n:=by
  have:=(List.getElem?_eq_some_iff.mp e1).1
  simp at this
  omega
 rw [List.getElem?_take_of_lt hi] at e1 e2
 exact ⟨i,o,e1,e2,e3⟩
noncomputable def R.locs:R->List Nat
 | .d _=>[]
 | .loc l=>[l]
noncomputable def Ob.locs:Ob->List Nat
 | .lst _=>[]
 | .fro _=>[]
 | .ols ls=>ls
 | .dic _=>[]
 | .dfr _=>[]
 | .ins _ fs=>(fs.map λp=>R.locs p.2).flatten
theorem zcP {α β:Type} {F:α->β->Prop}:∀ {xs:List α} {ys:List β} {x:α},Paired F xs ys->x∈xs->∃ y,F x y
 | _,_,_,.nil,h=>by simp at h
 | _,_,x,.cons r t,h=>by
  rcases List.mem_cons.mp h with rfl | h
  ·exact ⟨_,r⟩
  ·exact zcP t h
theorem zbJ {α β:Type} {F G:α->β->Prop}:∀ {xs:List α} {ys:List β},Paired F xs ys->(∀ x∈xs,∀ y,F x y->G x y)->Paired G xs ys
 | _,_,.nil,_=>.nil
 | _,_,.cons r t,f=>.cons (f _ (by simp) _ r) (zbJ t λx hx=>f x (by simp [hx]))
theorem ziv {a:Addr} {o:Ob} (q:RepO K μ h H a o):∀ l∈o.locs,l<μ.length:=by
 intro l hl
 cases o with
 | lst _=>simp [Ob.locs] at hl
 | fro _=>simp [Ob.locs] at hl
 | dic _=>simp [Ob.locs] at hl
 | dfr _=>simp [Ob.locs] at hl
 | ols ls=>
  obtain ⟨vs,_,z⟩:=q
  obtain ⟨v,b,eb,_⟩:=zcP z hl
  exact (List.getElem?_eq_some_iff.mp eb).1
 | ins c fs=>
  obtain ⟨C,dx,fs',_,_,z⟩:=q
  simp only [Ob.locs,List.mem_flatten,List.mem_map] at hl
  obtain ⟨_,⟨p,hp,rfl⟩,hl⟩:=hl
  obtain ⟨q',_,qr⟩:=zcP z hp
  cases hr:p.2 with
  | d x=>rw [hr] at hl;simp [R.locs] at hl
  | loc k=>
   rw [hr] at hl qr
   simp [R.locs] at hl
   subst hl
   obtain ⟨b,eb,_⟩:=qr
   exact (List.getElem?_eq_some_iff.mp eb).1
theorem zfs {μ2:List Addr} {h2:Sto} {a:Addr} {o:Ob} (q:RepO K μ' h' H' a o) (lv:∀ b,Live μ2 h2 b->Live μ' h' b) (cl:∀ l∈o.locs,∀ b,μ'[l]?=some b->μ2[l]?=some b):RepO K μ2 h2 H' a o:=by
 cases o with
 | lst xs=>obtain ⟨vs,e,z⟩:=q;exact ⟨vs,e,z.less lv⟩
 | fro xs=>obtain ⟨vs,e,z⟩:=q;exact ⟨vs,e,z.less lv⟩
 | dic kvs=>obtain ⟨xs,e,z⟩:=q;exact ⟨xs,e,zbJ z λp _ r y=>⟨y.1,⟨y.2.1.1,RepD.less lv y.2.1.2⟩,RepD.less lv y.2.2⟩⟩
 | dfr kvs=>obtain ⟨ob,xs,e,z⟩:=q;exact ⟨ob,xs,e,zbJ z λp _ r y=>⟨y.1,⟨y.2.1.1,RepD.less lv y.2.1.2⟩,RepD.less lv y.2.2⟩⟩
 | ols ls=>obtain ⟨vs,e,z⟩:=q;exact ⟨vs,e,zbJ z λl hl v ⟨b,eb,ev⟩=>⟨b,cl l hl b eb,ev⟩⟩
 | ins c fs=>
  obtain ⟨C,dx,fs',hC,e,z⟩:=q
  refine ⟨C,dx,fs',hC,e,zbJ z λp hp q' ⟨e1,qr⟩=>⟨e1,?_⟩⟩
  cases hr:p.2 with
  | d x=>rw [hr] at qr;exact RepD.less lv qr
  | loc k=>
   rw [hr] at qr
   obtain ⟨b,eb,ev⟩:=qr
   refine ⟨b,cl k ?_ b eb,ev⟩
   simp only [Ob.locs,List.mem_flatten,List.mem_map]
   exact ⟨_,⟨p,hp,rfl⟩,by rw [hr];simp [R.locs]⟩
theorem R.same_eq {x y:R} (e:x.same y=true):x=y:=by
 cases x with
 | d x=>
  cases y with
  | d y=>rw [D.same_eq x y e]
  | loc _=>cases e
 | loc l=>
  cases y with
  | d _=>cases e
  | loc k=>simp only [R.same] at e;rw [eq_of_beq e]
theorem zfl:∀ {fs gs:List (Str×R)},zcr fs gs=true->fs=gs
  | [],[],_=>rfl
  | [],_::_,e=>by simp [zcr] at e
  | (f,x)::r,[],e=>by simp [zcr] at e
  | (f,x)::r,(g,y)::t,e=>by
    simp only [zcr,Bool.and_eq_true] at e
    obtain ⟨⟨e1,e2⟩,e3⟩:=e
    rw [eq_of_beq e1,R.same_eq e2,zfl e3]
theorem zfM:∀ {h h1:Sto} {i:Nat} {o1:Ob},objs h h1=true->h1[i]?=some o1->i<h.length->∃ o,h[i]?=some o/\o1.locs=o.locs
 | [],_,_,_,_,_,hi=>by simp at hi
 | o::h,[],_,_,e,_,_=>by simp [objs] at e
 | o::h,o1::t,0,x,e,ex,_=>by
  simp only [List.getElem?_cons_zero,Option.some.injEq] at ex
  subst ex
  refine ⟨o,rfl,?_⟩
  simp only [objs,Bool.and_eq_true] at e
  have e:=e.1
  cases o<;>cases o1<;>simp only [Bool.false_eq_true] at e<;>try rfl
  ·simp only [Bool.and_eq_true] at e
   rw [zfl e.2]
   rfl
  ·simp only [Ob.locs]
   rw [eq_of_beq e]
 | o::h,o1::t,i+1,x,e,ex,hi=>by
  simp only [objs,Bool.and_eq_true] at e
  obtain ⟨o',e1,e2⟩:=zfM (i:=i) e.2 (by simpa using ex) (by simpa using hi)
  exact ⟨o',by simpa using e1,e2⟩
theorem zkL (st:Stp μ h H μ' h' H') (R0:Rep K μ h H) (R1:Rep K μ' h' H'):Stp μ h H μ (h'.take h.length) H':=by
 refine ⟨λ_ _ e=>e,st.keep,λa l=>st.live a (zfS (n:=h.length) a ?_)⟩
 rw [zdm st R0]
 exact l
theorem znn {keep:Bool} {r r2:R} {v:V} {h2:Sto} (st:Stp μ h H μ' h' H') (R0:Rep K μ h H) (R1:Rep K μ' h' H') (ob:objs h h'=true) (q:RepR K μ' h' H' r v) (e:fin0 h.length keep r h'=some (r2,h2)) :
  ∃ μ2,Stp μ h H μ2 h2 H'/\Rep K μ2 h2 H'/\RepR K μ2 h2 H' r2 v:=by
 have st1:=zkL st R0 R1
 have lv:∀ a,Live μ (h'.take h.length) a->Live μ' h' a:=λa l=>zfS (n:=h.length) a (by rw [zdm st R0];exact l)
 have hlen:=R0.len
 have at1:∀ (l:Nat) (b:Addr),l<h.length->μ'[l]?=some b->μ[l]?=some b:=λl b hl eb=>by
  rw [<-zdm st R0,List.getElem?_take_of_lt hl];exact eb
 have small:∀ (i:Nat) (o:Ob),i<h.length->h'[i]?=some o->∀ l∈o.locs,l<h.length:=by
  intro i o hi ho l hl
  obtain ⟨o0,e0,el⟩:=zfM ob ho hi
  rw [el] at hl
  have hi':i<μ.length:=by omega
  have:=ziv (R0.obj i μ[i] o0 (List.getElem?_eq_getElem hi') e0) l hl
  omega
 have R2:Rep K μ (h'.take h.length) H':=by
  have hl':(h'.take h.length).length=h.length:=by
   have:=R1.len
   have h3:μ.length<=μ'.length:=by rw [<-zdm st R0,List.length_take];exact Nat.min_le_right _ _
   simp;omega
  refine ⟨by rw [hl'];exact hlen,R0.nd,λi a o e1 e2=>?_⟩
  have hi:i<h.length:=by rw [<-hlen];exact (List.getElem?_eq_some_iff.mp e1).1
  rw [List.getElem?_take_of_lt hi] at e2
  exact zfs (R1.obj i a o (st.pre i a e1) e2) lv λl hl b eb=>at1 l b (small i o hi e2 l hl) eb
 cases r with
 | d x=>
  simp only [fin0,Option.some.injEq,Prod.mk.injEq] at e
  obtain ⟨rfl,rfl⟩:=e
  exact ⟨μ,st1,R2,RepD.less lv q⟩
 | loc l =>
  obtain ⟨a,ea,rfl⟩:=q
  simp only [fin0] at e
  by_cases hl:l<h.length
  ·rw [if_pos hl] at e
   simp only [Option.some.injEq,Prod.mk.injEq] at e
   obtain ⟨rfl,rfl⟩:=e
   exact ⟨μ,st1,R2,a,at1 l a hl ea,rfl⟩
  ·rw [if_neg hl] at e
   obtain ⟨o,ho⟩:=R1.placeO ea
   rw [ho] at e
   have apart:a ∉ μ:=by
    intro hm
    obtain ⟨i,hi,ei⟩:=List.getElem_of_mem hm
    have:=zeO R1.nd (st.pre i a (by rw [List.getElem?_eq_getElem hi,ei])) ea
    omega
   have data:∀ xs,o.isL=true->o.items=xs->∃ μ2,Stp μ h H μ2 (h'.take h.length) H'/\Rep K μ2 (h'.take h.length) H'/\RepR K μ2 (h'.take h.length) H' (.d (.lst xs)) (.ref a):=by
    rintro xs il rfl
    obtain ⟨vs,hH,z⟩:=R1.placeL ea ho il
    refine ⟨μ,st1,R2,?_⟩
    simp only [RepR,RepD]
    refine ⟨a,vs,rfl,.inl ⟨?_,.inl hH⟩,z.less lv⟩
    rintro ⟨i,ys,e1,e2,_⟩
    exact apart (List.mem_of_getElem? e1)
   cases o with
   | ins _ _=>cases e
   | ols _=>cases e
   | dic _=>cases e
   | dfr _=>cases e
   | fro xs=>
    simp only [Option.some.injEq,Prod.mk.injEq] at e
    obtain ⟨rfl,rfl⟩:=e
    exact data xs rfl rfl
   | lst xs=>
    cases keep with
    | false=>
     simp only [Bool.false_eq_true,if_false,Option.some.injEq,Prod.mk.injEq] at e
     obtain ⟨rfl,rfl⟩:=e
     exact data xs rfl rfl
    | true=>
     simp only [if_true,Option.some.injEq,Prod.mk.injEq] at e
     obtain ⟨rfl,rfl⟩:=e
     obtain ⟨vs,hH,z⟩:=R1.placeL ea ho rfl
     have hl2:(h'.take h.length).length=μ.length:=by rw [<-R2.len]
     have lv2:∀ b,Live (μ++[a]) (h'.take h.length++[.lst xs]) b->Live μ' h' b:=by
      intro b l2
      rcases (zhb R2.len).mp l2 with w | ⟨rfl,_⟩
      ·exact lv b w
      ·exact ⟨l,_,ea,ho,rfl⟩
     refine ⟨μ++[a],⟨λi b e=>?_,st.keep,λb l2=>st.live b (lv2 b l2)⟩,⟨by simp [hl2],?_,λi b o e1 e2=>?_⟩,a,?_,rfl⟩
     ·rw [List.getElem?_append_left (List.getElem?_eq_some_iff.mp e).1];exact e
     ·rw [List.nodup_append]
      refine ⟨R0.nd,by simp,λb hb c hc=>?_⟩
      simp at hc
      subst hc
      rintro rfl
      exact apart hb
     ·by_cases hi:i<μ.length
      ·rw [List.getElem?_append_left hi] at e1
       rw [List.getElem?_append_left (by omega)] at e2
       have hi2:i<h.length:=by omega
       rw [List.getElem?_take_of_lt hi2] at e2
       refine zfs (R1.obj i b o (st.pre i b e1) e2) lv2 λk hk c ec=>?_
       have hk2:=small i o hi2 e2 k hk
       rw [List.getElem?_append_left (by omega)]
       exact at1 k c hk2 ec
      ·rw [List.getElem?_append_right (by omega)] at e1
       rw [List.getElem?_append_right (by omega)] at e2
       have hz:i-μ.length=0:=by
        cases hk:i-μ.length with
        | zero=>rfl
        | succ k=>rw [hk] at e1;simp at e1
       rw [hl2,hz] at e2
       rw [hz] at e1
       simp at e1 e2
       subst e1 e2
       exact ⟨vs,hH,z.less lv2⟩
     ·rw [hlen.symm]
      simp
theorem zlJ {all keep:Bool} {r r2:R} {v:V} {h2:Sto} (st:Stp μ h H μ' h' H') (R0:Rep K μ h H) (R1:Rep K μ' h' H') (q:RepR K μ' h' H' r v) (e:fin h all keep r h'=some (r2,h2)) :
  ∃ μ2,Stp μ h H μ2 h2 H'/\Rep K μ2 h2 H'/\RepR K μ2 h2 H' r2 v:=by
 unfold fin at e
 cases all with
 | true=>
  simp only [if_true,Option.some.injEq,Prod.mk.injEq] at e
  obtain ⟨rfl,rfl⟩:=e
  exact ⟨μ',st,R1,q⟩
 | false=>
  simp only [Bool.false_eq_true,if_false] at e
  split at e
  ·rename_i ob
   exact znn st R0 R1 ob q e
  ·cases e
end
structure Fun2 (K:PySem.W.Frag) (x qual:Str) (st:Stmt) (f:Addr) (fd:FuncData):Prop where
 ex:∃ (oc:Value) (od:Option Addr) (dV kV doc pm:Value) (an:Option Addr) (cdv ct:Value) (osl:Array (Option Value)),
  fd=PySem.W.fnOf x qual (zcR st) (zag st) (zac st) dV kV doc pm an cdv ct/\K.lookup f=some ⟨oc,od,.func fd,osl⟩/\PySem.W.codeIn K cdv qual=true
 kp:PySem.W.keepIn K (.ref f)=true
section
variable {P:Program} {w:World} {K:PySem.W.Frag} {mg:Str->Option Value} {base:Heap}
theorem Fun2.ok {x qual:Str} {st:Stmt} {f:Addr} {fd:FuncData} {N ps:List Str} {k:Nat} {sp:Sp} (F:Fun2 K x qual st f fd) (S:zam N ps (zac st)) (len:∀ vs H Q E,sp vs H Q E->vs.length=ps.length)
  (hbody:∀ (cdv:Value) (A:Around) (outer:List PySem.Env) (s:Shared) (H:Hp) (vs:List V) (Q:VK) (E:XK),Room k (A.deeper (PyProof.Rows.envOfC qual (zac st) s.heap.objs.size f cdv))->sp vs H Q E →
   ∃ t,PSs (cxOf CX0 P w K mg base N qual (zac st) f cdv A outer s H E).nox (zag st) t/\t { nx:=λ_ H'=>Q .non H',rt:=Q } (L2.start N vs) H):FnOk P w K mg base CX0 (k+1) f fd ps sp:=by
 obtain ⟨oc,od,dV,kV,doc,pm,an,cdv,ct,osl,rfl,lk,hcd⟩:=F.ex
 refine znU lk hcd S len λA outer s H vs Q E hr hsp=>?_
 obtain ⟨t,h,q⟩:=hbody cdv A outer s H vs Q E hr hsp
 exact ⟨t,h.nox,q⟩
theorem zat {x qual:Str} {st:Stmt} {f:Addr} {oc:Value} {od an:Option Addr} {osl:Array (Option Value)} {dV kV doc pm cdv ct:Value} (l:K.lookup f=some ⟨oc,od,.func (PySem.W.fnOf x qual (zcR st) (zag st) (zac st) dV kV doc pm an cdv ct),osl⟩)
  (c:PySem.W.codeIn K cdv qual=true) (k:PySem.W.keepIn K (.ref f)=true):Fun2 K x qual st f (PySem.W.fnOf x qual (zcR st) (zag st) (zac st) dV kV doc pm an cdv ct):=⟨⟨oc,od,dV,kV,doc,pm,an,cdv,ct,osl,rfl,l,c⟩,k⟩
end
structure za6 (K:PySem.W.Frag) (fns:List (Str×Nat×List D)) (cls:List zjS) (Pr:List F) (globs:List (Str×D)) (gds:List (Str×List (List Nat×D))) (fi:Nat) (x qual:Str) (st:Stmt) (f:Addr) (fd:FuncData) (N ps:List Str) (B:F):Prop where
 at':Pr[fi]?=some B
 fn:Fun2 K x qual st f fd
 sc:zam N ps (zac st)
 np:B.np=ps.length
 ns:B.ns=N.length
 bi:∃ dvs,(∀ A H,RepDs K A H B.dfl dvs)/\∀ j,j<=B.dfl.length->∃ ds,zaL K fd ps ds/\Vals (dvs.drop j) ds
 chk:chkSs B.body ⟨N,(zac st).names,fns,globs,true,cls,gds⟩ (zag st)=true
structure Txt (w:World) (K:PySem.W.Frag) (mg:Str->Option Value) (fns:List (Str×Nat×List D)) (cls:List zjS) (Pr:List F) (globs:List (Str×D)) (gds:List (Str×List (List Nat×D))) (addr:Nat->Addr) (fdOf:Nat->FuncData) (psOf:Nat->List Str):Prop where
 defs:∀ fi B,Pr[fi]?=some B->∃ x qual st N,za6 K fns cls Pr globs gds fi x qual st (addr fi) (fdOf fi) N (psOf fi) B
 blt:∀ x∈zcv,mg x=none
 glob:∀ (x:Str) (d:D),globs.lookup x=some d->∃ u v,mg x=some u/\RelV v u/\∀ A H,RepD K A H d v
 gdic:∀ (x:Str) (kvs:List (List Nat×D)),gds.lookup x=some kvs->GDic K w mg x kvs
 funs:∀ fi p,fns[fi]?=some p->mg p.1=some (.ref (addr fi))/\∃ B,Pr[fi]?=some B/\B.np=p.2.1/\B.dfl=p.2.2
 makes:∀ i∈cls,∃ C B,mg i.name=some (.ref C)/\PySem.W.nsIn K mainGlobals i.name=some (some (.ref C))/\Cls K C/\Mk K C (addr i.init)/\Pr[i.init]?=some B/\B.dfl=[]
 meths:∀ i∈cls,∀ p∈i.meths,∃ C B,PySem.W.nsIn K mainGlobals i.name=some (some (.ref C))/\Cls K C/\Meth K C p.1 (addr p.2)/\Pr[p.2]?=some B/\B.dfl=[]
 attrs:∀ i∈cls,∀ f∈i.fields,∀ A,PySem.W.nsIn K mainGlobals i.name=some (some (.ref A))->zje K A f
section
variable {P:Program} {w:World} {K:PySem.W.Frag} {mg:Str->Option Value} {base:Heap} {fns:List (Str×Nat×List D)} {cls:List zjS} {Pr:List F} {globs:List (Str×D)} {gds:List (Str×List (List Nat×D))} {addr:Nat->Addr} {fdOf:Nat->FuncData} {psOf:Nat->List Str}
theorem zfT {np:Nat} {dfl:List D} {rs:List R} (h:np<=rs.length):zaV np dfl rs=rs:=by
 rw [zcF (by omega),List.drop_eq_nil_of_le (by omega)]
 simp
theorem ziW {np:Nat} {dfl:List D} {rs:List R}:zaV np dfl (zaV np dfl rs)=zaV np dfl rs:=by
 by_cases hs:rs.length+dfl.length<np
 ·rw [zc1 hs,zc1 hs]
 ·refine zfT ?_
  rw [zcF hs]
  simp only [List.length_append,List.length_map,List.length_drop]
  omega
theorem zhI {m fi:Nat} {B:F} (e0:Pr[fi]?=some B) (rs:List R):zan Pr m fi rs=zan Pr m fi (zaV B.np B.dfl rs):=by
 cases m with
 | zero=>rfl
 | succ m=>
  funext h
  rw [zbq,zbq]
  simp only [e0]
  rw [ziW]
theorem zfU {m fi:Nat} {B:F} {rs:List R} {h:Sto} {p:R×Sto} (e0:Pr[fi]?=some B) (e:zan Pr (m+1) fi rs h=some p):(zaV B.np B.dfl rs).length=B.np:=by
 rw [zbq] at e
 simp only [e0] at e
 split at e
 ·assumption
 ·cases e
theorem zbi.env {μ:List Addr} {h:Sto} {H:Hp} {rs:List R} {vs:List V} (q:zbi K μ h H rs vs) (i:Nat) (r:R) (e:(rs.map some)[i]?=some (some r)):∃ v,(vs.map some)[i]?=some (some v)/\RepR K μ h H r v:=by
 induction q generalizing i with
 | nil=>simp at e
 | @cons r' v rs vs q1 _ ih=>
  cases i with
  | zero=>simp at e;subst e;exact ⟨v,rfl,q1⟩
  | succ i=>
   simp only [List.map_cons,List.getElem?_cons_succ] at e ⊢
   exact ih i e
theorem zen {m fi:Nat} {B:F} {rs:List R} {h:Sto} {p:R×Sto} (e0:Pr[fi]?=some B) (ed:B.dfl=[]) (e:zan Pr m fi rs h=some p):rs.length=B.np:=by
 cases m with
 | zero=>cases e
 | succ m=>
  have:=zfU e0 e
  rw [ed] at this
  have ef:zaV B.np [] rs=rs:=by
   unfold zaV
   split
   ·rfl
   ·simp
  rwa [ef] at this
theorem zhZ {m fi:Nat} {B:F} {rs:List R} {h:Sto} {p:R×Sto} (e0:Pr[fi]?=some B) (e:zan Pr m fi rs h=some p):(zaV B.np B.dfl rs).length=B.np:=by
 cases m with
 | zero=>cases e
 | succ m=>exact zfU e0 e
theorem zoz {m fi:Nat} {x qual:Str} {st:Stmt} {f:Addr} {fd:FuncData} {N ps:List Str} {B:F} (T:Txt w K mg fns cls Pr globs gds addr fdOf psOf) (Dd:za6 K fns cls Pr globs gds fi x qual st f fd N ps B)
  (ih:∀ g B,Pr[g]?=some B->FnOk P w K mg base CX0 (2*m) (addr g) (fdOf g) (psOf g) (spF K (psOf g).length (zan Pr m g))):FnOk P w K mg base CX0 (2*m+2) f fd ps (spF K ps.length (zan Pr (m+1) fi)):=by
 refine Dd.fn.ok (k:=2*m+1) Dd.sc (λvs H Q E h=>?_) (λcdv A outer s H vs Q E hr h=>?_)
 ·exact h.1
 ·have G:Good (zan Pr m) (2*m) ⟨N,(zac st).names,fns,globs,true,cls,gds⟩ (cxOf CX0 P w K mg base N qual (zac st) f cdv A outer s H E).nox:=by
   refine ⟨rfl,rfl,hr.mono (by omega),hr,Dd.sc.kind,rfl,Dd.sc.nd,rfl,λ_ _=>rfl,λg y e=>?_,T.blt,T.glob,T.gdic,λi hi=>?_,λi hi p hp=>?_,T.attrs⟩
   ·obtain ⟨e1,B',e2,e3,e4⟩:=T.funs g y e
    obtain ⟨x',q',st',N',d'⟩:=T.defs g B' e2
    obtain ⟨dvs,b1,b2⟩:=d'.bi
    rw [<-e3,<-e4]
    have:=ih g B' e2
    rw [<-d'.np] at this
    exact ⟨⟨addr g,fdOf g,psOf g,dvs,this,e1,d'.fn.kp,b1,b2⟩,zhI d'.at',λrs h p e=>zhZ d'.at' e⟩
   ·obtain ⟨C,B',e1,e2,e3,e4,e5,e6⟩:=T.makes i hi
    obtain ⟨x',q',st',N',d'⟩:=T.defs _ B' e5
    obtain ⟨dvs,b1,b2⟩:=d'.bi
    have:=ih _ B' e5
    rw [<-d'.np] at this
    obtain ⟨ds,c1,c2⟩:=b2 0 (Nat.zero_le _)
    have hd:ds=[]:=by
     have hv:dvs=[]:=by
      have:=b1 (λ_=>False) (λ_=>none)
      rw [e6] at this
      simpa [RepDs] using this
     rw [hv] at c2
     cases c2
     rfl
    subst hd
    exact ⟨B'.np,⟨C,addr i.init,fdOf i.init,psOf i.init,e1,e2,e3,e4,this,c1⟩,λrs h p e=>zen d'.at' e6 e⟩
   ·obtain ⟨C,B',e2,e3,e4,e5,e6⟩:=T.meths i hi p hp
    obtain ⟨x',q',st',N',d'⟩:=T.defs _ B' e5
    obtain ⟨dvs,b1,b2⟩:=d'.bi
    have:=ih _ B' e5
    rw [<-d'.np] at this
    obtain ⟨ds,c1,c2⟩:=b2 0 (Nat.zero_le _)
    have hd:ds=[]:=by
     have hv:dvs=[]:=by
      have:=b1 (λ_=>False) (λ_=>none)
      rw [e6] at this
      simpa [RepDs] using this
     rw [hv] at c2
     cases c2
     rfl
    subst hd
    exact ⟨B'.np,⟨C,addr p.2,fdOf p.2,psOf p.2,e2,e3,e4,this,c1⟩,λrs h p e=>zen d'.at' e6 e⟩
  refine ⟨_,okSs B.body _ (zag st) _ Dd.chk G,?_⟩
  obtain ⟨hv0,μ,h0,rs,R0,qr,r,h',e,k⟩:=h
  have hl0:rs.length=B.np:=by rw [qr.length,hv0,Dd.np]
  have ef:zaV B.np B.dfl rs=rs:=zfT (by omega)
  rw [zbq] at e
  simp only [Dd.at'] at e
  rw [ef,if_pos hl0] at e
  have hpl:ps.length<=N.length:=by have:=congrArg List.length Dd.sc.pre;rw [List.length_take] at this;omega
  have re:RepE K μ h0 H (rs.map some++List.replicate (B.ns-B.np) none) (L2.start N vs):=by
   have hv:=qr.length
   have h1:=Dd.np
   have h2:=Dd.ns
   refine ⟨?_,λi r e=>?_⟩
   ·unfold L2.start
    simp
    omega
   ·by_cases hi:i<rs.length
    ·rw [List.getElem?_append_left (by simpa using hi)] at e
     obtain ⟨v,e1,z⟩:=qr.env i r e
     refine ⟨v,?_,z⟩
     unfold L2.start
     rw [List.getElem?_append_left (by simp;omega)]
     exact e1
    ·rw [List.getElem?_append_right (by simpa using hi),List.getElem?_replicate] at e
     split at e<;>cases e
  cases eb:exs (zan Pr m) B.body (rs.map some++List.replicate (B.ns-B.np) none) h0 with
  | none=>rw [eb] at e;cases e
  | some p=>
   obtain ⟨⟨fl,env'⟩,h1⟩:=p
   rw [eb] at e
   refine ⟨μ,h0,_,R0,re,fl,env',h1,eb,λμ' H' σ' st1 R1 _=>?_⟩
   cases fl with
   | ret r1=>
    intro v qv
    obtain ⟨μ2,st2,R2,q2⟩:=zlJ st1 R0 R1 qv e
    exact k μ2 H' v st2 R2 q2
   | nx=>
    obtain ⟨μ2,st2,R2,q2⟩:=zlJ (v:=.non) st1 R0 R1 (by simp only [RepR,RepD]) e
    exact k μ2 H' .non st2 R2 q2
   | brk=>cases e
   | cnt=>cases e
theorem zjp {fi np:Nat} {f:Addr} {fd:FuncData} {ps:List Str}:FnOk P w K mg base CX0 0 f fd ps (spF K np (zan Pr 0 fi)):=by
 refine ⟨λvs H Q E h=>?_,λA outer s H args us vs Q E hr e0 hb r h=>?_⟩
 ·obtain ⟨_,μ,h0,rs,R0,qr,r,h',e,k⟩:=h
  cases e
 ·obtain ⟨_,μ,h0,rs,R0,qr,r,h',e,k⟩:=h
  cases e
theorem ziu (T:Txt w K mg fns cls Pr globs gds addr fdOf psOf):∀ m fi B,Pr[fi]?=some B->FnOk P w K mg base CX0 (2*m) (addr fi) (fdOf fi) (psOf fi) (spF K (psOf fi).length (zan Pr m fi))
 | 0,fi,B,e=>zjp
 | m+1,fi,B,e=>by
  obtain ⟨x,q,st,N,d⟩:=T.defs fi B e
  exact zoz T d λg B' e'=>ziu T m g B' e'
end
theorem zhm {K:PySem.W.Frag} {A:Addr->Prop} {H:Hp}:∀ ns:List Int,RepDs K A H (ns.map D.int) (ns.map V.int)
 | []=>.nil
 | n::r=>.cons (by simp only [RepD]) (zhm r)
theorem zjJ {K:PySem.W.Frag} {m:List R->M R} {H:Hp} {a:Addr} {ns:List Int} {E:XK} (hS:SqL K H a (ns.map V.int)) (e:m [.d (.lst (ns.map .int))] []=some (.d (.bl true),[])):spF K 1 m [.ref a] H (λv _=>v=.bl true) E:=by
 have nl:∀ b,¬ Live [] [] b:=by
  rintro b ⟨i,xs,e1,_⟩
  simp at e1
 refine ⟨rfl,[],[],[.d (.lst (ns.map .int))],⟨rfl,by simp,λi a o e1 _=>by simp at e1⟩,.cons ?_ .nil,_,_,e,λμ' H' v st R1 q=>?_⟩
 ·simp only [RepR,RepD]
  refine ⟨a,ns.map V.int,rfl,?_,zhm ns⟩
  rcases hS with z | z
  ·exact .inl ⟨nl a,z⟩
  ·exact .inr z
 ·simpa only [RepR,RepD] using q
theorem us1 {P:List Value->Prop} (h:∀ a0,P [a0]):∀ us:List Value,us.length=1->P us
 | [a0],_=>h a0
theorem us2 {P:List Value->Prop} (h:∀ a0 a1,P [a0,a1]):∀ us:List Value,us.length=2->P us
 | [a0,a1],_=>h a0 a1
theorem us3 {P:List Value->Prop} (h:∀ a0 a1 a2,P [a0,a1,a2]):∀ us:List Value,us.length=3->P us
 | [a0,a1,a2],_=>h a0 a1 a2
inductive Idx {α:Type} (Q:Nat->α->Prop):Nat->List α->Prop where
 | nil {i:Nat}:Idx Q i []
 | cons {i:Nat} {x:α} {r:List α}:Q i x->Idx Q (i+1) r->Idx Q i (x::r)
theorem Idx.get {α:Type} {Q:Nat->α->Prop}:∀ {l:List α} {i:Nat},Idx Q i l->∀ {n:Nat} {x:α},l[n]?=some x->Q (i+n) x
 | _,_,.nil,_,_,e=>by simp at e
 | _,i,.cons q r,0,_,e=>by cases e;exact q
 | _,i,.cons q r,n+1,_,e=>by
  have:=Idx.get r (n:=n) (by simpa using e)
  rwa [Nat.add_assoc,Nat.add_comm 1] at this
open PySem.W in
theorem toX {q:Program} {loose:List Str} {XP:(Str->Option Value)->Heap->Prop} {as:List Addr} {K:Params->Frag} {n t:Nat} {r:RowW} {d:DefRec} {kwd:List (Str×Expr)} {run:Value->List Value->Sem Value} (e:∀ P,as=(K P).map (·.1))
  (h:WalkO q loose XP (InK K) r d kwd run):WalkX q loose XP (X.obsZ as) (X.valZ K n t) r d kwd run:=by
 intro w s₀ s₁ mg mb G y a o pm cd doc dV kV h1 h2 h3 h4 h5 h6 args vals as' L
 exact h w s₀ s₁ mg mb G (InK.keeps w _ _ (X.z_facts e y).2.1 L.keeps) a o pm cd doc dV kV h1 h2 h3 h4 h5 h6 args vals as'
end IT
set_option linter.all false
namespace K42
open IT
/- has_version_of (0): 0 value,1 last -/
noncomputable def zaZ:List S:=[
 .ret (.cmp .eq (.idx (.var 0) (.con (.int 0))) (.idx (.var 1) (.con (.int 0))))]
/- mark_of (1): 0 value,1 last -/
noncomputable def zdI:List S:=[
 .ife (.val (.cmp .isN (.var 0) (.con .non))) [.ret (.con (.str [110,111,110,101]))] [],
 .ret (.ife (.val (.call 0 [(.var 0),(.var 1)])) (.con (.str [108,97,115,116])) (.con (.str [111,108,100])))]
/- letter_mark (2): 0 value,1 last -/
noncomputable def zbv:List S:=[
 .ret (.ife (.val (.cmp .isN (.var 0) (.con .non))) (.con (.str [98,97,114,101])) (.call 1 [(.var 0),(.var 1)]))]
/- config_of (3): 0 line,1 last -/
noncomputable def zce:List S:=[
 .ret (.tup [(.idx (.var 0) (.con (.int 0))),(.call 1 [(.idx (.var 0) (.con (.int 1))),(.var 1)]),(.call 4 [(.idx (.var 0) (.con (.int 3))),(.var 1)]),(.call 4 [(.idx (.var 0) (.con (.int 4))),(.var 1)]),(.idx (.var 0) (.con (.int 5)))])]
/- marked_way (4): 0 way,1 last,2 ?1?kind,3 ?1?value -/
noncomputable def zbF:List S:=[
 .ret (.bi .tuple [(.lst false (.comp (.tup [(.name 2),(.name 3)]) (.seq (.var 0)) [] (.tup [(.var 2),(.call 2 [(.var 3),(.var 1)])])))])]
/- shape_of (5): 0 standing,1 last,2 pairs,3 ?1?line -/
noncomputable def zcL:List S:=[
 .asg (.name 1) (.idx (.var 0) (.con (.int 2))),
 .asg (.name 2) (.lst false (.comp (.name 3) (.seq (.idx (.var 0) (.con (.int 3)))) [] (.tup [(.call 3 [(.var 3),(.var 1)]),(.con (.str [111,110,101]))]))),
 .ret (.tup [(.idx (.var 0) (.con (.int 0))),(.call 1 [(.idx (.var 0) (.con (.int 1))),(.var 1)]),(.call 6 [(.var 2)])])]
/- together (6): 0 pairs,1 counts,2 config,3 count -/
noncomputable def zcW:List S:=[
 .asg (.name 1) .dnew,
 .for (.tup [(.name 2),(.name 3)]) (.seq (.var 0)) [.ife (.val (.din true (.var 2) (.var 1))) [.setD (.var 1) (.var 2) (.var 3)] [.ife (.or (.val (.cmp .ne (.ddx (.var 1) (.var 2)) (.con (.str [97,110,121])))) (.val (.cmp .ne (.var 3) (.con (.str [97,110,121]))))) [.setD (.var 1) (.var 2) (.con (.str [115,111,109,101]))] []]],
 .ret (.bi .tuple [(.lst false (.sdi (.var 1)))])]
/- lies_in (7): 0 standing,1 shape -/
noncomputable def zdy:List S:=[
 .ret (.call 8 [(.call 5 [(.var 0)]),(.var 1)])]
/- is_within (8): 0 shape,1 other,2 here,3 there,4 ?1?config,5 ?2?config,6 ?2?count -/
noncomputable def zb9:List S:=[
 .ife (.or (.val (.cmp .ne (.sli (.var 0) (.con .non) (.con (.int 2))) (.sli (.var 1) (.con .non) (.con (.int 2))))) (.val (.cmp .gt (.bi .len [(.idx (.var 0) (.con (.int 2)))]) (.bi .len [(.idx (.var 1) (.con (.int 2)))])))) [.ret (.con (.bl false))] [],
 .asg (.name 2) (.dof (.idx (.var 0) (.con (.int 2)))),
 .asg (.name 3) (.dof (.idx (.var 1) (.con (.int 2)))),
 .ife (.not (.val (.bi .all [(.lst false (.comp (.name 4) (.dic (.var 2)) [] (.din false (.var 4) (.var 3))))]))) [.ret (.con (.bl false))] [],
 .ret (.bi .all [(.lst false (.comp (.tup [(.name 5),(.name 6)]) (.seq (.idx (.var 1) (.con (.int 2)))) [] (.cmp .isin (.dgt (.var 2) (.var 5)) (.gdx "COUNTS_WITHIN" [([111,110,101],(.tup [(.str [111,110,101])])),([115,111,109,101],(.tup [(.str [111,110,101]),(.str [115,111,109,101])])),([97,110,121],(.tup [(.str [111,110,101]),(.str [115,111,109,101]),(.str [97,110,121]),.non]))] (.var 6)))))])]
/- _law_mixed (9): 0 _law_cell,1 _law_k,2 _law_number -/
noncomputable def zdM:List S:=[
 .asg (.name 2) (.bin .mod (.bin .mul (.bin .add (.bin .add (.var 0) (.bin .mul (.con (.int 7919)) (.var 1))) (.con (.int 1))) (.con (.int 48271))) (.con (.int 2147483647))),
 .asg (.name 2) (.bin .mod (.bin .mul (.var 2) (.bin .add (.bin .fdiv (.var 2) (.con (.int 1009))) (.con (.int 69621)))) (.con (.int 2147483647))),
 .ret (.bin .mod (.bin .mul (.var 2) (.bin .add (.bin .fdiv (.var 2) (.con (.int 1013))) (.con (.int 40692)))) (.con (.int 2147483647)))]
/- _law_pool (10): 0 _law_script,1 _law_k,2 _law_cell,3 _law_found,4 _law_number,5 _law_turn -/
noncomputable def zeJ:List S:=[
 .asg (.name 2) (.con (.int 0)),
 .ife (.val (.cmp .lt (.var 1) (.bi .len [(.var 0)]))) [.asg (.name 2) (.idx (.var 0) (.var 1))] [],
 .asg (.name 3) (.lst true (.disp [])),
 .asg (.name 4) (.bin .fdiv (.var 2) (.con (.int 2))),
 .for (.name 5) (.rng (.con (.int 60))) [.ife (.and (.val (.cmp .eq (.bin .mod (.var 2) (.con (.int 2))) (.con (.int 0)))) (.val (.cmp .gt (.var 4) (.con (.int 0))))) [.exp (.me .append (.var 3) [(.bin .mod (.var 4) (.con (.int 64)))]),.asg (.name 4) (.bin .fdiv (.var 4) (.con (.int 64)))] [.exp (.me .append (.var 3) [(.call 9 [(.var 2),(.var 5)])])]],
 .ret (.lst true (.rev (.var 3)))]
/- _law_take (11): 0 _law_pool_here,1 _law_size -/
noncomputable def zeH:List S:=[
 .ife (.val (.cmp .eq (.var 0) (.lst false (.disp [])))) [.ret (.con (.int 0))] [],
 .ret (.bin .mod (.me .pop (.var 0) []) (.var 1))]
/- _law_line (12): 0 _law_turn,1 _law_flags,2 _law_value,3 _law_way -/
noncomputable def zeG:List S:=[
 .asg (.name 2) (.idx (.lst false (.disp [(.con .non),(.tup [(.con (.int 1)),(.con (.int 4))]),(.tup [(.con (.int 3)),(.con (.int 2))]),(.tup [(.con (.int 3)),(.con (.int 2))])])) (.bin .mod (.var 0) (.con (.int 4)))),
 .asg (.name 3) (.idx (.lst false (.disp [(.tup []),(.tup [(.tup [(.con (.str [97])),(.con .non)])]),(.tup [(.tup [(.con (.str [97])),(.tup [(.con (.int 3)),(.con (.int 2))])])]),(.tup [(.tup [(.con (.str [98])),(.tup [(.con (.int 0)),(.con (.int 0))])]),(.tup [(.con (.str [97])),(.con .non)])])])) (.bin .mod (.bin .fdiv (.var 0) (.con (.int 4))) (.con (.int 4)))),
 .ret (.tup [(.idx (.lst false (.disp [(.con (.str [105])),(.con (.str [119])),(.con (.str [109]))])) (.bin .mod (.bin .fdiv (.var 0) (.con (.int 16))) (.con (.int 3)))),(.var 2),(.bin .mod (.var 0) (.con (.int 5))),(.var 3),(.sli (.var 3) (.con .non) (.bin .mod (.bin .fdiv (.var 0) (.con (.int 2))) (.con (.int 2)))),(.var 1)])]
/- _law_shape (13): 0 _law_pool_here,1 _law_sorts,2 _law_last,3 _law_lines,4 _law_line_here,5 _law_house -/
noncomputable def zdT:List S:=[
 .asg (.name 3) .dnew,
 .for (.name 4) (.seq (.var 1)) [.ife (.val (.cmp .gt (.call 11 [(.var 0),(.con (.int 5))]) (.con (.int 0)))) [.setD (.var 3) (.call 3 [(.var 4),(.var 2)]) (.idx (.lst false (.disp [(.con (.str [111,110,101])),(.con (.str [115,111,109,101])),(.con (.str [97,110,121]))])) (.call 11 [(.var 0),(.con (.int 3))]))] []],
 .asg (.name 5) (.idx (.lst false (.disp [(.con (.str [104])),(.con (.str [104])),(.con (.str [104])),(.con (.str [103]))])) (.call 11 [(.var 0),(.con (.int 4))])),
 .ret (.tup [(.var 5),(.idx (.lst false (.disp [(.con (.str [108,97,115,116])),(.con (.str [108,97,115,116])),(.con (.str [111,108,100]))])) (.call 11 [(.var 0),(.con (.int 3))])),(.bi .tuple [(.lst false (.sdi (.var 3)))])])]
/- _law_lies (14): 0 _law_standing,1 _law_shape_here,2 _law_configs,3 _law_counts,4 _law_config,5 _law_count,6 _law_many,7 ?1?_law_line_here,8 ?2?_law_config -/
noncomputable def zde:List S:=[
 .ife (.or (.val (.cmp .ne (.idx (.var 0) (.con (.int 0))) (.idx (.var 1) (.con (.int 0))))) (.val (.cmp .ne (.call 1 [(.idx (.var 0) (.con (.int 1))),(.idx (.var 0) (.con (.int 2)))]) (.idx (.var 1) (.con (.int 1)))))) [.ret (.con (.bl false))] [],
 .asg (.name 2) (.lst false (.comp (.name 7) (.seq (.idx (.var 0) (.con (.int 3)))) [] (.call 3 [(.var 7),(.idx (.var 0) (.con (.int 2)))]))),
 .asg (.name 3) (.dof (.idx (.var 1) (.con (.int 2)))),
 .ife (.val (.cmp .ne (.lst false (.comp (.name 8) (.seq (.var 2)) [(.val (.din true (.var 8) (.var 3)))] (.var 8))) (.lst false (.disp [])))) [.ret (.con (.bl false))] [],
 .for (.tup [(.name 4),(.name 5)]) (.seq (.idx (.var 1) (.con (.int 2)))) [.asg (.name 6) (.lm .count (.var 2) (.var 4)),.ife (.or (.and (.val (.cmp .eq (.var 5) (.con (.str [111,110,101])))) (.val (.cmp .ne (.var 6) (.con (.int 1))))) (.and (.val (.cmp .eq (.var 5) (.con (.str [115,111,109,101])))) (.val (.cmp .eq (.var 6) (.con (.int 0)))))) [.ret (.con (.bl false))] []],
 .ret (.con (.bl true))]
/- _law_fits (15): 0 _law_many,1 _law_count -/
noncomputable def zeF:List S:=[
 .ife (.val (.cmp .isN (.var 1) (.con .non))) [.ret (.cmp .eq (.var 0) (.con (.int 0)))] [],
 .ret (.or (.cmp .eq (.var 1) (.con (.str [97,110,121]))) (.or (.cmp .eq (.var 0) (.con (.int 1))) (.and (.cmp .gt (.var 0) (.con (.int 1))) (.cmp .eq (.var 1) (.con (.str [115,111,109,101]))))))]
/- _law_within (16): 0 _law_one,1 _law_other,2 _law_counts,3 _law_others,4 _law_config,5 _law_many -/
noncomputable def zc3:List S:=[
 .ife (.val (.cmp .ne (.sli (.var 0) (.con .non) (.con (.int 2))) (.sli (.var 1) (.con .non) (.con (.int 2))))) [.ret (.con (.bl false))] [],
 .asg (.name 2) (.dof (.idx (.var 0) (.con (.int 2)))),
 .asg (.name 3) (.dof (.idx (.var 1) (.con (.int 2)))),
 .for (.name 4) (.seq (.bin .add (.lst false (.ofD (.var 2))) (.lst false (.ofD (.var 3))))) [.for (.name 5) (.rng (.con (.int 4))) [.ife (.and (.val (.call 15 [(.var 5),(.dgt (.var 2) (.var 4))])) (.not (.val (.call 15 [(.var 5),(.dgt (.var 3) (.var 4))])))) [.ret (.con (.bl false))] []]],
 .ret (.con (.bl true))]
/- _law_own (17): 0 _law_standing,1 _law_configs,2 _law_lines,3 ?1?_law_line_here,4 ?2?_law_config -/
noncomputable def zgl:List S:=[
 .asg (.name 1) (.lst false (.comp (.name 3) (.seq (.idx (.var 0) (.con (.int 3)))) [] (.call 3 [(.var 3),(.idx (.var 0) (.con (.int 2)))]))),
 .asg (.name 2) (.lst false (.comp (.name 4) (.seq (.lst false (.sst (.var 1)))) [] (.tup [(.var 4),(.idx (.lst false (.disp [(.con (.str [115,111,109,101])),(.con (.str [111,110,101]))])) (.bi .int [(.cmp .eq (.lm .count (.var 1) (.var 4)) (.con (.int 1)))]))]))),
 .ret (.tup [(.idx (.var 0) (.con (.int 0))),(.call 1 [(.idx (.var 0) (.con (.int 1))),(.idx (.var 0) (.con (.int 2)))]),(.bi .tuple [(.var 2)])])]
/- _law_truth (18): 0 _law_found,1 _law_due -/
noncomputable def zdE:List S:=[
 .ret (.and (.isi .bool (.var 0)) (.cmp .eq (.var 0) (.var 1)))]
/- law (19): 0 _law_script,1 _law_pool_here,2 _law_last,3 _law_sorts,4 _law_lines,5 _law_standing,6 _law_other,7 _law_shapes,8 _law_shape_here,9 _law_due,10 _law_one,11 _law_two,12 ?1?_law_k,13 ?2?_law_k -/
noncomputable def zmE:List S:=[
 .asg (.name 1) (.call 10 [(.var 0),(.con (.int 0))]),
 .asg (.name 2) (.tup [(.con (.int 3)),(.con (.int 2))]),
 .asg (.name 3) (.lst false (.comp (.name 12) (.rng (.con (.int 4))) [] (.call 12 [(.call 11 [(.var 1),(.con (.int 48))]),(.call 11 [(.var 1),(.con (.int 4))])]))),
 .asg (.name 4) (.lst false (.comp (.name 13) (.rng (.bin .add (.con (.int 1)) (.call 11 [(.var 1),(.con (.int 6))]))) [] (.idx (.var 3) (.call 11 [(.var 1),(.con (.int 3))])))),
 .asg (.name 5) (.tup [(.con (.str [104])),(.tup [(.con (.int 3)),(.con (.int 2))]),(.var 2),(.bi .tuple [(.var 4)])]),
 .asg (.name 6) (.tup [(.con (.str [104])),(.tup [(.con (.int 3)),(.con (.int 9))]),(.tup [(.con (.int 3)),(.con (.int 5))]),(.bi .tuple [(.lst false (.rev (.var 4)))])]),
 .asg (.name 7) (.lst false (.disp [(.call 13 [(.var 1),(.var 3),(.var 2)]),(.call 13 [(.var 1),(.var 3),(.var 2)])])),
 .for (.name 8) (.seq (.var 7)) [.asg (.name 9) (.call 14 [(.var 5),(.var 8)]),.ife (.or (.not (.val (.call 18 [(.call 7 [(.var 5),(.var 8)]),(.var 9)]))) (.val (.cmp .ne (.call 7 [(.var 6),(.var 8)]) (.var 9)))) [.ret (.con (.bl false))] [],.ife (.not (.val (.call 18 [(.call 8 [(.var 8),(.var 8)]),(.con (.bl true))]))) [.ret (.con (.bl false))] []],
 .ife (.or (.val (.cmp .ne (.call 5 [(.var 5)]) (.call 17 [(.var 5)]))) (.val (.cmp .ne (.call 5 [(.var 6)]) (.call 17 [(.var 6)])))) [.ret (.con (.bl false))] [],
 .ife (.not (.val (.call 7 [(.var 5),(.call 5 [(.var 5)])]))) [.ret (.con (.bl false))] [],
 .unp [10,11] (.var 7),
 .ife (.not (.val (.call 18 [(.call 8 [(.var 10),(.var 11)]),(.call 16 [(.var 10),(.var 11)])]))) [.ret (.con (.bl false))] [],
 .ife (.not (.val (.call 18 [(.call 8 [(.var 11),(.var 10)]),(.call 16 [(.var 11),(.var 10)])]))) [.ret (.con (.bl false))] [],
 .ret (.or (.not (.and (.call 8 [(.var 10),(.var 11)]) (.call 7 [(.var 5),(.var 10)]))) (.call 7 [(.var 5),(.var 11)]))]
noncomputable def P:List F:=[⟨2,2,zaZ,false,[],false⟩,⟨2,2,zdI,false,[],false⟩,⟨2,2,zbv,false,[],false⟩,⟨2,2,zce,false,[],false⟩,⟨2,4,zbF,false,[],false⟩,⟨1,4,zcL,false,[],false⟩,⟨1,4,zcW,false,[],false⟩,⟨2,2,zdy,false,[],false⟩,⟨2,7,zb9,false,[],false⟩,⟨2,3,zdM,false,[],false⟩,⟨2,6,zeJ,true,[],false⟩,⟨2,2,zeH,false,[],false⟩,⟨2,4,zeG,false,[],false⟩,⟨3,6,zdT,false,[],false⟩,⟨2,9,zde,false,[],false⟩,⟨2,2,zeF,false,[],false⟩,⟨2,6,zc3,false,[],false⟩,⟨1,5,zgl,false,[],false⟩,⟨2,2,zdE,false,[],false⟩,⟨1,14,zmE,false,[],false⟩]
end K42
set_option linter.all false
set_option maxRecDepth 10000
namespace K42
open IT
noncomputable abbrev zp7:List Nat:=[110,111,110,101]
noncomputable abbrev zd2:List Nat:=[108,97,115,116]
noncomputable abbrev kold:List Nat:=[111,108,100]
noncomputable abbrev zpF:List Nat:=[98,97,114,101]
noncomputable abbrev Val:=Option (Int×Int)
noncomputable def valD:Val->D
 | none=>.non
 | some p=>.tup [.int p.1,.int p.2]
noncomputable abbrev Lt:=List Nat×Val
noncomputable def letD (p:Lt):D:=.tup [.str p.1,valD p.2]
noncomputable def wayD (w:List Lt):D:=.tup (w.map letD)
structure Ln where
 st:List Nat
 v:Val
 want:Int
 to:List Lt
 back:List Lt
 fl:Int
noncomputable def lnD (l:Ln):D:=.tup [.str l.st,valD l.v,.int l.want,wayD l.to,wayD l.back,.int l.fl]
noncomputable def zbM (a:Int):Val->List Nat
 | none=>zp7
 | some p=>if p.1==a then zd2 else kold
noncomputable def zmd (a:Int):Val->List Nat
 | none=>zpF
 | some p=>if p.1==a then zd2 else kold
noncomputable abbrev Lm:=List Nat×List Nat
noncomputable def lmD (p:Lm):D:=.tup [.str p.1,.str p.2]
noncomputable def ml (a:Int) (p:Lt):Lm:=(p.1,zmd a p.2)
noncomputable def mlD (a:Int) (p:Lt):D:=.tup [.str p.1,.str (zmd a p.2)]
noncomputable def mwD (w:List Lm):D:=.tup (w.map lmD)
structure Cf where
 st:List Nat
 mrk:List Nat
 to:List Lm
 back:List Lm
 fl:Int
 deriving DecidableEq
noncomputable def cfD (c:Cf):D:=.tup [.str c.st,.str c.mrk,mwD c.to,mwD c.back,.int c.fl]
noncomputable def cf (a:Int) (l:Ln):Cf:=⟨l.st,zbM a l.v,l.to.map (ml a),l.back.map (ml a),l.fl⟩
theorem zgw (n:Nat) {h:Sto} {a b c d:Int} {Q:R->Sto->Prop} (k:Q (.d (.bl (a==c))) h):Ok (zan P (n+1) 0 [.d (.tup [.int a,.int b]),.d (.tup [.int c,.int d])] h) Q:=by
 refine cl (F:=⟨2,2,zaZ,false,[],false⟩) rfl rfl rfl ?_
 (conv=>whnf)
 exact f0 k
theorem zbS (n:Nat) {h:Sto} {v:Val} {a b:Int} {Q:R->Sto->Prop} (k:Q (.d (.str (zbM a v))) h):Ok (zan P (n+2) 1 [.d (valD v),.d (.tup [.int a,.int b])] h) Q:=by
 refine cl (F:=⟨2,2,zdI,false,[],false⟩) rfl rfl rfl ?_
 cases v with
 | none=>
  (conv=>whnf)
  exact f0 k
 | some p=>
  (conv=>whnf)
  refine ask (zgw n ?_)
  simp only [zbM] at k
  (conv=>whnf)
  refine br (λt=>?_) (λt=>?_)
  ·(conv=>whnf)
   rw [t] at k
   exact f0 k
  ·(conv=>whnf)
   rw [t] at k
   exact f0 k
theorem zhP (n:Nat) {h:Sto} {v:Val} {a b:Int} {Q:R->Sto->Prop} (k:Q (.d (.str (zmd a v))) h):Ok (zan P (n+3) 2 [.d (valD v),.d (.tup [.int a,.int b])] h) Q:=by
 refine cl (F:=⟨2,2,zbv,false,[],false⟩) rfl rfl rfl ?_
 cases v with
 | none=>
  (conv=>whnf)
  exact f0 k
 | some p=>
  (conv=>whnf)
  exact ask (zbS n (f0 k))
theorem zgd {α β:Type} {g:α->β}:∀ xs:List α,xs.filterMap (λx=>some (g x))=xs.map g
 | []=>rfl
 | x::xs=>by rw [List.filterMap_cons,List.map_cons,zgd xs]
theorem zbp {α:Type} {l:Option Nat} {f:Ite->M (Option D)} {dD:α->D} {g:α->D} {h:Sto} {xs:List α} {Q:List D->Sto->Prop} (e:∀ x∈xs,Ok (f (dI (dD x)) h) λo h1=>o=some (g x)/\h1=h) (s:zaJ l h h=true) (q:Q (xs.map g) h):Ok (zbN l f ((xs.map dD).map dI) h) Q:=by
 rw [List.map_map]
 refine zci (d:=dI∘dD) (g:=λx=>some (g x)) e s ?_
 rw [zgd]
 exact q
theorem zfr (n:Nat) {h:Sto} {w:List Lt} {a b:Int} {Q:R->Sto->Prop} (k:Q (.d (mwD (w.map (ml a)))) h):Ok (zan P (n+4) 4 [.d (wayD w),.d (.tup [.int a,.int b])] h) Q:=by
 refine cl (F:=⟨2,4,zbF,false,[],false⟩) rfl rfl rfl ?_
 (conv=>whnf)
 refine ask (zbp (g:=mlD a) (λp hp=>?_) zaN ?_)
 ·refine gc ?_
  (conv=>whnf)
  refine ask (zhP n ?_)
  exact ⟨rfl,rfl⟩
 ·have e:w.map (mlD a)=(w.map (ml a)).map lmD:=by rw [List.map_map];rfl
  rw [e]
  (conv=>whnf)
  exact f0 k
theorem zbt (n:Nat) {h:Sto} {l:Ln} {a b:Int} {Q:R->Sto->Prop} (k:Q (.d (cfD (cf a l))) h):Ok (zan P (n+5) 3 [.d (lnD l),.d (.tup [.int a,.int b])] h) Q:=by
 refine cl (F:=⟨2,2,zce,false,[],false⟩) rfl rfl rfl ?_
 (conv=>whnf)
 refine ask (zbS (n+2) ?_)
 (conv=>whnf)
 refine ask (zfr n ?_)
 (conv=>whnf)
 refine ask (zfr n ?_)
 (conv=>whnf)
 exact f0 k
noncomputable abbrev pl (ps:List Int):Ob:=.lst (ps.map D.int)
theorem zd7 (n:Nat) {h:Sto} {c i:Int} {Q:R->Sto->Prop} (k:∀ v,Q (.d (.int v)) h):Ok (zan P (n+1) 9 [.d (.int c),.d (.int i)] h) Q:=by
 refine cl (F:=⟨2,3,zdM,false,[],false⟩) rfl rfl rfl ?_
 have e0:bop .mul (.int 7919) (.int i)=some (.int (7919*i)):=zeV (by decide) (by decide)
 have e1:∀ x:Int,bop .mul (.int x) (.int 48271)=some (.int (x*48271)):=λx=>zjL (by rw [zgR (a:=48271) (by decide) (by decide)];simp)
 have md:∀ x:Int,0<=x % 2147483647/\x % 2147483647<2147483647:=λx=>⟨Int.emod_nonneg _ (by decide),Int.emod_lt_of_pos _ (by decide)⟩
 (conv=>whnf)
 refine st (e1 _) ?_
 (conv=>whnf)
 have m:=md ((c+7919*i+1)*48271)
 generalize (c+7919*i+1)*48271 % 2147483647=x at m ⊢
 refine st (zeV (by omega) (by omega)) ?_
 (conv=>whnf)
 have m:=md (x*(x / 1009+69621))
 generalize x*(x / 1009+69621) % 2147483647=y at m ⊢
 refine st (zeV (by omega) (by omega)) ?_
 (conv=>whnf)
 exact f0 (k _)
theorem zi3 (n:Nat) {h:Sto} {ns:List Int} {Q:R->Sto->Prop} (k:∀ ps,Q (.loc h.length) (h++[pl ps])):Ok (zan P (n+2) 10 [.d (.lst (ns.map .int)),.d (.int 0)] h) Q:=by
 refine cl (F:=⟨2,6,zeJ,true,[],false⟩) rfl rfl rfl ?_
 have fi:∀ ps qs:List Int,Q (.loc h.length) (h++[pl qs])->Ok (fin h false true (.loc (h++[pl ps]).length) (h++[pl ps]++[pl qs])) Q:=by
  intro ps qs q
  rw [List.length_append,List.append_assoc]
  simp only [fin,Bool.false_eq_true,if_false,zcs,if_true,fin0,List.length_cons,List.length_nil,Nat.zero_add,List.cons_append,List.nil_append]
  rw [if_neg (by omega),zex]
  simp only [zg3,ok_some']
  exact q
 have body:∀ c:Int,Ok (loop none (λx σ=>bnd (zaE (Tg.name 5) x σ) λσ'=>exs (zan P (n+1)) [.ife (.and (.val (.cmp .eq (.bin .mod (.var 2) (.con (.int 2))) (.con (.int 0)))) (.val (.cmp .gt (.var 4) (.con (.int 0))))) [.exp (.me .append (.var 3) [(.bin .mod (.var 4) (.con (.int 64)))]),.asg (.name 4) (.bin .fdiv (.var 4) (.con (.int 64)))] [.exp (.me .append (.var 3) [(.call 9 [(.var 2),(.var 5)])])]] σ') ((zbr 0 60).map dI)
   [some (R.d (.lst (ns.map .int))),some (R.d (.int 0)),some (R.d (.int c)),some (R.loc h.length),some (R.d (.int (c / 2))),none] (h++[.lst []])) λp h1=>p.1=.nx/\∃ ps num v5,h1=h++[pl ps]/\p.2=[some (R.d (.lst (ns.map .int))),some (R.d (.int 0)),some (R.d (.int c)),some (R.loc h.length),some (R.d (.int num)),v5]:=by
  intro c
  refine zi8 (λi σ h'=>i<=60/\∃ (ps:List Int) (num:Int) (v5:Option R),ps.length=i/\h'=h++[pl ps]/\σ=[some (R.d (.lst (ns.map .int))),some (R.d (.int 0)),some (R.d (.int c)),some (R.loc h.length),some (R.d (.int num)),v5]) ?_ ?_ ⟨by omega,[],_,none,rfl,rfl,rfl⟩
  ·rintro i x σ h' hx ⟨hi,ps,num,v5,hl,rfl,rfl⟩
   obtain ⟨hi2,rfl⟩:=zeL _ _ _ _ hx
   have hb:(ps.map D.int).length<big:=by unfold big;rw [List.length_map];omega
   refine gb ?_
   (conv=>whnf)
   refine br (λ_=>?_) (λ_=>?_)
   ·(conv=>whnf)
    refine br (λ_=>?_) (λ_=>?_)
    ·(conv=>whnf)
     refine st zal ?_
     (conv=>whnf)
     refine st zal ⟨hb,?_⟩
     rw [zbB]
     exact ⟨rfl,by omega,ps++[num % 64],_,_,by simp [hl],by rw [pl,List.map_append];rfl,rfl⟩
    ·(conv=>whnf)
     refine st zal ?_
     (conv=>whnf)
     refine ask (zd7 n λv=>?_)
     (conv=>whnf)
     refine st zal ⟨hb,?_⟩
     rw [zbB]
     exact ⟨rfl,by omega,ps++[v],_,_,by simp [hl],by rw [pl,List.map_append];rfl,rfl⟩
   ·(conv=>whnf)
    refine st zal ?_
    (conv=>whnf)
    refine ask (zd7 n λv=>?_)
    (conv=>whnf)
    refine st zal ⟨hb,?_⟩
    rw [zbB]
    exact ⟨rfl,by omega,ps++[v],_,_,by simp [hl],by rw [pl,List.map_append];rfl,rfl⟩
  ·rintro σ h' ⟨hi,ps,num,v5,hl,rfl,rfl⟩
   exact ⟨rfl,ps,num,v5,rfl,rfl⟩
 (conv=>whnf)
 refine br (λc=>?_) (λ_=>?_)
 ·have c:=of_decide_eq_true c
  cases ns with
  | nil=>exact absurd c (by decide)
  | cons v ns=>
   (conv=>whnf)
   refine st znX ?_
   (conv=>whnf)
   refine ⟨⟨by decide,by decide⟩,ask ((body v).mono ?_)⟩
   rintro ⟨fl,σ⟩ h1 ⟨e,ps,num,v5,rfl,e2⟩
   simp only at e e2
   subst e e2
   (conv=>whnf)
   refine st zal ?_
   (conv=>whnf)
   rw [<-List.map_reverse]
   exact fi _ _ (k _)
 ·(conv=>whnf)
  refine ⟨⟨by decide,by decide⟩,ask ((body 0).mono ?_)⟩
  rintro ⟨fl,σ⟩ h1 ⟨e,ps,num,v5,rfl,e2⟩
  simp only at e e2
  subst e e2
  (conv=>whnf)
  refine st zal ?_
  (conv=>whnf)
  rw [<-List.map_reverse]
  exact fi _ _ (k _)
theorem zpx {h t:Sto} {xs ys:List D}:objs (h++.lst xs::t) (h++.lst ys::t)=true:=by
 have:=zkI (h:=h++.lst xs::t) (l:=h.length) (xs:=xs) (ys:=ys) zal
 rwa [zbB] at this
theorem f1 {k:Bool} {x:D} {xs ys:List D} {h t:Sto} {Q:R->Sto->Prop} (q:Q (.d x) (h++.lst ys::t)):Ok (fin (h++.lst xs::t) false k (.d x) (h++.lst ys::t)) Q:=fd zpx (by rw [List.take_of_length_le (by simp)];exact q)
theorem zaR (n:Nat) {h t:Sto} {ps:List Int} {z:Int} {Q:R->Sto->Prop} (z0:0<z) (k:∀ d qs,0<=d->d<z->Q (.d (.int d)) (h++pl qs::t)):Ok (zan P (n+1) 11 [.loc h.length,.d (.int z)] (h++pl ps::t)) Q:=by
 refine cl (F:=⟨2,2,zeH,false,[],false⟩) rfl rfl rfl ?_
 have ce:cop .eq (.lst (ps.map D.int)) (.lst [])=some (.bl ps.isEmpty):=by
  rw [zmO (zjG (by simp [D.dep,D.deps]))]
  cases ps<;>rfl
 (conv=>whnf)
 refine st zal ?_
 (conv=>whnf)
 refine st ce ?_
 (conv=>whnf)
 refine br (λc=>?_) (λc=>?_)
 ·(conv=>whnf)
  exact f1 (k 0 ps (by omega) z0)
 ·obtain ⟨qs,v,e⟩:∃ qs v,ps=qs++[v]:=by
   rcases List.eq_nil_or_concat ps with e | ⟨l,v,e⟩
   ·rw [e] at c;simp at c
   ·exact ⟨l,v,by rw [e,List.concat_eq_append]⟩
  subst e
  have e1:((qs++[v]).map D.int)[((qs++[v]).map D.int).length-1]?=some (.int v):=by simp
  have e2:((qs++[v]).map D.int).dropLast=qs.map D.int:=by simp
  (conv=>whnf)
  refine st zal ?_
  (conv=>whnf)
  refine st zal ?_
  (conv=>whnf)
  refine st e1 ?_
  rw [e2,zbB]
  (conv=>whnf)
  refine st (zmB z0) ?_
  exact f1 (k _ qs (Int.emod_nonneg _ (by omega)) (Int.emod_lt_of_pos _ z0))
end K42
set_option linter.all false
set_option maxRecDepth 10000
namespace K42
open IT
theorem zgp:∀ {xs ys:List Lm},xs.map lmD=ys.map lmD->xs=ys
  | [],[],_=>rfl
  | [],_::_,e=>by simp at e
  | _::_,[],e=>by simp at e
  | (a,b)::xs,(c,d)::ys,e=>by
    simp only [List.map_cons,List.cons.injEq,lmD,D.tup.injEq,D.str.injEq,and_true] at e
    obtain ⟨⟨rfl,rfl⟩,e⟩:=e
    rw [zgp e]
theorem zeD {a b:Cf} (e:cfD a=cfD b):a=b:=by
 obtain ⟨s,m,t,u,f⟩:=a
 obtain ⟨s',m',t',u',f'⟩:=b
 simp only [cfD,mwD,D.tup.injEq,List.cons.injEq,D.str.injEq,D.int.injEq,and_true] at e
 obtain ⟨rfl,rfl,e1,e2,rfl⟩:=e
 rw [zgp e1,zgp e2]
theorem ze0 {x y:D}:x.same y=true↔x=y:=⟨D.same_eq x y,λe=>e▸D.same_refl x⟩
theorem zfh (a b:Cf):(cfD a).same (cfD b)=decide (a=b):=by
 by_cases e:a=b
 ·subst e;rw [D.same_refl,decide_eq_true rfl]
 ·rw [decide_eq_false e]
  cases h:(cfD a).same (cfD b)
  ·rfl
  ·exact absurd (zeD (ze0.mp h)) e
theorem zlE:∀ xs:List Lm,D.hks (xs.map lmD)=true
 | []=>rfl
 | p::xs=>by simp [D.hks,D.hk,lmD,zlE xs]
theorem zfg (xs:List Lm):D.deps (xs.map lmD)<=1:=by
 refine zgq λx hx=>?_
 obtain ⟨p,_,rfl⟩:=List.mem_map.mp hx
 simp [lmD,D.dep,D.deps]
theorem za0 (c:Cf):zai (cfD c)=true:=by
 have h1:=zfg c.to
 have h2:=zfg c.back
 simp only [cfD,zai,mwD,D.hks,D.hk,zlE,Bool.and_true,Bool.true_and,D.deps,D.dep]
 exact decide_eq_true (by omega)
theorem zh7 (c:Cf):(cfD c).dep<=3:=by
 have h1:=zfg c.to
 have h2:=zfg c.back
 simp only [cfD,mwD,D.dep,D.deps]
 omega
inductive Ct where
 | one | some | any
 deriving DecidableEq
noncomputable abbrev kone:List Nat:=[111,110,101]
noncomputable abbrev zhN:List Nat:=[115,111,109,101]
noncomputable abbrev kany:List Nat:=[97,110,121]
noncomputable def ctS:Ct->List Nat
 | .one=>kone
 | .some=>zhN
 | .any=>kany
noncomputable abbrev KV:=List (Cf×Ct)
noncomputable def look (c:Cf):KV->Option Ct
 | []=>none
 | p::r=>if p.1=c then some p.2 else look c r
noncomputable def put (c:Cf) (t:Ct):KV->KV
 | []=>[(c,t)]
 | p::r=>if p.1=c then (p.1,t)::r else p::put c t r
noncomputable def kvD (l:KV):List (D×D):=l.map λp=>(cfD p.1,.str (ctS p.2))
noncomputable def prD (p:Cf×Ct):D:=.tup [cfD p.1,.str (ctS p.2)]
noncomputable def lnsD (l:KV):D:=.tup (l.map prD)
noncomputable abbrev ctO (o:Option Ct):D:=(o.map λt=>D.str (ctS t)).getD .non
theorem zcQ (c:Cf):∀ l:KV,dGet (cfD c) (kvD l)=(look c l).map λt=>D.str (ctS t)
 | []=>rfl
 | p::r=>by
  show (if (cfD p.1).same (cfD c)=true then some (D.str (ctS p.2)) else dGet (cfD c) (kvD r))=_
  rw [zfh,zcQ c r,look]
  by_cases e:p.1=c<;>simp [e]
theorem zcI (c:Cf) (t:Ct):∀ l:KV,dPut (cfD c) (.str (ctS t)) (kvD l)=kvD (put c t l)
 | []=>rfl
 | p::r=>by
  show (if (cfD p.1).same (cfD c)=true then (cfD p.1,D.str (ctS t))::kvD r else (cfD p.1,D.str (ctS p.2))::dPut (cfD c) (.str (ctS t)) (kvD r))=_
  rw [zfh,zcI c t r,put]
  by_cases e:p.1=c<;>simp [e,kvD]
theorem zcD {c:Cf}:∀ {l:KV},look c l=none↔c ∉ l.map Prod.fst
 | []=>by simp [look]
 | p :: r=>by
  rw [look,List.map_cons,List.mem_cons]
  by_cases e:p.1=c
  ·simp [e]
  ·rw [if_neg e,zcD]
   constructor
   ·rintro h (h' | h')
    ·exact e h'.symm
    ·exact h h'
   ·exact λh h'=>h (.inr h')
theorem zbb {c:Cf} {t:Ct}:∀ {l:KV},look c l=some t->(c,t)∈l
 | [],e=>by simp [look] at e
 | p::r,e=>by
  rw [look] at e
  by_cases q:p.1=c
  ·rw [if_pos q] at e
   cases e
   subst q
   exact List.mem_cons_self
  ·rw [if_neg q] at e
   exact List.mem_cons_of_mem _ (zbb e)
noncomputable abbrev Nk (l:KV):Prop:=(l.map Prod.fst).Nodup
theorem zbf {c:Cf} {t:Ct}:∀ {l:KV},Nk l->(c,t)∈l->look c l=some t
 | [],_,h=>by simp at h
 | p::r,n,h=>by
  rw [Nk,List.map_cons,List.nodup_cons] at n
  rw [look]
  rcases List.mem_cons.mp h with rfl | h
  ·rw [if_pos rfl]
  ·have hm:c∈r.map Prod.fst:=List.mem_map.mpr ⟨(c,t),h,rfl⟩
   rw [if_neg λe:p.1=c=>n.1 (by rw [e];exact hm)]
   exact zbf n.2 h
theorem zeI {c:Cf} {t:Ct}:∀ {l:KV},c ∉ l.map Prod.fst->put c t l=l++[(c,t)]
 | [],_=>rfl
 | p::r,h=>by
  rw [List.map_cons,List.mem_cons,not_or] at h
  rw [put,if_neg λe=>h.1 e.symm,zeI h.2];rfl
theorem zg8 {c:Cf} {t:Ct}:∀ {l:KV},c∈l.map Prod.fst->(put c t l).map Prod.fst=l.map Prod.fst
 | [],h=>by simp at h
 | p::r,h=>by
  rw [put]
  by_cases e:p.1=c
  ·rw [if_pos e];rfl
  ·rw [if_neg e,List.map_cons,List.map_cons,zg8]
   rcases List.mem_cons.mp h with h | h
   ·exact absurd h.symm e
   ·exact h
theorem zlM {c:Cf} {t:Ct} {l:KV} (n:Nk l):Nk (put c t l):=by
 by_cases h:c∈l.map Prod.fst
 ·rw [Nk,zg8 h];exact n
 ·rw [Nk,zeI h,List.map_append,List.nodup_append]
  refine ⟨n,by simp,?_⟩
  intro a ha b hb
  simp at hb
  subst hb
  exact λe=>h (e▸ha)
theorem zgg {c:Cf} {t:Ct}:∀ {l:KV},(put c t l).length<=l.length+1
 | []=>by simp [put]
 | p::r=>by
  have:=zgg (c:=c) (t:=t) (l:=r)
  rw [put]
  split<;>simp<;>omega
theorem zfu:∀ l:KV,zcz (l.map prD)=some (kvD l)
 | []=>rfl
 | p::r=>by
  show (if zai (cfD p.1)=true then _ else _)=_
  rw [za0,if_pos rfl,zfu r]
  rfl
theorem zjz:∀ (l acc:KV),Nk (acc++l)->dOfP (kvD acc) (kvD l)=kvD (acc++l)
 | [],acc,_=>by rw [List.append_nil];rfl
 | p::r,acc,n=>by
  show dOfP (dPut (cfD p.1) (.str (ctS p.2)) (kvD acc)) (kvD r)=_
  have h:p.1 ∉ acc.map Prod.fst:=by
   rw [Nk,List.map_append,List.nodup_append] at n
   exact λh=>n.2.2 _ h _ List.mem_cons_self rfl
  rw [zcI,zeI h,zjz r]
  ·rw [List.append_assoc];rfl
  ·rw [List.append_assoc];exact n
theorem zcp {l:KV} (n:Nk l) (hl:l.length<=100):zj7 (lnsD l)=some (kvD l):=by
 show (match zcz (l.map prD) with | some l=>_ | none=>_)=_
 rw [zfu]
 dsimp only
 rw [if_pos (by simp [fit,big,kvD];omega)]
 have:=zjz l [] (by simpa using n)
 exact congrArg some this
theorem zi5:∀ a:List Nat,ltS a a=false
 | []=>rfl
 | x::r=>by simp [ltS,zi5 r]
theorem zjU:∀ {a b c:List Nat},ltS a b=true->ltS b c=true->ltS a c=true
 | [],[],_,h,_=>by simp [ltS] at h
 | [],_::_,[],_,h=>by simp [ltS] at h
 | [],_::_,_::_,_,_=>by simp [ltS]
 | _::_,[],_,h,_=>by simp [ltS] at h
 | _::_,_::_,[],_,h=>by simp [ltS] at h
 | x :: a,y::b,z::c,h1,h2=>by
  simp only [ltS] at h1 h2 ⊢
  by_cases e1:x=y
  ·subst e1
   rw [if_pos rfl] at h1
   by_cases e2:x=z
   ·rw [if_pos e2] at h2 ⊢;exact zjU h1 h2
   ·rw [if_neg e2] at h2 ⊢;exact h2
  ·rw [if_neg e1] at h1
   have h1:=of_decide_eq_true h1
   by_cases e2:y=z
   ·subst e2;rw [if_neg e1];exact decide_eq_true h1
   ·rw [if_neg e2] at h2
    have h2:=of_decide_eq_true h2
    rw [if_neg (by omega)];exact decide_eq_true (by omega)
theorem zil:∀ {a b:List Nat},ltS a b=false->ltS b a=false->a=b
 | [],[],_,_=>rfl
 | [],_::_,h,_=>by simp [ltS] at h
 | _::_,[],_,h=>by simp [ltS] at h
 | x::a,y::b,h1,h2=>by
  simp only [ltS] at h1 h2
  by_cases e:x=y
  ·subst e
   rw [if_pos rfl] at h1 h2
   rw [zil h1 h2]
  ·rw [if_neg e] at h1
   rw [if_neg λh=>e h.symm] at h2
   have h1:=of_decide_eq_false h1
   have h2:=of_decide_eq_false h2
   omega
structure STO {α:Type} (C:α->Prop) (lt:α->α->Option Bool):Prop where
 dfn:∀ a b,C a->C b->∃ t,lt a b=some t
 irr:∀ a,C a->lt a a=some false
 tra:∀ a b c,C a->C b->C c->lt a b=some true->lt b c=some true->lt a c=some true
 tri:∀ a b,C a->C b->lt a b=some false->lt b a=some false->a=b
theorem zdZ:STO (λd=>∃ x,d=D.str x) D.lt where
 dfn:=by rintro _ _ ⟨x,rfl⟩ ⟨y,rfl⟩;exact ⟨_,rfl⟩
 irr:=by rintro _ ⟨x,rfl⟩;exact congrArg some (zi5 x)
 tra:=by rintro _ _ _ ⟨x,rfl⟩ ⟨y,rfl⟩ ⟨z,rfl⟩ h1 h2;exact congrArg some (zjU (Option.some.inj h1) (Option.some.inj h2))
 tri:=by rintro _ _ ⟨x,rfl⟩ ⟨y,rfl⟩ h1 h2;rw [zil (Option.some.inj h1) (Option.some.inj h2)]
theorem znk:STO (λd=>∃ x,d=D.int x) D.lt where
 dfn:=by rintro _ _ ⟨x,rfl⟩ ⟨y,rfl⟩;exact ⟨_,rfl⟩
 irr:=by rintro _ ⟨x,rfl⟩;show some (decide (x<x))=_;simp
 tra:=by
  rintro _ _ _ ⟨x,rfl⟩ ⟨y,rfl⟩ ⟨z,rfl⟩ h1 h2
  have h1:=of_decide_eq_true (Option.some.inj h1)
  have h2:=of_decide_eq_true (Option.some.inj h2)
  exact congrArg some (decide_eq_true (by omega))
 tri:=by
  rintro _ _ ⟨x,rfl⟩ ⟨y,rfl⟩ h1 h2
  have h1:=of_decide_eq_false (Option.some.inj h1)
  have h2:=of_decide_eq_false (Option.some.inj h2)
  rw [show x=y by omega]
noncomputable def Fits (Ps:Nat->D->Prop) (xs:List D):Prop:=∀ i x,xs[i]?=some x->Ps i x
theorem Fits.hd {Ps:Nat->D->Prop} {x:D} {xs:List D} (h:Fits Ps (x::xs)):Ps 0 x:=h 0 x rfl
theorem Fits.tl {Ps:Nat->D->Prop} {x:D} {xs:List D} (h:Fits Ps (x::xs)):Fits (λi=>Ps (i+1)) xs:=λi y e=>h (i+1) y (by simpa using e)
theorem zgQ (a b:D) (r t:List D):D.lts (a::r) (b::t)=if D.same a b then D.lts r t else D.lt a b:=by rw [D.lts]
theorem zfE (a:D) (r t:List D):D.lts (a::r) (a::t)=D.lts r t:=by rw [zgQ,D.same_refl,if_pos rfl]
theorem zcH {a b:D} (e:a≠b) (r t:List D):D.lts (a::r) (b::t)=D.lt a b:=by
 rw [zgQ,if_neg λh=>e (ze0.mp h)]
theorem zjX:D.lts [] []=some false:=by rw [D.lts]
theorem zgS (b:D) (t:List D):D.lts [] (b::t)=some true:=by rw [D.lts];simp
theorem zhd (b:D) (t:List D):D.lts (b::t) []=some false:=by rw [D.lts]
theorem ziM:∀ (xs ys:List D) (Ps:Nat->D->Prop),(∀ i,STO (Ps i) D.lt)->Fits Ps xs->Fits Ps ys->∃ t,D.lts xs ys=some t
 | [],[],_,_,_,_=>⟨_,zjX⟩
 | [],_::_,_,_,_,_=>⟨_,zgS _ _⟩
 | _::_,[],_,_,_,_=>⟨_,zhd _ _⟩
 | a::r,b::t,Ps,S,hx,hy=>by
  by_cases e:a=b
  ·subst e;rw [zfE];exact ziM r t _ (λi=>S (i+1)) hx.tl hy.tl
  ·rw [zcH e];exact (S 0).dfn a b hx.hd hy.hd
theorem zi0:∀ xs:List D,D.lts xs xs=some false
 | []=>zjX
 | a::r=>by rw [zfE];exact zi0 r
theorem ziG:∀ (xs ys zs:List D) (Ps:Nat->D->Prop),(∀ i,STO (Ps i) D.lt)->Fits Ps xs->Fits Ps ys->Fits Ps zs->D.lts xs ys=some true->D.lts ys zs=some true->D.lts xs zs=some true
 | [],[],_,_,_,_,_,_,h,_=>by rw [zjX] at h;cases h
 | [],_::_,[],_,_,_,_,_,_,h=>by rw [zhd] at h;cases h
 | [],_::_,_::_,_,_,_,_,_,_,_=>zgS _ _
 | _::_,[],_,_,_,_,_,_,h,_=>by rw [zhd] at h;cases h
 | _::_,_::_,[],_,_,_,_,_,_,h=>by rw [zhd] at h;cases h
 | a :: r,b::t,c::u,Ps,S,hx,hy,hz,h1,h2=>by
  by_cases e1:a=b
  ·subst e1
   rw [zfE] at h1
   by_cases e2:a=c
   ·subst e2
    rw [zfE] at h2 ⊢
    exact ziG r t u _ (λi=>S (i+1)) hx.tl hy.tl hz.tl h1 h2
   ·rw [zcH e2] at h2 ⊢;exact h2
  ·rw [zcH e1] at h1
   by_cases e2:b=c
   ·subst e2;rw [zcH e1];exact h1
   ·rw [zcH e2] at h2
    have h3:=(S 0).tra a b c hx.hd hy.hd hz.hd h1 h2
    have e3:a≠c:=by
     rintro rfl
     rw [(S 0).irr a hx.hd] at h3;cases h3
    rw [zcH e3];exact h3
theorem ziB:∀ (xs ys:List D) (Ps:Nat->D->Prop),(∀ i,STO (Ps i) D.lt)->Fits Ps xs->Fits Ps ys->D.lts xs ys=some false->D.lts ys xs=some false->xs=ys
 | [],[],_,_,_,_,_,_=>rfl
 | [],_::_,_,_,_,_,h,_=>by rw [zgS] at h;cases h
 | _::_,[],_,_,_,_,_,h=>by rw [zgS] at h;cases h
 | a::r,b::t,Ps,S,hx,hy,h1,h2=>by
  by_cases e:a=b
  ·subst e
   rw [zfE] at h1 h2
   rw [ziB r t _ (λi=>S (i+1)) hx.tl hy.tl h1 h2]
  ·rw [zcH e] at h1
   rw [zcH λh=>e h.symm] at h2
   exact absurd ((S 0).tri a b hx.hd hy.hd h1 h2) e
theorem zfy (xs ys:List D):D.lt (.tup xs) (.tup ys)=D.lts xs ys:=by rw [D.lt]
theorem zcX {Ps:Nat->D->Prop} (S:∀ i,STO (Ps i) D.lt):STO (λd=>∃ xs,d=D.tup xs/\Fits Ps xs) D.lt where
 dfn:=by rintro _ _ ⟨x,rfl,hx⟩ ⟨y,rfl,hy⟩;rw [zfy];exact ziM x y Ps S hx hy
 irr:=by rintro _ ⟨x,rfl,_⟩;rw [zfy];exact zi0 x
 tra:=by rintro _ _ _ ⟨x,rfl,hx⟩ ⟨y,rfl,hy⟩ ⟨z,rfl,hz⟩;simp only [zfy];exact ziG x y z Ps S hx hy hz
 tri:=by rintro _ _ ⟨x,rfl,hx⟩ ⟨y,rfl,hy⟩ h1 h2;rw [zfy] at h1 h2;rw [ziB x y Ps S hx hy h1 h2]
noncomputable def zln (d:D):Prop:=∃ x,d=D.str x
noncomputable def isInt (d:D):Prop:=∃ x,d=D.int x
noncomputable def zmY (d:D):Prop:=∃ xs,d=D.tup xs/\Fits (λ_ d=>∃ xs,d=D.tup xs/\Fits (λ_=>zln) xs) xs
noncomputable def cfP:Nat->D->Prop
 | 0=>zln
 | 1=>zln
 | 2=>zmY
 | 3=>zmY
 | _=>isInt
theorem zmG:∀ i,STO (cfP i) D.lt
 | 0=>zdZ
 | 1=>zdZ
 | 2=>zcX λ_=>zcX λ_=>zdZ
 | 3=>zcX λ_=>zcX λ_=>zdZ
 | _+4=>znk
theorem zg9 (w:List Lm):zmY (mwD w):=by
 refine ⟨_,rfl,λi x e=>?_⟩
 rw [List.getElem?_map] at e
 cases q:w[i]? with
 | none=>rw [q] at e;simp at e
 | some p=>
  rw [q] at e
  simp at e
  refine ⟨_,e.symm,λj y e2=>?_⟩
  match j,e2 with
  | 0,e2=>simp at e2;exact ⟨_,e2.symm⟩
  | 1,e2=>simp at e2;exact ⟨_,e2.symm⟩
  | _+2,e2=>simp at e2
noncomputable def isCf (d:D):Prop:=∃ xs,d=D.tup xs/\Fits cfP xs
theorem zjk (c:Cf):isCf (cfD c):=by
 refine ⟨_,rfl,λi x e=>?_⟩
 match i,e with
 | 0,e=>simp at e;exact ⟨_,e.symm⟩
 | 1,e=>simp at e;exact ⟨_,e.symm⟩
 | 2,e=>simp at e;rw [<-e];exact zg9 _
 | 3,e=>simp at e;rw [<-e];exact zg9 _
 | 4,e=>simp at e;exact ⟨_,e.symm⟩
 | _+5,e=>simp at e
theorem zlS:STO isCf D.lt:=zcX zmG
noncomputable def prP:Nat->D->Prop
 | 0=>isCf
 | _=>zln
theorem zoo:STO (λd=>∃ xs,d=D.tup xs/\Fits prP xs) D.lt:=zcX λi=>match i with
 | 0=>zlS
 | _+1=>zdZ
theorem zmx (p:Cf×Ct):∃ xs,prD p=D.tup xs/\Fits prP xs:=by
 refine ⟨_,rfl,λi x e=>?_⟩
 match i,e with
 | 0,e=>simp at e;rw [<-e];exact zjk _
 | 1,e=>simp at e;exact ⟨_,e.symm⟩
 | _+2,e=>simp at e
theorem zfn {a b:D} {t:Bool} (e:D.lt a b=some t):ltT a b=t:=by unfold ltT;rw [e]
theorem zfv {α:Type} {p q:α->Bool} {x:α}:∀ {l:List α},(∀ z∈l,p z=true->q z=true)->x∈l->p x=false->q x=true->l.countP p<l.countP q
 | [],_,h,_,_=>by simp at h
 | y::l,hs,hx,h1,h2=>by
  have le:l.countP p<=l.countP q:=List.countP_mono_left λz hz=>hs z (List.mem_cons_of_mem _ hz)
  rw [List.countP_cons,List.countP_cons]
  rcases List.mem_cons.mp hx with rfl | hx
  ·rw [h1,h2];simp;omega
  ·have:=zfv (λz hz=>hs z (List.mem_cons_of_mem _ hz)) hx h1 h2
   have hy:=hs y List.mem_cons_self
   generalize p y=py at hy
   generalize q y=qy at hy
   cases py with
   | true=>rw [hy rfl];simp;omega
   | false=>cases qy<;>simp<;>omega
theorem zpl {C:D->Prop} (S:STO C D.lt) {xs:List D} (h:∀ x∈xs,C x):rkOk xs=true:=by
 have mono:∀ {x y:D},x∈xs->y∈xs->D.lt x y=some true->rnk xs x<rnk xs y:=by
  intro x y hx hy e
  refine zfv (x:=x) (λz hz q=>?_) hx (zfn (S.irr x (h x hx))) (zfn e)
  obtain ⟨t,et⟩:=S.dfn z x (h z hz) (h x hx)
  rw [zfn et] at q
  subst q
  exact zfn (S.tra z x y (h z hz) (h x hx) (h y hy) et e)
 rw [rkOk,List.all_eq_true]
 intro x hx
 rw [List.all_eq_true]
 intro y hy
 obtain ⟨t,et⟩:=S.dfn x y (h x hx) (h y hy)
 rw [et,zfn et]
 simp only [Option.isSome_some,Bool.true_and,beq_iff_eq]
 cases t with
 | true=>exact (decide_eq_true (mono hx hy et)).symm
 | false=>
  refine (decide_eq_false ?_).symm
  obtain ⟨u,eu⟩:=S.dfn y x (h y hy) (h x hx)
  cases u with
  | true=>have:=mono hy hx eu;omega
  | false=>rw [S.tri x y (h x hx) (h y hy) et eu];omega
theorem ze1:∀ {xs:List D},xs.Nodup->apart xs=true
 | [],_=>rfl
 | x::r,n=>by
  rw [List.nodup_cons] at n
  rw [apart,ze1 n.2,Bool.and_true,List.all_eq_true]
  intro y hy
  cases e:x.same y
  ·rfl
  ·exact absurd (ze0.mp e▸hy) n.1
noncomputable def insB {α:Type} (lt:α->α->Bool) (x:α):List α->List α
 | []=>[x]
 | y::r=>if lt y x then y::insB lt x r else x::y::r
noncomputable def isB {α:Type} (lt:α->α->Bool):List α->List α
 | []=>[]
 | x::r=>insB lt x (isB lt r)
theorem zfz {α:Type} (lt:α->α->Bool) (x:α):∀ l:List α,(insB lt x l).Perm (x::l)
 | []=>.refl _
 | y::r=>by
  rw [insB]
  split
  ·exact ((zfz lt x r).cons y).trans (.swap x y r)
  ·exact .refl _
theorem zdl {α:Type} (lt:α->α->Bool):∀ l:List α,(isB lt l).Perm l
 | []=>.refl _
 | x::r=>(zfz lt x _).trans ((zdl lt r).cons x)
theorem zhl {α:Type} {f:α->D} {lt:α->α->Bool} (x:α):∀ l:List α,(∀ y∈l,ltT (f y) (f x)=lt y x)->insD (f x) (l.map f)=(insB lt x l).map f
 | [],_=>rfl
 | y::r,h=>by
  rw [List.map_cons,insD,insB,h y List.mem_cons_self]
  split
  ·rw [zhl x r λz hz=>h z (List.mem_cons_of_mem _ hz)];rfl
  ·rfl
theorem zdA {α:Type} {f:α->D} {lt:α->α->Bool}:∀ l:List α,l.Nodup->(∀ x∈l,∀ y∈l,y≠x->ltT (f y) (f x)=lt y x)->zdc (l.map f)=(isB lt l).map f
 | [],_,_=>rfl
 | x::r,n,h=>by
  rw [List.nodup_cons] at n
  rw [List.map_cons,zdc,isB,zdA r n.2 λa ha b hb=>h a (List.mem_cons_of_mem _ ha) b (List.mem_cons_of_mem _ hb)]
  refine zhl x _ λy hy=>?_
  have hy:=(zdl lt r).mem_iff.mp hy
  exact h x List.mem_cons_self y (List.mem_cons_of_mem _ hy) λe=>n.1 (e▸hy)
theorem zi7 {α β:Type} {f:α->β} {lt:α->α->Bool} {lt':β->β->Bool}:∀ l:List α,l.Nodup->(∀ x∈l,∀ y∈l,y≠x->lt' (f y) (f x)=lt y x)->isB lt' (l.map f)=(isB lt l).map f
 | [],_,_=>rfl
 | x :: r,n,h=>by
  have ins:∀ l:List α,(∀ y∈l,lt' (f y) (f x)=lt y x)->insB lt' (f x) (l.map f)=(insB lt x l).map f:=by
   intro l
   induction l with
   | nil=>intro _;rfl
   | cons y l ih=>
    intro h
    rw [List.map_cons,insB,insB,h y List.mem_cons_self]
    split
    ·rw [ih λz hz=>h z (List.mem_cons_of_mem _ hz)];rfl
    ·rfl
  rw [List.nodup_cons] at n
  rw [List.map_cons,isB,isB,zi7 r n.2 λa ha b hb=>h a (List.mem_cons_of_mem _ ha) b (List.mem_cons_of_mem _ hb)]
  refine ins _ λy hy=>?_
  have hy:=(zdl lt r).mem_iff.mp hy
  exact h x List.mem_cons_self y (List.mem_cons_of_mem _ hy) λe=>n.1 (e▸hy)
noncomputable def ltC (a b:Cf):Bool:=ltT (cfD a) (cfD b)
noncomputable def ltP (a b:Cf×Ct):Bool:=ltC a.1 b.1
theorem znS {a b:Cf×Ct} (e:a.1≠b.1):ltT (prD a) (prD b)=ltP a b:=by
 unfold ltP ltC ltT prD
 rw [zfy,zcH λh=>e (zeD h)]
theorem zdV {α β:Type} {f:α->β} (inj:∀ a b,f a=f b->a=b):∀ {l:List α},l.Nodup->(l.map f).Nodup
 | [],_=>by simp
 | x::r,n=>by
  rw [List.nodup_cons] at n
  rw [List.map_cons,List.nodup_cons]
  refine ⟨λh=>?_,zdV inj n.2⟩
  obtain ⟨y,hy,e⟩:=List.mem_map.mp h
  exact n.1 (inj _ _ e▸hy)
theorem zhh {l:KV} (n:Nk l):l.Nodup:=by
 induction l with
 | nil=>simp
 | cons p r ih=>
  rw [Nk,List.map_cons,List.nodup_cons] at n
  rw [List.nodup_cons]
  exact ⟨λh=>n.1 (List.mem_map.mpr ⟨p,h,rfl⟩),ih n.2⟩
theorem zn1:∀ {l:KV} {a b:Cf×Ct},Nk l->a∈l->b∈l->a.1=b.1->a=b:=by
 intro l a b n ha hb e
 obtain ⟨c,t⟩:=a
 obtain ⟨d,u⟩:=b
 simp only at e
 subst e
 have h1:=zbf n ha
 have h2:=zbf n hb
 rw [h1] at h2
 cases h2
 rfl
noncomputable def srt (l:KV):KV:=isB ltP l
theorem znw (p:Cf×Ct):zai (prD p)=true:=by
 have h:=za0 p.1
 have h2:=zh7 p.1
 have h3:D.hk (cfD p.1)=true:=by
  unfold zai cfD at h
  rw [Bool.and_eq_true] at h
  exact h.1
 simp only [prD,zai,D.hks,h3,D.hk,D.deps,D.dep,Bool.and_true,Bool.true_and]
 exact decide_eq_true (by omega)
theorem znd {a b:Cf×Ct} (e:prD a=prD b):a=b:=by
 obtain ⟨c,t⟩:=a
 obtain ⟨d,u⟩:=b
 simp only [prD,D.tup.injEq,List.cons.injEq,D.str.injEq,and_true] at e
 obtain ⟨e1,e2⟩:=e
 rw [zeD e1]
 have:t=u:=by cases t<;>cases u<;>first | rfl | (exact absurd e2 (by decide))
 rw [this]
theorem zjP {l:KV} (n:Nk l) (hl:l.length<=4):zch ((kvD l).map zct)=some ((srt l).map prD):=by
 have e:(kvD l).map zct=l.map prD:=by rw [kvD,List.map_map];rfl
 rw [e,zch,if_pos]
 ·rw [zdA l (zhh n) λx hx y hy ne=>znS λh=>ne (zn1 n hy hx h)];rfl
 ·simp only [Bool.and_eq_true,decide_eq_true_eq,List.length_map,List.all_eq_true]
  refine ⟨⟨⟨⟨hl,λx hx=>?_⟩,ze1 (zdV (λ_ _=>znd) (zhh n))⟩,zpl zoo λx hx=>?_⟩,(Bool.or_eq_true _ _).mpr (.inr (List.all_eq_true.mpr λx hx=>?_))⟩
  ·obtain ⟨p,_,rfl⟩:=List.mem_map.mp hx;exact znw p
  ·obtain ⟨p,_,rfl⟩:=List.mem_map.mp hx;exact zmx p
  ·obtain ⟨p,_,rfl⟩:=List.mem_map.mp hx;rfl
theorem zbU (l:KV):(srt l).Perm l:=zdl _ _
theorem zit {l:KV} (n:Nk l):Nk (srt l):=((zbU l).map Prod.fst).nodup_iff.mpr n
theorem zkM {l:KV} (n:Nk l) (c:Cf):look c (srt l)=look c l:=by
 cases e:look c l with
 | none=>rw [zcD] at e ⊢;exact λh=>e (((zbU l).map Prod.fst).mem_iff.mp h)
 | some t=>exact zbf (zit n) ((zbU l).mem_iff.mpr (zbb e))
theorem zgC (l:KV):(srt l).length=l.length:=(zbU l).length_eq
end K42
set_option linter.all false
set_option maxRecDepth 10000
namespace K42
open IT
theorem g0 {h t:Sto} {a:Ob}:(h++[a]++t)[h.length]?=some a:=by rw [List.append_assoc];exact zal
theorem dicW {l:KV}:(kvD l).map (λp=>dI p.1)=l.map λp=>dI (cfD p.1):=by rw [kvD,List.map_map];rfl
theorem zlz {α:Type} {f:α->Bool} {l:List α}:biD .all [.lst (l.map λx=>D.bl (f x))]=some (.bl (l.all f)):=by
 have:∀ l:List α,zaK (l.map λx=>D.bl (f x))=some (l.map f):=by
  intro l
  induction l with
  | nil=>rfl
  | cons x r ih=>simp only [List.map_cons,zaK,tru,ih]
 show (match zaK (l.map λx=>D.bl (f x)) with | some bs=>some (D.bl (bs.all id)) | none=>none)=_
 rw [this]
 simp [List.all_map]
noncomputable def cw:Option Ct->Ct->Bool
 | none,t=>t==.any
 | some .one,_=>true
 | some .some,t=>t != .one
 | some .any,t=>t==.any
noncomputable def cwT:Ct->D
 | .one=>.tup [.str kone]
 | .some=>.tup [.str kone,.str zhN]
 | .any=>.tup [.str kone,.str zhN,.str kany,.non]
noncomputable abbrev tbl:List (List Nat×D):=[(kone,cwT .one),(zhN,cwT .some),(kany,cwT .any)]
theorem zl8 (t:Ct):gGet [([111,110,101],(.tup [(.str [111,110,101])])),([115,111,109,101],(.tup [(.str [111,110,101]),(.str [115,111,109,101])])),([97,110,121],(.tup [(.str [111,110,101]),(.str [115,111,109,101]),(.str [97,110,121]),.non]))] (.d (.str (ctS t)))=some (cwT t):=by cases t<;>rfl
theorem cw_in (o:Option Ct) (t:Ct):cop .isin (ctO o) (cwT t)=some (.bl (cw o t)):=by
 cases t<;>rcases o with _ | c<;>first | rfl | (cases c<;>rfl)
noncomputable def wi (l m:KV):Bool:=(!decide (m.length<l.length))&&(l.all λp=>(look p.1 m).isSome)&&m.all λq=>cw (look q.1 l) q.2
noncomputable abbrev shp (a b:List Nat) (l:KV):D:=.tup [.str a,.str b,lnsD l]
noncomputable def hd (a b a' b':List Nat):Bool:=a==a'&&b==b'
theorem zg5 {a b a' b':List Nat}:(D.tup [.str a,.str b]).eqb (.tup [.str a',.str b'])=hd a b a' b':=by
 simp [D.eqb,D.eqbs,hd]
theorem zgt {c:Cf} {l:KV}:(dGet (cfD c) (kvD l)).getD .non=ctO (look c l):=by rw [zcQ]
theorem zcE (n:Nat) {h:Sto} {a b a' b':List Nat} {l m:KV} {Q:R->Sto->Prop} (n1:Nk l) (n2:Nk m) (l1:l.length<=100) (l2:m.length<=100)
  (k:Q (.d (.bl (hd a b a' b'&&wi l m))) h):Ok (zan P (n+1) 8 [.d (shp a b l),.d (shp a' b' m)] h) Q:=by
 refine cl (F:=⟨2,7,zb9,false,[],false⟩) rfl rfl rfl ?_
 (conv=>whnf)
 refine br (λc=>?_) (λc=>?_)
 ·have c:(!hd a b a' b')=true:=by rw [<-zg5];exact c
  have e:hd a b a' b'=false:=by simpa using c
  rw [e] at k
  (conv=>whnf)
  exact f0 k
 ·have c:(!hd a b a' b')=false:=by rw [<-zg5];exact c
  have e:hd a b a' b'=true:=by simpa using c
  rw [e,Bool.true_and] at k
  (conv=>whnf)
  refine br (λc=>?_) (λc=>?_)
  ·have c:=of_decide_eq_true c
   have e:wi l m=false:=by
    unfold wi
    rw [decide_eq_true (p:=m.length<l.length) (by simpa using c)]
    rfl
   rw [e] at k
   (conv=>whnf)
   exact f0 k
  ·have c:=of_decide_eq_false c
   have e:wi l m=((l.all λp=>(look p.1 m).isSome)&&m.all λq=>cw (look q.1 l) q.2):=by
    unfold wi
    rw [decide_eq_false (p:=m.length<l.length) (by simpa using c)]
    rfl
   rw [e] at k
   (conv=>whnf)
   refine st (zcp n1 l1) ?_
   (conv=>whnf)
   refine st (zcp n2 l2) ?_
   (conv=>whnf)
   refine st g0 ?_
   (conv=>whnf)
   rw [dicW]
   refine ask (zci (g:=λp=>some (D.bl (look p.1 m).isSome)) (λp hp=>?_) (zj0 g0 g0) ?_)
   ·refine gc ?_
    (conv=>whnf)
    refine st zal ?_
    (conv=>whnf)
    refine bt (za0 p.1) ?_
    (conv=>whnf)
    rw [zcQ,Option.isSome_map]
    exact ⟨rfl,rfl⟩
   ·rw [zgd]
    (conv=>whnf)
    refine st zlz ?_
    (conv=>whnf)
    refine br (λc=>?_) (λc=>?_)
    ·have c:(l.all λp=>(look p.1 m).isSome)=false:=by simpa using c
     rw [c] at k
     (conv=>whnf)
     rw [List.append_assoc]
     exact fa k
    ·have c:(l.all λp=>(look p.1 m).isSome)=true:=by simpa using c
     rw [c,Bool.true_and] at k
     (conv=>whnf)
     refine ask (zbp (dD:=prD) (g:=λq=>D.bl (cw (look q.1 l) q.2)) (λq hq=>?_) zaN ?_)
     ·refine gc ?_
      (conv=>whnf)
      refine st g0 ?_
      (conv=>whnf)
      refine st g0 ?_
      (conv=>whnf)
      refine bt (za0 q.1) ?_
      (conv=>whnf)
      refine st (zl8 q.2) ?_
      (conv=>whnf)
      rw [zgt]
      refine st (cw_in _ _) ?_
      exact ⟨rfl,rfl⟩
     ·(conv=>whnf)
      refine st zlz ?_
      rw [List.append_assoc]
      exact fa k
end K42
set_option linter.all false
set_option maxRecDepth 10000
namespace K42
open IT
noncomputable def stp (l:KV) (c:Cf):KV:=match look c l with
 | none=>put c .one l
 | some _=>put c .some l
noncomputable def tog (cs:List Cf):KV:=cs.foldl stp []
theorem zhv (cs:List Cf) (c:Cf):tog (cs++[c])=stp (tog cs) c:=by simp [tog]
theorem zob {l:KV} (n:Nk l) (c:Cf):Nk (stp l c):=by
 unfold stp
 cases look c l<;>exact zlM n
theorem zgV:∀ (cs:List Cf) (l:KV),Nk l->Nk (cs.foldl stp l)
 | [],l,n=>n
 | c::cs,l,n=>zgV cs _ (zob n c)
theorem zgJ (cs:List Cf):Nk (tog cs):=zgV cs [] List.nodup_nil
theorem zf4:∀ (cs:List Cf) (l:KV),(cs.foldl stp l).length<=l.length+cs.length
 | [],l=>by simp
 | c::cs,l=>by
  have h1:=zf4 cs (stp l c)
  have h2:(stp l c).length<=l.length+1:=by
   unfold stp
   cases look c l<;>exact zgg
  rw [List.foldl_cons,List.length_cons]
  omega
theorem zmw (cs:List Cf):(tog cs).length<=cs.length:=by
 have:=zf4 cs []
 simpa [tog] using this
noncomputable def poD (c:Cf):D:=.tup [cfD c,.str kone]
theorem zjw {α:Type} {xs:List α} {i:Nat} {x:α} (e:xs[i]?=some x):xs.take (i+1)=xs.take i++[x]:=by
 rw [List.take_add_one,e];rfl
theorem zkh (n:Nat) {h:Sto} {cs:List Cf} {Q:R->Sto->Prop} (hl:cs.length<=10) (h4:(tog cs).length<=4) (k:Q (.d (lnsD (srt (tog cs)))) h) :
  Ok (zan P (n+1) 6 [.d (.lst (cs.map poD))] h) Q:=by
 refine cl (F:=⟨1,4,zcW,false,[],false⟩) rfl rfl rfl ?_
 (conv=>whnf)
 rw [List.map_map]
 refine ask (zb2 (g:=dI∘poD) (xs:=cs) (λi σ h'=>i<=cs.length/\∃ v2 v3,h'=h++[.dic (kvD (tog (cs.take i)))]/\σ=[some (R.d (.lst (cs.map poD))),some (R.loc h.length),v2,v3]) ?_ ?_ ⟨by omega,none,none,rfl,rfl⟩)
 ·rintro i c σ h' hx ⟨hi,v2,v3,rfl,rfl⟩
  have hi2:i<cs.length:=(List.getElem?_eq_some_iff.mp hx).1
  have hb:(kvD (tog (cs.take i))).length<big:=by
   have:=zmw (cs.take i)
   rw [List.length_take] at this
   unfold big kvD;rw [List.length_map];omega
  have et:tog (cs.take (i+1))=stp (tog (cs.take i)) c:=by rw [zjw hx,zhv]
  generalize tog (cs.take i)=l at hb et ⊢
  refine gb ?_
  (conv=>whnf)
  refine st zal ?_
  (conv=>whnf)
  refine bt (za0 c) ?_
  (conv=>whnf)
  rw [zcQ,Option.isSome_map]
  cases e:look c l with
  | none=>
   have et:tog (cs.take (i+1))=put c .one l:=by rw [et,stp,e]
   (conv=>whnf)
   refine bt (za0 c) ?_
   (conv=>whnf)
   refine st zal ⟨hb,?_⟩
   rw [zbB]
   refine ⟨rfl,by omega,_,_,?_,rfl⟩
   rw [et,<-zcI];rfl
  | some t=>
   have et:tog (cs.take (i+1))=put c .some l:=by rw [et,stp,e]
   have fn:∀ v2 v3:Option R,zaJ none (h++[.dic (kvD l)]) (h++[.dic (kvD (put c .some l))])=true/\i+1<=cs.length/\∃ v2' v3',h++[Ob.dic (kvD (put c .some l))]=h++[.dic (kvD (tog (cs.take (i+1))))]/\[some (R.d (.lst (cs.map poD))),some (R.loc h.length),v2,v3]=[some (R.d (.lst (cs.map poD))),some (R.loc h.length),v2',v3']:=
    fun v2 v3=>⟨rfl,by omega,v2,v3,by rw [et],rfl⟩
   (conv=>whnf)
   refine st zal ?_
   (conv=>whnf)
   refine bt (za0 c) ?_
   refine st (a:=D.str (ctS t)) (by rw [zcQ,e];rfl) ?_
   (conv=>whnf)
   refine br (λ_=>?_) (λ_=>?_)
   ·(conv=>whnf)
    refine bt (za0 c) ?_
    (conv=>whnf)
    refine st zal ⟨hb,?_⟩
    rw [zbB,show (D.str [115,111,109,101])=.str (ctS .some) from rfl,zcI]
    exact fn _ _
   ·(conv=>whnf)
    refine bt (za0 c) ?_
    (conv=>whnf)
    refine st zal ⟨hb,?_⟩
    rw [zbB,show (D.str [115,111,109,101])=.str (ctS .some) from rfl,zcI]
    exact fn _ _
 ·rintro σ h' ⟨hi,v2,v3,rfl,rfl⟩
  rw [List.take_length]
  (conv=>whnf)
  refine st zal ?_
  (conv=>whnf)
  refine st (zjP (zgJ cs) h4) ?_
  (conv=>whnf)
  exact fa k
noncomputable abbrev stD (s:List Nat) (v u a b:Int) (ls:List Ln):D:=.tup [.str s,.tup [.int v,.int u],.tup [.int a,.int b],.tup (ls.map lnD)]
noncomputable abbrev cfs (a:Int) (ls:List Ln):List Cf:=ls.map (cf a)
theorem zb5 (n:Nat) {h:Sto} {s:List Nat} {v u a b:Int} {ls:List Ln} {Q:R->Sto->Prop} (hl:ls.length<=10) (h4:(tog (cfs a ls)).length<=4)
  (k:Q (.d (shp s (zbM a (some (v,u))) (srt (tog (cfs a ls))))) h):Ok (zan P (n+6) 5 [.d (stD s v u a b ls)] h) Q:=by
 refine cl (F:=⟨1,4,zcL,false,[],false⟩) rfl rfl rfl ?_
 (conv=>whnf)
 refine ask (zbp (dD:=lnD) (g:=λl=>poD (cf a l)) (λl hl=>?_) zaN ?_)
 ·refine gc ?_
  (conv=>whnf)
  refine ask (zbt n ?_)
  exact ⟨rfl,rfl⟩
 ·rw [show (ls.map λl=>poD (cf a l))=(cfs a ls).map poD by rw [List.map_map];rfl]
  (conv=>whnf)
  refine ask (zbS (v:=some (v,u)) (n+3) ?_)
  (conv=>whnf)
  refine ask (zkh (n+4) (by rw [List.length_map];exact hl) h4 ?_)
  (conv=>whnf)
  exact f0 k
theorem zfw (cs:List Cf):Nk (srt (tog cs)):=zit (zgJ cs)
theorem zbQ (n:Nat) {h:Sto} {s s' m':List Nat} {v u a b:Int} {ls:List Ln} {m:KV} {Q:R->Sto->Prop} (hl:ls.length<=10) (h4:(tog (cfs a ls)).length<=4) (nm:Nk m) (lm:m.length<=100)
  (k:Q (.d (.bl (hd s (zbM a (some (v,u))) s' m'&&wi (srt (tog (cfs a ls))) m))) h):Ok (zan P (n+7) 7 [.d (stD s v u a b ls),.d (shp s' m' m)] h) Q:=by
 refine cl (F:=⟨2,2,zdy,false,[],false⟩) rfl rfl rfl ?_
 (conv=>whnf)
 refine ask (zb5 n hl h4 ?_)
 (conv=>whnf)
 refine ask (zcE (n+5) (zfw _) nm (by rw [zgC];omega) lm ?_)
 (conv=>whnf)
 exact f0 k
theorem zb4 (n:Nat) {h:Sto} {x y:Bool} {Q:R->Sto->Prop} (k:Q (.d (.bl (x==y))) h):Ok (zan P (n+1) 18 [.d (.bl x),.d (.bl y)] h) Q:=by
 refine cl (F:=⟨2,2,zdE,false,[],false⟩) rfl rfl rfl ?_
 (conv=>whnf)
 exact f0 k
noncomputable def ft (m:Int) (o:Option Ct):Bool:=match o with
 | none=>m==0
 | some .any=>true
 | some .one=>m==1
 | some .some=>m==1||decide (m>1)
theorem zfP (n:Nat) {h:Sto} {m:Int} {o:Option Ct} {Q:R->Sto->Prop} (k:Q (.d (.bl (ft m o))) h):Ok (zan P (n+1) 15 [.d (.int m),.d (ctO o)] h) Q:=by
 refine cl (F:=⟨2,2,zeF,false,[],false⟩) rfl rfl rfl ?_
 match o with
 | none=>
  (conv=>whnf)
  exact f0 k
 | some .any=>
  (conv=>whnf)
  exact f0 k
 | some .one=>
  (conv=>whnf)
  refine br (λc=>?_) (λc=>?_)
  ·have c:(m==1)=true:=c
   simp only [ft] at k
   rw [c] at k
   (conv=>whnf)
   exact f0 k
  ·have c:(m==1)=false:=c
   simp only [ft] at k
   rw [c] at k
   (conv=>whnf)
   refine br (λc=>?_) (λc=>?_)
   ·(conv=>whnf)
    exact f0 k
   ·(conv=>whnf)
    exact f0 k
 | some .some=>
  (conv=>whnf)
  refine br (λc=>?_) (λc=>?_)
  ·have c:(m==1)=true:=c
   simp only [ft] at k
   rw [c] at k
   (conv=>whnf)
   exact f0 k
  ·have c:(m==1)=false:=c
   simp only [ft] at k
   rw [c] at k
   (conv=>whnf)
   refine br (λc=>?_) (λc=>?_)
   ·rw [show decide (m>1)=true from c] at k
    (conv=>whnf)
    exact f0 k
   ·rw [show decide (m>1)=false from c] at k
    (conv=>whnf)
    exact f0 k
end K42
set_option linter.all false
set_option maxRecDepth 10000
namespace K42
open IT
noncomputable def bad (l m:KV) (c:Cf) (k:Int):Bool:=ft k (look c l)&&!ft k (look c m)
noncomputable def okc (l m:KV) (c:Cf):Bool:=!bad l m c 0&&!bad l m c 1&&!bad l m c 2&&!bad l m c 3
noncomputable def ww (l m:KV):Bool:=(l.map Prod.fst++m.map Prod.fst).all (okc l m)
theorem znI {l:KV}:(kvD l).map Prod.fst=(l.map Prod.fst).map cfD:=by rw [kvD,List.map_map,List.map_map];rfl
theorem ziq {α:Type} {p:α->Bool} {xs:List α} {i:Nat} {x:α} (e:xs[i]?=some x) (f:p x=false):xs.all p=false:=by
 rw [List.all_eq_false]
 exact ⟨x,List.mem_of_getElem? e,by rw [f];simp⟩
theorem zjF {α:Type} {p:α->Bool} {xs:List α} (h:∀ j x,j<xs.length->xs[j]?=some x->p x=true):xs.all p=true:=by
 rw [List.all_eq_true]
 intro x hx
 obtain ⟨j,hj⟩:=List.mem_iff_getElem?.mp hx
 exact h j x (List.getElem?_eq_some_iff.mp hj).1 hj
theorem zc7 (n:Nat) {h:Sto} {a b a' b':List Nat} {l m:KV} {Q:R->Sto->Prop} (n1:Nk l) (n2:Nk m) (l1:l.length<=100) (l2:m.length<=100)
  (k:Q (.d (.bl (hd a b a' b'&&ww l m))) h):Ok (zan P (n+2) 16 [.d (shp a b l),.d (shp a' b' m)] h) Q:=by
 refine cl (F:=⟨2,6,zc3,false,[],false⟩) rfl rfl rfl ?_
 (conv=>whnf)
 refine br (λc=>?_) (λc=>?_)
 ·have c:(!hd a b a' b')=true:=by rw [<-zg5];exact c
  have e:hd a b a' b'=false:=by simpa using c
  rw [e] at k
  (conv=>whnf)
  exact f0 k
 ·have c : (!hd a b a' b')=false:=by rw [<-zg5];exact c
  have e:hd a b a' b'=true:=by simpa using c
  rw [e,Bool.true_and] at k
  (conv=>whnf)
  refine st (zcp n1 l1) ?_
  (conv=>whnf)
  refine st (zcp n2 l2) ?_
  (conv=>whnf)
  refine st g0 ?_
  (conv=>whnf)
  refine st zal ?_
  (conv=>whnf)
  rw [znI,znI]
  refine st (a:=D.lst ((l.map Prod.fst++m.map Prod.fst).map cfD)) (by rw [List.map_append];exact if_pos (by simp [fit,big];omega)) ?_
  (conv=>whnf)
  rw [List.map_map]
  refine ask (zb2 (g:=dI∘cfD) (xs:=l.map Prod.fst++m.map Prod.fst) (λi σ h'=>(∀ j c,j<i->(l.map Prod.fst++m.map Prod.fst)[j]?=some c->okc l m c=true)/\h'=h++[Ob.dfr (kvD l)]++[Ob.dfr (kvD m)]/\∃ v4 v5,σ=[some (R.d (shp a b l)),some (R.d (shp a' b' m)),some (R.loc h.length),some (R.loc (h++[Ob.dfr (kvD l)]).length),v4,v5]) ?_ ?_ ⟨λj c hj=>by omega,rfl,none,none,rfl⟩)
  ·rintro i c σ h' hx ⟨hi,rfl,v4,v5,rfl⟩
   refine gb ?_
   (conv=>whnf)
   refine ⟨⟨by decide,by decide⟩,?_⟩
   refine ask (zi8 (λk σ h'=>k<=4/\(∀ j:Nat,j<k->bad l m c j=false)/\h'=h++[Ob.dfr (kvD l)]++[Ob.dfr (kvD m)]/\∃ v5,σ=[some (R.d (shp a b l)),some (R.d (shp a' b' m)),some (R.loc h.length),some (R.loc (h++[Ob.dfr (kvD l)]).length),some (R.d (cfD c)),v5]) ?_ ?_ ⟨by omega,λj hj=>by omega,rfl,_,rfl⟩)
   ·rintro k' x σ h' hx' ⟨hk,hj,rfl,v5,rfl⟩
    obtain ⟨hk2,rfl⟩:=zeL _ _ _ _ hx'
    have hk3:k'<4:=hk2
    have go:bad l m c k'=false->∀ v5,zaJ none (h++[Ob.dfr (kvD l)]++[Ob.dfr (kvD m)]) (h++[Ob.dfr (kvD l)]++[Ob.dfr (kvD m)])=true/\k'+1<=4/\(∀ j:Nat,j<k'+1->bad l m c j=false)/\h++[Ob.dfr (kvD l)]++[Ob.dfr (kvD m)]=h++[Ob.dfr (kvD l)]++[Ob.dfr (kvD m)]/\∃ v5',[some (R.d (shp a b l)),some (R.d (shp a' b' m)),some (R.loc h.length),some (R.loc (h++[Ob.dfr (kvD l)]).length),some (R.d (cfD c)),v5]=[some (R.d (shp a b l)),some (R.d (shp a' b' m)),some (R.loc h.length),some (R.loc (h++[Ob.dfr (kvD l)]).length),some (R.d (cfD c)),v5']:=by
     intro e v5
     refine ⟨rfl,by omega,λj hj'=>?_,rfl,v5,rfl⟩
     by_cases q:j=k'
     ·rw [q];exact e
     ·exact hj j (by omega)
    refine gb ?_
    (conv=>whnf)
    refine st g0 ?_
    (conv=>whnf)
    refine st g0 ?_
    (conv=>whnf)
    refine bt (za0 c) ?_
    (conv=>whnf)
    rw [zgt]
    refine ask (zfP n ?_)
    (conv=>whnf)
    refine br (λc1=>?_) (λc1=>?_)
    ·(conv=>whnf)
     refine st zal ?_
     (conv=>whnf)
     refine st zal ?_
     (conv=>whnf)
     refine bt (za0 c) ?_
     (conv=>whnf)
     rw [zgt]
     refine ask (zfP n ?_)
     (conv=>whnf)
     refine br (λc2=>?_) (λc2=>?_)
     ·have e:ww l m=false:=by
       refine ziq hx ?_
       have b:bad l m c k'=true:=by
        unfold bad
        rw [show ft ↑k' (look c l)=true by simpa using c1,Bool.true_and]
        simpa using c2
       have:k'=0\/k'=1\/k'=2\/k'=3:=by omega
       unfold okc
       rcases this with rfl | rfl | rfl | rfl
       ·rw [show bad l m c 0=true from b];rfl
       ·rw [show bad l m c 1=true from b];simp
       ·rw [show bad l m c 2=true from b];simp
       ·rw [show bad l m c 3=true from b];simp
      rw [e] at k
      (conv=>whnf)
      rw [List.append_assoc]
      exact fa k
     ·(conv=>whnf)
      refine go ?_ _
      unfold bad
      rw [show (!ft ↑k' (look c m))=false by simpa using c2,Bool.and_false]
    ·(conv=>whnf)
     refine go ?_ _
     unfold bad
     rw [show ft ↑k' (look c l)=false by simpa using c1,Bool.false_and]
   ·rintro σ h' ⟨hk,hj,rfl,v5,rfl⟩
    rw [zb1] at hj
    (conv=>whnf)
    refine ⟨rfl,λj d hj' e=>?_,rfl,_,_,rfl⟩
    by_cases q:j=i
    ·subst q
     rw [hx] at e
     cases e
     unfold okc
     rw [show bad l m c 0=false from hj 0 (by decide),show bad l m c 1=false from hj 1 (by decide),show bad l m c 2=false from hj 2 (by decide),show bad l m c 3=false from hj 3 (by decide)]
     rfl
    ·exact hi j d (by omega) e
  ·rintro σ h' ⟨hi,rfl,v4,v5,rfl⟩
   have e:ww l m=true:=zjF λj x hj e=>hi j x hj e
   rw [e] at k
   (conv=>whnf)
   rw [List.append_assoc]
   exact fa k
end K42
set_option linter.all false
set_option maxRecDepth 10000
namespace K42
open IT
mutual
theorem zlx:∀ x y:D,D.hk x=true->D.hk y=true->x.eqb y=x.same y
 | .int a,.int b,_,_=>by rw [D.eqb,D.same]
 | .int a,.str b,_,_=>by simp [D.eqb,D.same]
 | .int a,.tup b,_,_=>by simp [D.eqb,D.same]
 | .str a,.int b,_,_=>by simp [D.eqb,D.same]
 | .str a,.str b,_,_=>by rw [D.eqb,D.same]
 | .str a,.tup b,_,_=>by simp [D.eqb,D.same]
 | .tup a,.int b,_,_=>by simp [D.eqb,D.same]
 | .tup a,.str b,_,_=>by simp [D.eqb,D.same]
 | .tup a,.tup b,h1,h2=>by rw [D.eqb,D.same];exact eqbs_hk a b h1 h2
 | .non,_,h,_=>by simp [D.hk] at h
 | .bl _,_,h,_=>by simp [D.hk] at h
 | .lst _,_,h,_=>by simp [D.hk] at h
 | .int _,.non,_,h=>by simp [D.hk] at h
 | .int _,.bl _,_,h=>by simp [D.hk] at h
 | .int _,.lst _,_,h=>by simp [D.hk] at h
 | .str _,.non,_,h=>by simp [D.hk] at h
 | .str _,.bl _,_,h=>by simp [D.hk] at h
 | .str _,.lst _,_,h=>by simp [D.hk] at h
 | .tup _,.non,_,h=>by simp [D.hk] at h
 | .tup _,.bl _,_,h=>by simp [D.hk] at h
 | .tup _,.lst _,_,h=>by simp [D.hk] at h
theorem eqbs_hk:∀ x y:List D,D.hks x=true->D.hks y=true->D.eqbs x y=D.sames x y
 | [],[],_,_=>by rw [D.eqbs,D.sames]
 | [],_::_,_,_=>by simp [D.eqbs,D.sames]
 | _::_,[],_,_=>by simp [D.eqbs,D.sames]
 | a::r,b::t,h1,h2=>by
  rw [D.hks,Bool.and_eq_true] at h1 h2
  rw [D.eqbs,D.sames,zlx a b h1.1 h2.1,eqbs_hk r t h1.2 h2.2]
end
theorem zn2 (c:Cf):D.hk (cfD c)=true:=by
 have h:=za0 c
 unfold zai cfD at h
 rw [Bool.and_eq_true] at h
 exact h.1
theorem zoL (a b:Cf):(cfD a).eqb (cfD b)=decide (a=b):=by rw [zlx _ _ (zn2 a) (zn2 b),zfh]
noncomputable def cnt (cs:List Cf) (c:Cf):Nat:=cs.countP λd=>decide (d=c)
theorem zhs (cs:List Cf) (c:Cf):IT.lmD .count (.lst (cs.map cfD)) (cfD c)=some (.int (cnt cs c)):=by
 show (if decide ((cfD c).dep<=60)=true then _ else _)=_
 rw [if_pos (decide_eq_true (by have:=zh7 c;omega)),List.countP_map]
 have:((λy=>D.eqb y (cfD c))∘cfD)=λd=>decide (d=c):=by funext d;exact zoL d c
 rw [this];rfl
noncomputable def lq (k:Nat) (t:Ct):Bool:=!(t==.one&&decide (k≠1)||t==.some&&decide (k=0))
noncomputable def wl (cs:List Cf) (m:KV):Bool:=(cs.all λc=>(look c m).isSome)&&m.all λq=>lq (cnt cs q.1) q.2
theorem zoN {α:Type} {f:α->D} {xs:List α}:cop .ne (.lst (xs.map f)) (.lst [])=some (.bl (!xs.isEmpty)):=by
 rw [zi1 (zjG (by simp [D.dep,D.deps]))]
 cases xs<;>simp [D.eqb,D.eqbs]
theorem zoc {α β:Type} {p:α->Bool} {g:α->β}:∀ xs:List α,xs.filterMap (λx=>if p x then some (g x) else none)=(xs.filter p).map g
 | []=>rfl
 | x::xs=>by
  rw [List.filterMap_cons,List.filter_cons]
  cases p x<;>simp [zoc xs]
theorem zed {α:Type} {p:α->Bool}:∀ xs:List α,(xs.filter p).isEmpty=xs.all λx=>!p x
 | []=>rfl
 | x::xs=>by
  rw [List.filter_cons,List.all_cons]
  cases p x<;>simp [zed xs]
theorem zhS (n:Nat) {h:Sto} {s s' m':List Nat} {v u a b:Int} {ls:List Ln} {m:KV} {Q:R->Sto->Prop} (nm:Nk m) (lm:m.length<=100)
  (k:Q (.d (.bl (hd s (zbM a (some (v,u))) s' m'&&wl (cfs a ls) m))) h):Ok (zan P (n+6) 14 [.d (stD s v u a b ls),.d (shp s' m' m)] h) Q:=by
 refine cl (F:=⟨2,9,zde,false,[],false⟩) rfl rfl rfl ?_
 have main:hd s (zbM a (some (v,u))) s' m'=true->wSs (zan P (n+5)) (zde.drop 1) [some (R.d (stD s v u a b ls)),some (R.d (shp s' m' m)),none,none,none,none,none,none,none] h (kF h false false Q):=by
  intro e
  rw [e,Bool.true_and] at k
  (conv=>whnf)
  refine ask (zbp (dD:=lnD) (g:=λl=>cfD (cf a l)) (λl hl=>?_) zaN ?_)
  ·refine gc ?_
   (conv=>whnf)
   refine ask (zbt n ?_)
   exact ⟨rfl,rfl⟩
  ·rw [show (ls.map λl=>cfD (cf a l))=(cfs a ls).map cfD by rw [List.map_map];rfl]
   generalize cfs a ls=cs at k ⊢
   (conv=>whnf)
   refine st (zcp nm lm) ?_
   (conv=>whnf)
   rw [List.map_map]
   refine ask (zci (d:=dI∘cfD) (xs:=cs) (g:=λc=>if !(look c m).isSome then some (cfD c) else none) (λc hc=>?_) zaN ?_)
   ·refine gc ?_
    (conv=>whnf)
    refine st zal ?_
    (conv=>whnf)
    refine bt (za0 c) ?_
    (conv=>whnf)
    rw [zcQ,Option.isSome_map]
    cases (look c m).isSome
    ·(conv=>whnf)
     exact ⟨rfl,rfl⟩
    ·(conv=>whnf)
     exact ⟨rfl,rfl⟩
   ·rw [zoc]
    (conv=>whnf)
    refine st zoN ?_
    rw [zed]
    simp only [Bool.not_not]
    (conv=>whnf)
    refine br (λc=>?_) (λc=>?_)
    ·have c:(cs.all λc=>(look c m).isSome)=false:=by simpa using c
     have e:wl cs m=false:=by unfold wl;rw [c];rfl
     rw [e] at k
     (conv=>whnf)
     exact fa k
    ·have c:(cs.all λc=>(look c m).isSome)=true:=by simpa using c
     have e:wl cs m=m.all λq=>lq (cnt cs q.1) q.2:=by unfold wl;rw [c];rfl
     rw [e] at k
     (conv=>whnf)
     rw [List.map_map]
     refine ask (zb2 (g:=dI∘prD) (xs:=m) (λi σ h'=>(∀ j q,j<i->m[j]?=some q->lq (cnt cs q.1) q.2=true)/\h'=h++[.dfr (kvD m)]/\∃ v4 v5 v6,σ=[some (R.d (stD s v u a b ls)),some (R.d (shp s' m' m)),some (R.d (.lst (cs.map cfD))),some (R.loc h.length),v4,v5,v6,none,none]) ?_ ?_ ⟨λj q hj=>by omega,rfl,none,none,none,rfl⟩)
     ·rintro i q σ h' hx ⟨hi,rfl,v4,v5,v6,rfl⟩
      have bad:lq (cnt cs q.1) q.2=false->Ok (fin h false false (.d (.bl false)) (h++[Ob.dfr (kvD m)])) Q:=by
       intro e2
       rw [ziq hx e2] at k
       exact fa k
      have good:lq (cnt cs q.1) q.2=true->∀ v4 v5 v6,zaJ none (h++[Ob.dfr (kvD m)]) (h++[Ob.dfr (kvD m)])=true/\(∀ j q,j<i+1->m[j]?=some q->lq (cnt cs q.1) q.2=true)/\h++[Ob.dfr (kvD m)]=h++[Ob.dfr (kvD m)]/\∃ w4 w5 w6,[some (R.d (stD s v u a b ls)),some (R.d (shp s' m' m)),some (R.d (.lst (cs.map cfD))),some (R.loc h.length),v4,v5,v6,none,none]=[some (R.d (stD s v u a b ls)),some (R.d (shp s' m' m)),some (R.d (.lst (cs.map cfD))),some (R.loc h.length),w4,w5,w6,none,none]:=by
       intro e2 v4 v5 v6
       refine ⟨rfl,λj p hj e3=>?_,rfl,v4,v5,v6,rfl⟩
       by_cases z:j=i
       ·subst z;rw [hx] at e3;cases e3;exact e2
       ·exact hi j p (by omega) e3
      obtain ⟨c,t⟩:=q
      refine gb ?_
      (conv=>whnf)
      refine st (zhs cs c) ?_
      generalize cnt cs c=k' at bad good ⊢
      match t with
      | .one=>
       (conv=>whnf)
       refine br (λc1=>?_) (λc1=>?_)
       ·(conv=>whnf)
        refine bad ?_
        have:¬ k'=1:=by
         intro e;subst e;exact absurd c1 (by decide)
        simp [lq,this]
       ·(conv=>whnf)
        refine good ?_ _ _ _
        have:k'=1:=by
         have c1:(!((k':Int)==1))=false:=c1
         simp at c1
         omega
        simp [lq,this]
      | .some=>
       (conv=>whnf)
       refine br (λc1=>?_) (λc1=>?_)
       ·(conv=>whnf)
        refine bad ?_
        have:k'=0:=by
         have c1:((k':Int)==0)=true:=c1
         simp at c1
         omega
        simp [lq,this]
       ·(conv=>whnf)
        refine good ?_ _ _ _
        have:¬ k'=0:=by
         intro e;subst e;exact absurd c1 (by decide)
        simp [lq,this]
      | .any=>
       (conv=>whnf)
       exact good (by simp [lq]) _ _ _
     ·rintro σ h' ⟨hi,rfl,v4,v5,v6,rfl⟩
      rw [zjF λj x hj e=>hi j x hj e] at k
      (conv=>whnf)
      exact fa k
 (conv=>whnf)
 refine br (λc=>?_) (λc=>?_)
 ·have e:hd s (zbM a (some (v,u))) s' m'=false:=by
   have c:(!(s==s'))=true:=c
   unfold hd
   rw [show (s==s')=false by simpa using c];rfl
  rw [e] at k
  (conv=>whnf)
  exact f0 k
 ·have c:(s==s')=true:=by
   have c:(!(s==s'))=false:=c
   simpa using c
  (conv=>whnf)
  refine ask (zbS (v:=some (v,u)) (n+3) ?_)
  (conv=>whnf)
  refine br (λc2=>?_) (λc2=>?_)
  ·have e:hd s (zbM a (some (v,u))) s' m'=false:=by
    have c2:(!(zbM a (some (v,u))==m'))=true:=c2
    unfold hd
    rw [show (zbM a (some (v,u))==m')=false by simpa using c2,Bool.and_false]
   rw [e] at k
   (conv=>whnf)
   exact f0 k
  ·have e:hd s (zbM a (some (v,u))) s' m'=true:=by
    have c2:(!(zbM a (some (v,u))==m'))=false:=c2
    unfold hd
    rw [c,show (zbM a (some (v,u))==m')=true by simpa using c2];rfl
   exact main e
end K42
set_option linter.all false
set_option maxRecDepth 10000
namespace K42
open IT
noncomputable def za1:List Cf->List Cf
 | []=>[]
 | c::r=>c::(za1 r).filter λd=>!decide (c=d)
theorem zhp:∀ cs:List Cf,once (cs.map cfD)=(za1 cs).map cfD
 | []=>rfl
 | c::r=>by
  rw [List.map_cons,once,zhp r,za1,List.map_cons,List.filter_map]
  congr 2
  refine List.filter_congr λd _=>?_
  simp [zfh]
theorem zaO:∀ cs:List Cf,(za1 cs).Nodup
 | []=>List.nodup_nil
 | c::r=>by
  rw [za1,List.nodup_cons]
  refine ⟨λh=>?_,(zaO r).filter _⟩
  have:=(List.mem_filter.mp h).2
  simp at this
theorem zaC {c:Cf}:∀ {cs:List Cf},c∈za1 cs↔c∈cs
 | []=>by simp [za1]
 | d::r=>by
  rw [za1,List.mem_cons,List.mem_cons,List.mem_filter,zaC]
  by_cases e:c=d
  ·simp [e]
  ·have e':¬ d=c:=λh=>e h.symm
   simp [e,e']
theorem zcV {c:Cf}:∀ {cs:List Cf},za1 (cs++[c])=if c∈cs then za1 cs else za1 cs++[c]
 | []=>by simp [za1]
 | d :: r=>by
  rw [List.cons_append,za1,zcV,za1]
  by_cases h:c∈r
  ·rw [if_pos h,if_pos (List.mem_cons_of_mem _ h)]
  ·rw [if_neg h,List.filter_append]
   by_cases e:d=c
   ·subst e
    rw [if_pos List.mem_cons_self]
    simp
   ·rw [if_neg (by simp [h];exact λq=>e q.symm)]
    simp [e]
theorem ze6 (cs:List Cf) (c d:Cf):cnt (cs++[d]) c=cnt cs c+if d=c then 1 else 0:=by
 unfold cnt
 rw [List.countP_append,List.countP_cons,List.countP_nil]
 by_cases e:d=c<;>simp [e]
theorem ziY {cs:List Cf} {c:Cf} (h:c∈cs):0<cnt cs c:=by
 unfold cnt
 rw [List.countP_pos_iff]
 exact ⟨c,h,by simp⟩
theorem zhn {cs:List Cf} {c:Cf} (h:c ∉ cs):cnt cs c=0:=by
 unfold cnt
 rw [List.countP_eq_zero]
 intro d hd e
 exact h (of_decide_eq_true e▸hd)
noncomputable def gc' (cs:List Cf) (c:Cf):Ct:=if cnt cs c=1 then .one else .some
theorem zjs {f:Cf->Ct} {c:Cf} {t:Ct}:∀ {xs:List Cf},xs.Nodup->c∈xs->put c t (xs.map λd=>(d,f d))=xs.map λd=>(d,if d=c then t else f d)
 | [],_,h=>by simp at h
 | x::r,n,h=>by
  rw [List.nodup_cons] at n
  rw [List.map_cons,put,List.map_cons]
  by_cases e:x=c
  ·subst e
   rw [if_pos rfl,if_pos rfl]
   congr 1
   refine List.map_congr_left λd hd=>?_
   rw [if_neg λq:d=x=>n.1 (by rw [<-q];exact hd)]
  ·rw [if_neg e,if_neg e,zjs n.2]
   rcases List.mem_cons.mp h with h | h
   ·exact absurd h.symm e
   ·exact h
theorem zdw:∀ (n:Nat) (cs:List Cf),cs.length=n->tog cs=(za1 cs).map λc=>(c,gc' cs c)
 | 0,[],_=>rfl
 | n + 1,cs,hl=>by
  obtain ⟨ds,c,rfl⟩:∃ ds c,cs=ds++[c]:=by
   rcases List.eq_nil_or_concat cs with e | ⟨l,v,e⟩
   ·rw [e] at hl;simp at hl
   ·exact ⟨l,v,by rw [e,List.concat_eq_append]⟩
  have ih:=zdw n ds (by simpa using hl)
  have keys:(tog ds).map Prod.fst=za1 ds:=by rw [ih,List.map_map];simp [Function.comp_def]
  rw [zhv,stp]
  by_cases h:c∈ds
  ·have hk:c∈(tog ds).map Prod.fst:=by rw [keys];exact zaC.mpr h
   cases e:look c (tog ds) with
   | none=>exact absurd hk (zcD.mp e)
   | some t=>
    dsimp only
    rw [ih,zjs (zaO ds) (zaC.mpr h),zcV,if_pos h]
    refine List.map_congr_left λd hd=>?_
    congr 1
    unfold gc'
    rw [ze6]
    by_cases e:d=c
    ·subst e
     have:=ziY h
     rw [if_pos rfl,if_pos rfl,if_neg (by omega)]
    ·rw [if_neg e,if_neg (λq=>e q.symm:¬ c=d)];rfl
  ·have hk:c ∉ (tog ds).map Prod.fst:=by rw [keys];exact λq=>h (zaC.mp q)
   cases e:look c (tog ds) with
   | some t=>exact absurd (List.mem_map.mpr ⟨_,zbb e,rfl⟩) hk
   | none=>
    dsimp only
    rw [zeI hk,ih,zcV,if_neg h,List.map_append]
    congr 1
    ·refine List.map_congr_left λd hd=>?_
     congr 1
     unfold gc'
     rw [ze6,if_neg (λq=>h (by rw [q];exact zaC.mp hd):¬ c=d)];rfl
    ·simp only [List.map_cons,List.map_nil,gc']
     rw [ze6,zhn h,if_pos rfl];rfl
noncomputable def ownL (cs:List Cf):KV:=(isB ltC (za1 cs)).map λc=>(c,gc' cs c)
theorem zm4 (cs:List Cf):srt (tog cs)=ownL cs:=by
 rw [zdw _ cs rfl,srt,ownL]
 exact zi7 (za1 cs) (zaO cs) λx _ y _ _=>rfl
theorem zgO (cs:List Cf):(tog cs).length=(za1 cs).length:=by rw [zdw _ cs rfl,List.length_map]
theorem zmH {cs:List Cf} (hl:cs.length<=10) (h4:(za1 cs).length<=4):zc0 (.lst (cs.map cfD))=some ((isB ltC (za1 cs)).map cfD):=by
 show (if (fit (cs.map cfD).length&&(cs.map cfD).all zai)=true then zch (once (cs.map cfD)) else none)=_
 rw [if_pos,zhp,zch,if_pos]
 ·rw [zdA (lt:=ltC) (za1 cs) (zaO cs) λx _ y _ _=>rfl]
 ·simp only [Bool.and_eq_true,decide_eq_true_eq,List.length_map,List.all_eq_true]
  refine ⟨⟨⟨⟨h4,λx hx=>?_⟩,ze1 (zdV (λ_ _=>zeD) (zaO cs))⟩,zpl zlS λx hx=>?_⟩,(Bool.or_eq_true _ _).mpr (.inl (List.all_eq_true.mpr λx hx=>?_))⟩
  ·obtain ⟨p,_,rfl⟩:=List.mem_map.mp hx;exact za0 p
  ·obtain ⟨p,_,rfl⟩:=List.mem_map.mp hx;exact zjk p
  ·obtain ⟨p,_,rfl⟩:=List.mem_map.mp hx;rfl
 ·simp only [Bool.and_eq_true,List.length_map,List.all_eq_true]
  refine ⟨decide_eq_true (by unfold big;omega),λx hx=>?_⟩
  obtain ⟨p,_,rfl⟩:=List.mem_map.mp hx;exact za0 p
theorem pick {k:Nat} {cs:List Cf} {c:Cf} (e:cnt cs c=k):idxD (.lst [.str zhN,.str kone]) (.int (if ((k:Int)==1)=true then 1 else 0))=some (.str (ctS (gc' cs c))):=by
 unfold gc'
 rw [e]
 by_cases q:k=1
 ·subst q;rfl
 ·rw [if_neg (by simp;omega),if_neg q];rfl
theorem zgW (n:Nat) {h:Sto} {s:List Nat} {v u a b:Int} {ls:List Ln} {Q:R->Sto->Prop} (hl:ls.length<=10) (h4:(tog (cfs a ls)).length<=4)
  (k:Q (.d (shp s (zbM a (some (v,u))) (srt (tog (cfs a ls))))) h):Ok (zan P (n+6) 17 [.d (stD s v u a b ls)] h) Q:=by
 refine cl (F:=⟨1,5,zgl,false,[],false⟩) rfl rfl rfl ?_
 (conv=>whnf)
 refine ask (zbp (dD:=lnD) (g:=λl=>cfD (cf a l)) (λl hl=>?_) zaN ?_)
 ·refine gc ?_
  (conv=>whnf)
  refine ask (zbt n ?_)
  exact ⟨rfl,rfl⟩
 ·rw [show (ls.map λl=>cfD (cf a l))=(cfs a ls).map cfD by rw [List.map_map];rfl]
  rw [zm4] at k
  rw [zgO] at h4
  have hl':(cfs a ls).length<=10:=by rw [List.length_map];exact hl
  generalize cfs a ls=cs at k h4 hl' ⊢
  (conv=>whnf)
  refine st (zmH hl' h4) ?_
  (conv=>whnf)
  refine ask (zbp (dD:=cfD) (g:=λc=>prD (c,gc' cs c)) (λc hc=>?_) zaN ?_)
  ·refine gc ?_
   (conv=>whnf)
   refine st (zhs cs c) ?_
   (conv=>whnf)
   refine st (pick (cs:=cs) (c:=c) rfl) ?_
   exact ⟨rfl,rfl⟩
  ·(conv=>whnf)
   refine ask (zbS (v:=some (v,u)) (n+3) ?_)
   (conv=>whnf)
   refine f0 ?_
   have e:lnsD (ownL cs)=.tup ((isB ltC (za1 cs)).map λc=>prD (c,gc' cs c)):=by rw [lnsD,ownL,List.map_map];rfl
   rw [shp,e] at k
   exact k
end K42
set_option linter.all false
set_option maxRecDepth 10000
namespace K42
open IT
theorem len1 {h:Sto} {o:Ob}:(h++[o]).length=h.length+1:=by simp
theorem app1 {h t:Sto} {o:Ob}:h++[o]++t=h++o::t:=by simp
theorem f2 {k:Bool} {x:D} {xs ys:List D} {h t:Sto} {Q:R->Sto->Prop} (q:Q (.d x) (h++[.lst ys])):Ok (fin (h++[.lst xs]) false k (.d x) (h++.lst ys::t)) Q:=by
 have e:=zdr (h:=h++[Ob.lst xs]) (t:=t) (l:=h.length) (xs:=xs) (ys:=ys) zal
 rw [zbB,app1] at e
 refine fd e ?_
 rw [len1,<-app1,List.take_left' (by simp)]
 exact q
theorem idx4 {x y z w:D} {i:Int} (h0:0<=i) (h1:i<4) (p:D->Prop) (hx:p x) (hy:p y) (hz:p z) (hw:p w):∃ d,idxD (.lst [x,y,z,w]) (.int i)=some d/\p d:=by
 have:i=0\/i=1\/i=2\/i=3:=by omega
 rcases this with rfl | rfl | rfl | rfl
 ·exact ⟨_,rfl,hx⟩
 ·exact ⟨_,rfl,hy⟩
 ·exact ⟨_,rfl,hz⟩
 ·exact ⟨_,rfl,hw⟩
theorem idx3 {x y z:D} {i:Int} (h0:0<=i) (h1:i<3) (p:D->Prop) (hx:p x) (hy:p y) (hz:p z):∃ d,idxD (.lst [x,y,z]) (.int i)=some d/\p d:=by
 have:i=0\/i=1\/i=2:=by omega
 rcases this with rfl | rfl | rfl
 ·exact ⟨_,rfl,hx⟩
 ·exact ⟨_,rfl,hy⟩
 ·exact ⟨_,rfl,hz⟩
theorem zdC (n:Nat) {h:Sto} {ps:List Int} {ls:List Ln} {a b:Int} {Q:R->Sto->Prop} (h4:ls.length<=4)
  (k:∀ s m l qs,Nk l->l.length<=4->Q (.d (shp s m l)) (h++[pl qs])):Ok (zan P (n+6) 13 [.loc h.length,.d (.lst (ls.map lnD)),.d (.tup [.int a,.int b])] (h++[pl ps])) Q:=by
 refine cl (F:=⟨3,6,zdT,false,[],false⟩) rfl rfl rfl ?_
 (conv=>whnf)
 rw [len1,app1,List.map_map]
 refine ask (zb2 (g:=dI∘lnD) (xs:=ls) (λi σ h'=>i<=ls.length/\∃ (l:KV) (qs:List Int) (v4:Option R),Nk l/\l.length<=i/\h'=h++pl qs::[.dic (kvD l)]/\σ=[some (R.loc h.length),some (R.d (.lst (ls.map lnD))),some (R.d (.tup [.int a,.int b])),some (R.loc (h.length+1)),v4,none]) ?_ ?_ ⟨by omega,[],ps,none,List.nodup_nil,by simp,rfl,rfl⟩)
 ·rintro i x σ h' hx ⟨hi,l,qs,v4,nk,ll,rfl,rfl⟩
  have hi2:i<ls.length:=(List.getElem?_eq_some_iff.mp hx).1
  have hb:(kvD l).length<big:=by unfold big kvD;rw [List.length_map];omega
  refine gb ?_
  (conv=>whnf)
  refine ask (zaR (n+4) (by decide) λd qs _ _=>?_)
  (conv=>whnf)
  refine br (λ_=>?_) (λ_=>?_)
  ·(conv=>whnf)
   refine ask (zaR (n+4) (by decide) λe qs e0 e1=>?_)
   obtain ⟨_,ei,t,rfl⟩:=idx3 (x:=.str kone) (y:=.str zhN) (z:=.str kany) e0 e1 (λd=>∃ t,d=.str (ctS t)) ⟨.one,rfl⟩ ⟨.some,rfl⟩ ⟨.any,rfl⟩
   (conv=>whnf)
   refine st ei ?_
   (conv=>whnf)
   refine ask (zbt n ?_)
   (conv=>whnf)
   refine bt (za0 _) ?_
   (conv=>whnf)
   refine st zex ⟨hb,?_⟩
   rw [zkx,zcI]
   refine ⟨rfl,by omega,put (cf a x) t l,qs,_,zlM nk,?_,rfl,rfl⟩
   have:=zgg (c:=cf a x) (t:=t) (l:=l)
   omega
  ·(conv=>whnf)
   exact ⟨rfl,by omega,l,qs,_,nk,by omega,rfl,rfl⟩
 ·rintro σ h' ⟨hi,l,qs,v4,nk,ll,rfl,rfl⟩
  have l4:l.length<=4:=by omega
  (conv=>whnf)
  refine ask (zaR (n+4) (by decide) λe qs e0 e1=>?_)
  obtain ⟨_,ei,s,rfl⟩:=idx4 (x:=.str [104]) (y:=.str [104]) (z:=.str [104]) (w:=.str [103]) e0 e1 (λd=>∃ s,d=.str s) ⟨_,rfl⟩ ⟨_,rfl⟩ ⟨_,rfl⟩ ⟨_,rfl⟩
  (conv=>whnf)
  refine st ei ?_
  (conv=>whnf)
  refine ask (zaR (n+4) (by decide) λe qs e0 e1=>?_)
  obtain ⟨_,ei,m,rfl⟩:=idx3 (x:=.str zd2) (y:=.str zd2) (z:=.str kold) e0 e1 (λd=>∃ s,d=.str s) ⟨_,rfl⟩ ⟨_,rfl⟩ ⟨_,rfl⟩
  (conv=>whnf)
  refine st ei ?_
  (conv=>whnf)
  refine st zex ?_
  (conv=>whnf)
  refine st (zjP nk l4) ?_
  (conv=>whnf)
  exact f2 (k s m (srt l) qs (zit nk) (by rw [zgC];exact l4))
theorem zkV {i:Int} {m:Int} (hm:0<m):0<=i % m/\i % m<m:=⟨Int.emod_nonneg _ (by omega),Int.emod_lt_of_pos _ hm⟩
theorem zh5 (n:Nat) {h:Sto} {t f:Int} {Q:R->Sto->Prop} (k:∀ l:Ln,Q (.d (lnD l)) h):Ok (zan P (n+1) 12 [.d (.int t),.d (.int f)] h) Q:=by
 refine cl (F:=⟨2,4,zeG,false,[],false⟩) rfl rfl rfl ?_
 obtain ⟨a0,a1⟩:=zkV (i:=t) (m:=4) (by decide)
 obtain ⟨_,ea,v,rfl⟩:=idx4 (x:=.non) (y:=.tup [.int 1,.int 4]) (z:=.tup [.int 3,.int 2]) (w:=.tup [.int 3,.int 2]) a0 a1 (λd=>∃ v,d=valD v) ⟨none,rfl⟩ ⟨some (1,4),rfl⟩ ⟨some (3,2),rfl⟩ ⟨some (3,2),rfl⟩
 obtain ⟨b0,b1⟩:=zkV (i:=t / 4) (m:=4) (by decide)
 obtain ⟨c0,c1⟩:=zkV (i:=t / 2) (m:=2) (by decide)
 have cutW:∀ w:List Lt,∃ w':List Lt,sliD (wayD w) .non (.int (t / 2 % 2))=some (wayD w'):=by
  intro w
  refine ⟨cut w none (some (t / 2 % 2)),?_⟩
  show some (D.tup (cut (w.map letD) none (some (t / 2 % 2))))=_
  unfold cut wayD
  rw [List.map_take,List.map_drop,List.length_map]
 obtain ⟨_,eb,w,rfl⟩:=idx4 (x:=.tup []) (y:=.tup [.tup [.str [97],.non]]) (z:=.tup [.tup [.str [97],.tup [.int 3,.int 2]]]) (w:=.tup [.tup [.str [98],.tup [.int 0,.int 0]],.tup [.str [97],.non]]) b0 b1 (λd=>∃ w,d=wayD w) ⟨[],rfl⟩ ⟨[([97],none)],rfl⟩ ⟨[([97],some (3,2))],rfl⟩ ⟨[([98],some (0,0)),([97],none)],rfl⟩
 obtain ⟨w',ew⟩:=cutW w
 obtain ⟨d0,d1⟩:=zkV (i:=t / 16) (m:=3) (by decide)
 obtain ⟨_,ed,s,rfl⟩:=idx3 (x:=.str [105]) (y:=.str [119]) (z:=.str [109]) d0 d1 (λd=>∃ s,d=.str s) ⟨_,rfl⟩ ⟨_,rfl⟩ ⟨_,rfl⟩
 (conv=>whnf)
 refine st ea ?_
 (conv=>whnf)
 refine st eb ?_
 (conv=>whnf)
 refine st ed ?_
 (conv=>whnf)
 have ew:D.tup (cut (w.map letD) none (some (t / 2 % 2)))=wayD w':=Option.some.inj ew
 rw [ew]
 exact f0 (k ⟨s,v,_,w,w',f⟩)
end K42
set_option linter.all false
set_option maxRecDepth 10000
namespace K42
open IT
theorem zgn:∀ {xs ys:List Cf},xs.Nodup->(∀ x∈xs,x∈ys)->xs.length<=ys.length
 | [],ys,_,_=>by simp
 | x::r,ys,n,h=>by
  rw [List.nodup_cons] at n
  have hx:=h x List.mem_cons_self
  have:=zgn (xs:=r) (ys:=ys.erase x) n.2 λy hy=>(List.mem_erase_of_ne (λe=>n.1 (by rw [<-e];exact hy):y≠x)).mpr (h y (List.mem_cons_of_mem _ hy))
  rw [List.length_erase_of_mem hx] at this
  have:0<ys.length:=List.length_pos_of_mem hx
  rw [List.length_cons]
  omega
theorem zk4 {l m:KV} (n:Nk l) (h:∀ p∈l,(look p.1 m).isSome=true):l.length<=m.length:=by
 have:=zgn (xs:=l.map Prod.fst) (ys:=m.map Prod.fst) n λc hc=>by
  obtain ⟨p,hp,rfl⟩:=List.mem_map.mp hc
  obtain ⟨t,e⟩:=Option.isSome_iff_exists.mp (h p hp)
  exact List.mem_map.mpr ⟨_,zbb e,rfl⟩
 simpa using this
theorem zf8 {l m:KV} (n:Nk l):wi l m=true↔(∀ p∈l,(look p.1 m).isSome=true)/\∀ q∈m,cw (look q.1 l) q.2=true:=by
 unfold wi
 simp only [Bool.and_eq_true,List.all_eq_true,Bool.not_eq_true',decide_eq_false_iff_not]
 constructor
 ·rintro ⟨⟨_,a⟩,b⟩;exact ⟨a,b⟩
 ·rintro ⟨a,b⟩
  have:=zk4 n a
  exact ⟨⟨by omega,a⟩,b⟩
noncomputable def okx (x y:Option Ct):Bool:=!(ft 0 x&&!ft 0 y)&&!(ft 1 x&&!ft 1 y)&&!(ft 2 x&&!ft 2 y)&&!(ft 3 x&&!ft 3 y)
theorem zjy (l m:KV) (c:Cf):okc l m c=okx (look c l) (look c m):=rfl
theorem zha (x:Option Ct) (t:Ct):okx x (some t)=cw x t:=by
 rcases x with _ | x
 ·cases t<;>decide
 ·cases x<;>cases t<;>decide
theorem zku (x:Ct):okx (some x) none=false:=by cases x<;>decide
theorem zov {l m:KV} (n:Nk l) (nm:Nk m):ww l m=true↔(∀ p∈l,(look p.1 m).isSome=true)/\∀ q∈m,cw (look q.1 l) q.2=true:=by
 unfold ww
 rw [List.all_eq_true]
 constructor
 ·intro h
  constructor
  ·intro p hp
   have:=h p.1 (List.mem_append_left _ (List.mem_map.mpr ⟨p,hp,rfl⟩))
   rw [zjy,zbf n (show (p.1,p.2)∈l from hp)] at this
   cases e:look p.1 m with
   | none=>rw [e,zku] at this;cases this
   | some t=>rfl
  ·intro q hq
   have:=h q.1 (List.mem_append_right _ (List.mem_map.mpr ⟨q,hq,rfl⟩))
   rw [zjy,zbf nm (show (q.1,q.2)∈m from hq),zha] at this
   exact this
 ·rintro ⟨a,b⟩ c hc
  have:∃ t,look c m=some t:=by
   rcases List.mem_append.mp hc with hc | hc
   ·obtain ⟨p,hp,rfl⟩:=List.mem_map.mp hc
    exact Option.isSome_iff_exists.mp (a p hp)
   ·obtain ⟨q,hq,rfl⟩:=List.mem_map.mp hc
    exact ⟨q.2,zbf nm (show (q.1,q.2)∈m from hq)⟩
  obtain ⟨t,e⟩:=this
  rw [zjy,e,zha]
  exact b (c,t) (zbb e)
theorem zn7 {l m:KV} (n:Nk l) (nm:Nk m):ww l m=wi l m:=by
 rw [Bool.eq_iff_iff,zov n nm,zf8 n]
theorem zkS (cs:List Cf) (c:Cf):look c (tog cs)=if cnt cs c=0 then none else some (gc' cs c):=by
 by_cases h:c∈cs
 ·have:=ziY h
  rw [if_neg (by omega)]
  refine zbf (zgJ cs) ?_
  rw [zdw _ cs rfl]
  exact List.mem_map.mpr ⟨c,zaC.mpr h,rfl⟩
 ·rw [if_pos (zhn h),zcD,zdw _ cs rfl,List.map_map]
  intro q
  obtain ⟨d,hd,e⟩:=List.mem_map.mp q
  have e:d=c:=e
  subst e
  exact h (zaC.mp hd)
theorem zp2 (cs:List Cf) (c:Cf) (t:Ct):lq (cnt cs c) t=cw (look c (tog cs)) t:=by
 rw [zkS]
 unfold gc'
 match cnt cs c with
 | 0=>cases t<;>decide
 | 1=>cases t<;>decide
 | k+2=>
  rw [if_neg (by omega),if_neg (by omega)]
  cases t<;>simp [lq,cw]<;>decide
theorem zpd {cs:List Cf} {m:KV}:wl cs m=wi (srt (tog cs)) m:=by
 rw [Bool.eq_iff_iff,zf8 (zfw cs)]
 unfold wl
 simp only [Bool.and_eq_true,List.all_eq_true,zkM (zgJ cs),zp2]
 constructor
 ·rintro ⟨a,b⟩
  refine ⟨λp hp=>a p.1 ?_,b⟩
  have hp:=(zbU _).mem_iff.mp hp
  rw [zdw _ cs rfl] at hp
  obtain ⟨c,hc,rfl⟩:=List.mem_map.mp hp
  exact zaC.mp hc
 ·rintro ⟨a,b⟩
  refine ⟨λc hc=>a (c,gc' cs c) ((zbU _).mem_iff.mpr ?_),b⟩
  rw [zdw _ cs rfl]
  exact List.mem_map.mpr ⟨c,zaC.mpr hc,rfl⟩
theorem zn9 (cs:List Cf) (m:KV):wl cs.reverse m=wl cs m:=by
 unfold wl cnt
 rw [List.all_reverse]
 simp only [List.countP_reverse]
theorem zid {l:KV} (n:Nk l):wi l l=true:=by
 rw [zf8 n]
 constructor
 ·intro p hp;rw [zbf n (show (p.1,p.2)∈l from hp)];rfl
 ·intro p hp;rw [zbf n (show (p.1,p.2)∈l from hp)];cases p.2<;>rfl
theorem cw_tra {x:Option Ct} {t u:Ct} (h1:cw x t=true) (h2:cw (some t) u=true):cw x u=true:=by
 rcases x with _ | x
 ·cases t<;>cases u<;>revert h1 h2<;>decide
 ·cases x<;>cases t<;>cases u<;>revert h1 h2<;>decide
theorem zoS {a b c:KV} (na:Nk a) (nb:Nk b) (h1:wi a b=true) (h2:wi b c=true):wi a c=true:=by
 rw [zf8 na] at h1 ⊢
 rw [zf8 nb] at h2
 constructor
 ·intro p hp
  obtain ⟨t,e⟩:=Option.isSome_iff_exists.mp (h1.1 p hp)
  exact h2.1 (p.1,t) (zbb e)
 ·intro q hq
  have z:=h2.2 q hq
  cases e:look q.1 b with
  | some t=>
   rw [e] at z
   exact cw_tra (h1.2 (q.1,t) (zbb e)) z
  | none=>
   rw [e] at z
   cases e2:look q.1 a with
   | none=>exact z
   | some t=>
    have:=h1.1 (q.1,t) (zbb e2)
    rw [e] at this
    cases this
theorem zoa {a b c d e f:List Nat} (h1:hd a b c d=true) (h2:hd c d e f=true):hd a b e f=true:=by
 simp only [hd,Bool.and_eq_true,beq_iff_eq] at h1 h2 ⊢
 exact ⟨h1.1.trans h2.1,h1.2.trans h2.2⟩
theorem zh9 (a b:List Nat):hd a b a b=true:=by simp [hd]
theorem zmJ {s m:List Nat} {l:KV}:(shp s m l).dep<=60:=by
 have:D.deps (l.map prD)<=4:=by
  refine zgq λx hx=>?_
  obtain ⟨p,_,rfl⟩:=List.mem_map.mp hx
  have:=zh7 p.1
  simp only [prD,D.dep,D.deps]
  omega
 simp only [shp,lnsD,D.dep,D.deps]
 omega
theorem zlD {s m:List Nat} {l:KV}:cop .ne (shp s m l) (shp s m l)=some (.bl false):=by
 rw [zi1 (zjG zmJ),D.eqb_rfl];rfl
theorem tog3 {ls:List Ln} {x y z:Ln} (h:∀ l∈ls,l∈[x,y,z]):(tog (cfs 3 ls)).length<=4:=by
 rw [zgO]
 have:=zgn (xs:=za1 (cfs 3 ls)) (ys:=[cf 3 x,cf 3 y,cf 3 z]) (zaO _) λc hc=>by
  obtain ⟨l,hl,rfl⟩:=List.mem_map.mp (zaC.mp hc)
  exact List.mem_map.mpr ⟨l,h l hl,rfl⟩
 simp at this
 omega
noncomputable abbrev h1:List Nat:=[104]
noncomputable def shs (p:List Nat×List Nat×KV):D:=shp p.1 p.2.1 p.2.2
theorem law_call {h:Sto} {ns:List Int}:Ok (zan P 8 19 [.d (.lst (ns.map .int))] h) λr h1=>r=.d (.bl true)/\h1=h:=by
 refine cl (F:=⟨1,14,zmE,false,[],false⟩) rfl rfl rfl ?_
 (conv=>whnf)
 refine ask (zi3 5 λps=>?_)
 (conv=>whnf)
 refine ⟨⟨by decide,by decide⟩,ask (zgI (λi ys h'=>∃ (ls:List Ln) (qs:List Int),ls.length=i/\ys=ls.map lnD/\h'=h++[pl qs]) ?_ ?_ ⟨[],ps,rfl,rfl,rfl⟩)⟩
 ·rintro i x ys h' hx ⟨ls,qs,hl,rfl,rfl⟩
  refine gc ?_
  (conv=>whnf)
  refine ask (zaR 6 (by decide) λt qs _ _=>?_)
  (conv=>whnf)
  refine ask (zaR 6 (by decide) λf qs _ _=>?_)
  (conv=>whnf)
  refine ask (zh5 6 λl=>?_)
  (conv=>whnf)
  exact ⟨rfl,ls++[l],qs,by simp [hl],by rw [List.map_append];rfl,rfl⟩
 rintro ys h' ⟨ls,ps,hl,rfl,rfl⟩
 rw [zb1] at hl
 obtain ⟨l0,l1,l2,l3,rfl⟩:∃ l0 l1 l2 l3,ls=[l0,l1,l2,l3]:=by
  match ls,hl with
  | [a,b,c,d],_=>exact ⟨a,b,c,d,rfl⟩
 (conv=>whnf)
 refine ask (zaR 6 (by decide) λt ps t0 t1=>?_)
 (conv=>whnf)
 refine ⟨⟨by omega,by omega⟩,ask (zgI (λi ys h'=>∃ (ks:List Ln) (qs:List Int),ks.length=i/\(∀ l∈ks,l∈[l0,l1,l2])/\ys=ks.map lnD/\h'=h++[pl qs]) ?_ ?_ ⟨[],ps,rfl,by simp,rfl,rfl⟩)⟩
 ·rintro i x ys h' hx ⟨ks,qs,hk,hm,rfl,rfl⟩
  refine gc ?_
  (conv=>whnf)
  refine ask (zaR 6 (by decide) λt qs t0 t1=>?_)
  have ei:∃ d,idxD (.lst [lnD l0,lnD l1,lnD l2,lnD l3]) (.int t)=some d/\∃ l∈[l0,l1,l2],d=lnD l:=by
   have:t=0\/t=1\/t=2:=by omega
   rcases this with rfl | rfl | rfl
   ·exact ⟨_,rfl,l0,by simp,rfl⟩
   ·exact ⟨_,rfl,l1,by simp,rfl⟩
   ·exact ⟨_,rfl,l2,by simp,rfl⟩
  obtain ⟨_,ei,l,hl,rfl⟩:=ei
  (conv=>whnf)
  refine st ei ?_
  (conv=>whnf)
  refine ⟨rfl,ks++[l],qs,by simp [hk],?_,by rw [List.map_append];rfl,rfl⟩
  intro l' hl'
  rcases List.mem_append.mp hl' with q | q
  ·exact hm l' q
  ·simp at q;subst q;exact hl
 rintro ys h' ⟨ks,ps,hk,hm,rfl,rfl⟩
 rw [zb1] at hk
 have k10:ks.length<=10:=by omega
 have r10:ks.reverse.length<=10:=by rw [List.length_reverse];exact k10
 have t4:=tog3 hm
 have r4:(tog (cfs 3 ks.reverse)).length<=4:=tog3 (ls:=ks.reverse) λl hl=>hm l (List.mem_reverse.mp hl)
 have erev:cfs 3 ks.reverse=(cfs 3 ks).reverse:=by rw [cfs,cfs,List.map_reverse]
 (conv=>whnf)
 rw [<-List.map_reverse]
 (conv=>whnf)
 refine ask (zdC 1 (ls:=[l0,l1,l2,l3]) (Nat.le_refl 4) λs1 m1 la ps na lla=>?_)
 (conv=>whnf)
 refine ask (zdC 1 (ls:=[l0,l1,l2,l3]) (Nat.le_refl 4) λs2 m2 lb ps nb llb=>?_)
 (conv=>whnf)
 have mk1:zbM 3 (some (3,2))=zd2:=rfl
 have mk2:zbM 3 (some (3,9))=zd2:=rfl
 have eq1:∀ (s m:List Nat) (l:KV),(hd [104] zd2 s m&&wi (srt (tog (cfs 3 ks))) l)=(hd [104] zd2 s m&&wl (cfs 3 ks) l):=λs m l=>by rw [zpd]
 have eq2:∀ (s m:List Nat) (l:KV),(hd [104] zd2 s m&&wi (srt (tog (cfs 3 ks.reverse))) l)=(hd [104] zd2 s m&&wl (cfs 3 ks) l):=λs m l=>by rw [<-zpd,erev,zn9]
 have e2:[shp s1 m1 la,shp s2 m2 lb].map dI=[(s1,m1,la),(s2,m2,lb)].map λp=>dI (shs p):=rfl
 rw [e2]
 refine ask (zb2 (g:=λp=>dI (shs p)) (xs:=[(s1,m1,la),(s2,m2,lb)]) (λi σ h'=>h'=h++[pl ps]/\∃ v8 v9,σ=[some (R.d (.lst (ns.map .int))),some (R.loc h.length),some (R.d (.tup [.int 3,.int 2])),some (R.d (.lst ([l0,l1,l2,l3].map lnD))),some (R.d (.lst (ks.map lnD))),some (R.d (stD [104] 3 2 3 2 ks)),some (R.d (stD [104] 3 9 3 5 ks.reverse)),some (R.d (.lst [shp s1 m1 la,shp s2 m2 lb])),v8,v9,none,none,none,none]) ?_ ?_ ⟨rfl,none,none,rfl⟩)
 ·rintro i p σ h' hx ⟨rfl,v8,v9,rfl⟩
  obtain ⟨s,m,l⟩:=p
  have nl:Nk l/\l.length<=100:=by
   match i,hx with
   | 0,hx=>simp at hx;obtain ⟨rfl,rfl,rfl⟩:=hx;exact ⟨na,by omega⟩
   | 1,hx=>simp at hx;obtain ⟨rfl,rfl,rfl⟩:=hx;exact ⟨nb,by omega⟩
   | i+2,hx=>simp at hx
  obtain ⟨nl,ll⟩:=nl
  refine gb ?_
  (conv=>whnf)
  refine ask (zhS 1 nl ll ?_)
  rw [mk1]
  (conv=>whnf)
  refine ask (zbQ 0 k10 t4 nl ll ?_)
  rw [mk1,eq1]
  (conv=>whnf)
  refine ask (zb4 6 ?_)
  rw [beq_self_eq_true]
  (conv=>whnf)
  refine ask (zbQ 0 r10 r4 nl ll ?_)
  rw [mk2,eq2]
  (conv=>whnf)
  refine bf (by rw [D.eqb_rfl];rfl) ?_
  (conv=>whnf)
  refine ask (zcE 6 nl nl ll ll ?_)
  rw [zh9,zid nl]
  (conv=>whnf)
  refine ask (zb4 6 ?_)
  (conv=>whnf)
  exact ⟨rfl,rfl,_,_,rfl⟩
 rintro σ h' ⟨rfl,v8,v9,rfl⟩
 (conv=>whnf)
 refine ask (zb5 1 k10 t4 ?_)
 (conv=>whnf)
 refine ask (zgW 1 k10 t4 ?_)
 (conv=>whnf)
 refine st zlD ?_
 (conv=>whnf)
 refine ask (zb5 1 r10 r4 ?_)
 (conv=>whnf)
 refine ask (zgW 1 r10 r4 ?_)
 (conv=>whnf)
 refine st zlD ?_
 (conv=>whnf)
 refine ask (zb5 1 k10 t4 ?_)
 (conv=>whnf)
 refine ask (zbQ 0 k10 t4 (zfw _) (by rw [zgC];omega) ?_)
 rw [zh9,zid (zfw _)]
 (conv=>whnf)
 refine ask (zcE 6 na nb (by omega) (by omega) ?_)
 (conv=>whnf)
 refine ask (zc7 5 na nb (by omega) (by omega) ?_)
 rw [zn7 na nb]
 (conv=>whnf)
 refine ask (zb4 6 ?_)
 rw [beq_self_eq_true]
 (conv=>whnf)
 refine ask (zcE 6 nb na (by omega) (by omega) ?_)
 (conv=>whnf)
 refine ask (zc7 5 nb na (by omega) (by omega) ?_)
 rw [zn7 nb na]
 (conv=>whnf)
 refine ask (zb4 6 ?_)
 rw [beq_self_eq_true]
 (conv=>whnf)
 refine ask (zcE 6 na nb (by omega) (by omega) ?_)
 (conv=>whnf)
 refine br (λc1=>?_) (λc1=>?_)
 ·(conv=>whnf)
  refine ask (zbQ 0 k10 t4 na (by omega) ?_)
  (conv=>whnf)
  refine br (λc2=>?_) (λc2=>?_)
  ·(conv=>whnf)
   exact fa ⟨rfl,rfl⟩
  ·(conv=>whnf)
   refine ask (zbQ 0 k10 t4 nb (by omega) ?_)
   rw [Bool.not_eq_eq_eq_not,Bool.not_false] at c2
   rw [Bool.and_eq_true] at c1 c2
   rw [zoa c2.1 c1.1,zoS (zfw _) na c2.2 c1.2]
   (conv=>whnf)
   exact fa ⟨rfl,rfl⟩
 ·(conv=>whnf)
  exact fa ⟨rfl,rfl⟩
theorem zlj {ns:List Int} (hl:ns.length<=63):zan P 8 19 [.d (.lst (ns.map .int))] []=some (.d (.bl true),[]):=law_call.eq
end K42
set_option linter.all false
set_option maxRecDepth 100000
set_option maxHeartbeats 8000000
namespace K42
open PySem PySem.Spec L2 IT
noncomputable abbrev sA (n:Nat):Stmt:=PySem.Challenge.pw_copyclerk_k42_lying_and_within.main.body.getD n (.Pass ⟨0,0,0,0⟩)
noncomputable abbrev fO (x q:Str) (st:Stmt) (dV kV dc pm:Value) (an:Option Addr) (cd ct:Value):FuncData:=PySem.W.fnOf x q (zcR st) (zag st) (zac st) dV kV dc pm an cd ct
noncomputable def fns:List (Str×Nat×List D):=[("has_version_of",2,[]),("mark_of",2,[]),("letter_mark",2,[]),("config_of",2,[]),("marked_way",2,[]),("shape_of",1,[]),("together",1,[]),("lies_in",2,[]),("is_within",2,[]),("_law_mixed",2,[]),("_law_pool",2,[]),("_law_take",2,[]),("_law_line",2,[]),("_law_shape",3,[]),("_law_lies",2,[]),("_law_fits",2,[]),("_law_within",2,[]),("_law_own",1,[]),("_law_truth",2,[]),("law",1,[])]
noncomputable def cls:List zjS:=[]
noncomputable def globs:List (Str×D):=[]
noncomputable def gds:List (Str×List (List Nat×D)):=[("COUNTS_WITHIN",[([111,110,101],(.tup [(.str [111,110,101])])),([115,111,109,101],(.tup [(.str [111,110,101]),(.str [115,111,109,101])])),([97,110,121],(.tup [(.str [111,110,101]),(.str [115,111,109,101]),(.str [97,110,121]),.non]))])]
noncomputable def zaf:Stmt:=sA 1
noncomputable def zaX:List Str:=["value", "last"]
noncomputable def zaD:List Str:=["value", "last"]
theorem zdb:chkSs zaZ ⟨zaX,(zac zaf).names,fns,globs,true,cls,gds⟩ (zag zaf)=true:=by decide +kernel
theorem zda:zam zaX zaD (zac zaf):=⟨rfl,rfl,rfl,by decide +kernel,rfl,by decide +kernel,by decide +kernel⟩
noncomputable def zaS:Stmt:=sA 4
noncomputable def zdx:List Str:=["value", "last"]
noncomputable def zcw:List Str:=["value", "last"]
theorem zh8:chkSs zdI ⟨zdx,(zac zaS).names,fns,globs,true,cls,gds⟩ (zag zaS)=true:=by decide +kernel
theorem zjx:zam zdx zcw (zac zaS):=⟨rfl,rfl,rfl,by decide +kernel,rfl,by decide +kernel,by decide +kernel⟩
noncomputable def zar:Stmt:=sA 5
noncomputable def zbx:List Str:=["value", "last"]
noncomputable def za2:List Str:=["value", "last"]
theorem zey:chkSs zbv ⟨zbx,(zac zar).names,fns,globs,true,cls,gds⟩ (zag zar)=true:=by decide +kernel
theorem zeM:zam zbx za2 (zac zar):=⟨rfl,rfl,rfl,by decide +kernel,rfl,by decide +kernel,by decide +kernel⟩
noncomputable def zaz:Stmt:=sA 6
noncomputable def zb8:List Str:=["line", "last"]
noncomputable def zbA:List Str:=["line", "last"]
theorem zgh:chkSs zce ⟨zb8,(zac zaz).names,fns,globs,true,cls,gds⟩ (zag zaz)=true:=by decide +kernel
theorem zgD:zam zb8 zbA (zac zaz):=⟨rfl,rfl,rfl,by decide +kernel,rfl,by decide +kernel,by decide +kernel⟩
noncomputable def zav:Stmt:=sA 7
noncomputable def zbT:List Str:=["way", "last", "?1?kind", "?1?value"]
noncomputable def zba:List Str:=["way", "last"]
theorem zft:chkSs zbF ⟨zbT,(zac zav).names,fns,globs,true,cls,gds⟩ (zag zav)=true:=by decide +kernel
theorem zfN:zam zbT zba (zac zav):=⟨rfl,rfl,rfl,by decide +kernel,rfl,by decide +kernel,by decide +kernel⟩
noncomputable def zaG:Stmt:=sA 8
noncomputable def zc2:List Str:=["standing", "last", "pairs", "?1?line"]
noncomputable def zbW:List Str:=["standing"]
theorem zh2:chkSs zcL ⟨zc2,(zac zaG).names,fns,globs,true,cls,gds⟩ (zag zaG)=true:=by decide +kernel
theorem zh0:zam zc2 zbW (zac zaG):=⟨rfl,rfl,rfl,by decide +kernel,rfl,by decide +kernel,by decide +kernel⟩
noncomputable def zaF:Stmt:=sA 9
noncomputable def zcT:List Str:=["pairs", "counts", "config", "count"]
noncomputable def zb6:List Str:=["pairs"]
theorem zhB:chkSs zcW ⟨zcT,(zac zaF).names,fns,globs,true,cls,gds⟩ (zag zaF)=true:=by decide +kernel
theorem zhK:zam zcT zb6 (zac zaF):=⟨rfl,rfl,rfl,by decide +kernel,rfl,by decide +kernel,by decide +kernel⟩
noncomputable def zaQ:Stmt:=sA 10
noncomputable def zdW:List Str:=["standing", "shape"]
noncomputable def zck:List Str:=["standing", "shape"]
theorem zju:chkSs zdy ⟨zdW,(zac zaQ).names,fns,globs,true,cls,gds⟩ (zag zaQ)=true:=by decide +kernel
theorem ziN:zam zdW zck (zac zaQ):=⟨rfl,rfl,rfl,by decide +kernel,rfl,by decide +kernel,by decide +kernel⟩
noncomputable def zaA:Stmt:=sA 11
noncomputable def zcg:List Str:=["shape", "other", "here", "there", "?1?config", "?2?config", "?2?count"]
noncomputable def zbC:List Str:=["shape", "other"]
theorem zgk:chkSs zb9 ⟨zcg,(zac zaA).names,fns,globs,true,cls,gds⟩ (zag zaA)=true:=by decide +kernel
theorem zgi:zam zcg zbC (zac zaA):=⟨rfl,rfl,rfl,by decide +kernel,rfl,by decide +kernel,by decide +kernel⟩
noncomputable def zaU:Stmt:=sA 13
noncomputable def zdG:List Str:=["_law_cell", "_law_k", "_law_number"]
noncomputable def zcC:List Str:=["_law_cell", "_law_k"]
theorem zjq:chkSs zdM ⟨zdG,(zac zaU).names,fns,globs,true,cls,gds⟩ (zag zaU)=true:=by decide +kernel
theorem zjA:zam zdG zcC (zac zaU):=⟨rfl,rfl,rfl,by decide +kernel,rfl,by decide +kernel,by decide +kernel⟩
noncomputable def zbd:Stmt:=sA 14
noncomputable def zfd:List Str:=["_law_script", "_law_k", "_law_cell", "_law_found", "_law_number", "_law_turn"]
noncomputable def zdo:List Str:=["_law_script", "_law_k"]
theorem zkX:chkSs zeJ ⟨zfd,(zac zbd).names,fns,globs,true,cls,gds⟩ (zag zbd)=true:=by decide +kernel
theorem zkC:zam zfd zdo (zac zbd):=⟨rfl,rfl,rfl,by decide +kernel,rfl,by decide +kernel,by decide +kernel⟩
noncomputable def zbc:Stmt:=sA 15
noncomputable def zeZ:List Str:=["_law_pool_here", "_law_size"]
noncomputable def zdn:List Str:=["_law_pool_here", "_law_size"]
theorem zkP:chkSs zeH ⟨zeZ,(zac zbc).names,fns,globs,true,cls,gds⟩ (zag zbc)=true:=by decide +kernel
theorem zkb:zam zeZ zdn (zac zbc):=⟨rfl,rfl,rfl,by decide +kernel,rfl,by decide +kernel,by decide +kernel⟩
noncomputable def za7:Stmt:=sA 16
noncomputable def ze3:List Str:=["_law_turn", "_law_flags", "_law_value", "_law_way"]
noncomputable def zdi:List Str:=["_law_turn", "_law_flags"]
theorem zk1:chkSs zeG ⟨ze3,(zac za7).names,fns,globs,true,cls,gds⟩ (zag za7)=true:=by decide +kernel
theorem zk2:zam ze3 zdi (zac za7):=⟨rfl,rfl,rfl,by decide +kernel,rfl,by decide +kernel,by decide +kernel⟩
noncomputable def zaW:Stmt:=sA 17
noncomputable def zdD:List Str:=["_law_pool_here", "_law_sorts", "_law_last", "_law_lines", "_law_line_here", "_law_house"]
noncomputable def zcB:List Str:=["_law_pool_here", "_law_sorts", "_law_last"]
theorem zjl:chkSs zdT ⟨zdD,(zac zaW).names,fns,globs,true,cls,gds⟩ (zag zaW)=true:=by decide +kernel
theorem zji:zam zdD zcB (zac zaW):=⟨rfl,rfl,rfl,by decide +kernel,rfl,by decide +kernel,by decide +kernel⟩
noncomputable def za9:Stmt:=sA 18
noncomputable def zev:List Str:=["_law_standing", "_law_shape_here", "_law_configs", "_law_counts", "_law_config", "_law_count", "_law_many", "?1?_law_line_here", "?2?_law_config"]
noncomputable def zdf:List Str:=["_law_standing", "_law_shape_here"]
theorem zkl:chkSs zde ⟨zev,(zac za9).names,fns,globs,true,cls,gds⟩ (zag za9)=true:=by decide +kernel
theorem zlf:zam zev zdf (zac za9):=⟨rfl,rfl,rfl,by decide +kernel,rfl,by decide +kernel,by decide +kernel⟩
noncomputable def za8:Stmt:=sA 19
noncomputable def zfe:List Str:=["_law_many", "_law_count"]
noncomputable def zdj:List Str:=["_law_many", "_law_count"]
theorem zkF:chkSs zeF ⟨zfe,(zac za8).names,fns,globs,true,cls,gds⟩ (zag za8)=true:=by decide +kernel
theorem zlo:zam zfe zdj (zac za8):=⟨rfl,rfl,rfl,by decide +kernel,rfl,by decide +kernel,by decide +kernel⟩
noncomputable def zaH:Stmt:=sA 20
noncomputable def zcJ:List Str:=["_law_one", "_law_other", "_law_counts", "_law_others", "_law_config", "_law_many"]
noncomputable def zbX:List Str:=["_law_one", "_law_other"]
theorem zhG:chkSs zc3 ⟨zcJ,(zac zaH).names,fns,globs,true,cls,gds⟩ (zag zaH)=true:=by decide +kernel
theorem zhJ:zam zcJ zbX (zac zaH):=⟨rfl,rfl,rfl,by decide +kernel,rfl,by decide +kernel,by decide +kernel⟩
noncomputable def zbG:Stmt:=sA 21
noncomputable def zgG:List Str:=["_law_standing", "_law_configs", "_law_lines", "?1?_law_line_here", "?2?_law_config"]
noncomputable def zeS:List Str:=["_law_standing"]
theorem zl4:chkSs zgl ⟨zgG,(zac zbG).names,fns,globs,true,cls,gds⟩ (zag zbG)=true:=by decide +kernel
theorem zmD:zam zgG zeS (zac zbG):=⟨rfl,rfl,rfl,by decide +kernel,rfl,by decide +kernel,by decide +kernel⟩
noncomputable def zaP:Stmt:=sA 22
noncomputable def zdX:List Str:=["_law_found", "_law_due"]
noncomputable def zcn:List Str:=["_law_found", "_law_due"]
theorem zih:chkSs zdE ⟨zdX,(zac zaP).names,fns,globs,true,cls,gds⟩ (zag zaP)=true:=by decide +kernel
theorem zjf:zam zdX zcn (zac zaP):=⟨rfl,rfl,rfl,by decide +kernel,rfl,by decide +kernel,by decide +kernel⟩
noncomputable def zeK:Stmt:=sA 23
noncomputable def zmQ:List Str:=["_law_script", "_law_pool_here", "_law_last", "_law_sorts", "_law_lines", "_law_standing", "_law_other", "_law_shapes", "_law_shape_here", "_law_due", "_law_one", "_law_two", "?1?_law_k", "?2?_law_k"]
noncomputable def zlh:List Str:=["_law_script"]
theorem zpW:chkSs zmE ⟨zmQ,(zac zeK).names,fns,globs,true,cls,gds⟩ (zag zeK)=true:=by decide +kernel
theorem zpV:zam zmQ zlh (zac zeK):=⟨rfl,rfl,rfl,by decide +kernel,rfl,by decide +kernel,by decide +kernel⟩
theorem all_mk {l:PySem.W.OpenLaw} {w:World} {K:PySem.W.Frag} {h:Heap} {mg:Str->Option Value} {fa f1 f2 f3 f4 f5 f6 f7 f8 f9 f10 f11 f12 f13 f14 f15 f16 f17 f18 f19 f20 ga0 ga1 ga2 da0:Addr} (X:K.In h) (G:h.Ns mainGlobals mg) (hfa:mg "law"=some (.ref fa))
  {od1 an1 od2 an2 od3 an3 od4 an4 od5 an5 od6 an6 od7 an7 od8 an8 od9 an9 od10 an10 od11 an11 od12 an12 od13 an13 od14 an14 od15 an15 od16 an16 od17 an17 od18 an18 od19 an19 od20 an20:Option Addr} {sl1 sl2 sl3 sl4 sl5 sl6 sl7 sl8 sl9 sl10 sl11 sl12 sl13 sl14 sl15 sl16 sl17 sl18 sl19 sl20 gs1 gs2 gs3:Array (Option Value)} {oc1 kV1 dc1 pm1 cd1 ct1 oc2 kV2 dc2 pm2 cd2 ct2 oc3 kV3 dc3 pm3 cd3 ct3 oc4 kV4 dc4 pm4 cd4 ct4 oc5 kV5 dc5 pm5 cd5 ct5 oc6 kV6 dc6 pm6 cd6 ct6 oc7 kV7 dc7 pm7 cd7 ct7 oc8 kV8 dc8 pm8 cd8 ct8 oc9 kV9 dc9 pm9 cd9 ct9 oc10 kV10 dc10 pm10 cd10 ct10 oc11 kV11 dc11 pm11 cd11 ct11 oc12 kV12 dc12 pm12 cd12 ct12 oc13 kV13 dc13 pm13 cd13 ct13 oc14 kV14 dc14 pm14 cd14 ct14 oc15 kV15 dc15 pm15 cd15 ct15 oc16 kV16 dc16 pm16 cd16 ct16 oc17 kV17 dc17 pm17 cd17 ct17 oc18 kV18 dc18 pm18 cd18 ct18 oc19 kV19 dc19 pm19 cd19 ct19 oc20 kV20 dc20 pm20 cd20 ct20:Value}
  {tk0 tk1 tk2 tk3 tk4 tk5 tk6 tk7 tk8:Tok}
  {hh0_0 hh0_1 hh0_2:Int}
  {dn0 gn1 gn2 gn3:Nat}
  (a1:PySem.W.nsIn K mainGlobals "has_version_of"=some (some (.ref f1)))
  (l1:K.lookup f1=some ⟨oc1,od1,.func (fO "has_version_of" "has_version_of" zaf .none kV1 dc1 pm1 an1 cd1 ct1),sl1⟩) (c1:PySem.W.codeIn K cd1 "has_version_of"=true) (k1:PySem.W.keepIn K (.ref f1)=true)
  (a2:PySem.W.nsIn K mainGlobals "mark_of"=some (some (.ref f2)))
  (l2:K.lookup f2=some ⟨oc2,od2,.func (fO "mark_of" "mark_of" zaS .none kV2 dc2 pm2 an2 cd2 ct2),sl2⟩) (c2:PySem.W.codeIn K cd2 "mark_of"=true) (k2:PySem.W.keepIn K (.ref f2)=true)
  (a3:PySem.W.nsIn K mainGlobals "letter_mark"=some (some (.ref f3)))
  (l3:K.lookup f3=some ⟨oc3,od3,.func (fO "letter_mark" "letter_mark" zar .none kV3 dc3 pm3 an3 cd3 ct3),sl3⟩) (c3:PySem.W.codeIn K cd3 "letter_mark"=true) (k3:PySem.W.keepIn K (.ref f3)=true)
  (a4:PySem.W.nsIn K mainGlobals "config_of"=some (some (.ref f4)))
  (l4:K.lookup f4=some ⟨oc4,od4,.func (fO "config_of" "config_of" zaz .none kV4 dc4 pm4 an4 cd4 ct4),sl4⟩) (c4:PySem.W.codeIn K cd4 "config_of"=true) (k4:PySem.W.keepIn K (.ref f4)=true)
  (a5:PySem.W.nsIn K mainGlobals "marked_way"=some (some (.ref f5)))
  (l5:K.lookup f5=some ⟨oc5,od5,.func (fO "marked_way" "marked_way" zav .none kV5 dc5 pm5 an5 cd5 ct5),sl5⟩) (c5:PySem.W.codeIn K cd5 "marked_way"=true) (k5:PySem.W.keepIn K (.ref f5)=true)
  (a6:PySem.W.nsIn K mainGlobals "shape_of"=some (some (.ref f6)))
  (l6:K.lookup f6=some ⟨oc6,od6,.func (fO "shape_of" "shape_of" zaG .none kV6 dc6 pm6 an6 cd6 ct6),sl6⟩) (c6:PySem.W.codeIn K cd6 "shape_of"=true) (k6:PySem.W.keepIn K (.ref f6)=true)
  (a7:PySem.W.nsIn K mainGlobals "together"=some (some (.ref f7)))
  (l7:K.lookup f7=some ⟨oc7,od7,.func (fO "together" "together" zaF .none kV7 dc7 pm7 an7 cd7 ct7),sl7⟩) (c7:PySem.W.codeIn K cd7 "together"=true) (k7:PySem.W.keepIn K (.ref f7)=true)
  (a8:PySem.W.nsIn K mainGlobals "lies_in"=some (some (.ref f8)))
  (l8:K.lookup f8=some ⟨oc8,od8,.func (fO "lies_in" "lies_in" zaQ .none kV8 dc8 pm8 an8 cd8 ct8),sl8⟩) (c8:PySem.W.codeIn K cd8 "lies_in"=true) (k8:PySem.W.keepIn K (.ref f8)=true)
  (a9:PySem.W.nsIn K mainGlobals "is_within"=some (some (.ref f9)))
  (l9:K.lookup f9=some ⟨oc9,od9,.func (fO "is_within" "is_within" zaA .none kV9 dc9 pm9 an9 cd9 ct9),sl9⟩) (c9:PySem.W.codeIn K cd9 "is_within"=true) (k9:PySem.W.keepIn K (.ref f9)=true)
  (a10:PySem.W.nsIn K mainGlobals "_law_mixed"=some (some (.ref f10)))
  (l10:K.lookup f10=some ⟨oc10,od10,.func (fO "_law_mixed" "_law_mixed" zaU .none kV10 dc10 pm10 an10 cd10 ct10),sl10⟩) (c10:PySem.W.codeIn K cd10 "_law_mixed"=true) (k10:PySem.W.keepIn K (.ref f10)=true)
  (a11:PySem.W.nsIn K mainGlobals "_law_pool"=some (some (.ref f11)))
  (l11:K.lookup f11=some ⟨oc11,od11,.func (fO "_law_pool" "_law_pool" zbd .none kV11 dc11 pm11 an11 cd11 ct11),sl11⟩) (c11:PySem.W.codeIn K cd11 "_law_pool"=true) (k11:PySem.W.keepIn K (.ref f11)=true)
  (a12:PySem.W.nsIn K mainGlobals "_law_take"=some (some (.ref f12)))
  (l12:K.lookup f12=some ⟨oc12,od12,.func (fO "_law_take" "_law_take" zbc .none kV12 dc12 pm12 an12 cd12 ct12),sl12⟩) (c12:PySem.W.codeIn K cd12 "_law_take"=true) (k12:PySem.W.keepIn K (.ref f12)=true)
  (a13:PySem.W.nsIn K mainGlobals "_law_line"=some (some (.ref f13)))
  (l13:K.lookup f13=some ⟨oc13,od13,.func (fO "_law_line" "_law_line" za7 .none kV13 dc13 pm13 an13 cd13 ct13),sl13⟩) (c13:PySem.W.codeIn K cd13 "_law_line"=true) (k13:PySem.W.keepIn K (.ref f13)=true)
  (a14:PySem.W.nsIn K mainGlobals "_law_shape"=some (some (.ref f14)))
  (l14:K.lookup f14=some ⟨oc14,od14,.func (fO "_law_shape" "_law_shape" zaW .none kV14 dc14 pm14 an14 cd14 ct14),sl14⟩) (c14:PySem.W.codeIn K cd14 "_law_shape"=true) (k14:PySem.W.keepIn K (.ref f14)=true)
  (a15:PySem.W.nsIn K mainGlobals "_law_lies"=some (some (.ref f15)))
  (l15:K.lookup f15=some ⟨oc15,od15,.func (fO "_law_lies" "_law_lies" za9 .none kV15 dc15 pm15 an15 cd15 ct15),sl15⟩) (c15:PySem.W.codeIn K cd15 "_law_lies"=true) (k15:PySem.W.keepIn K (.ref f15)=true)
  (a16:PySem.W.nsIn K mainGlobals "_law_fits"=some (some (.ref f16)))
  (l16:K.lookup f16=some ⟨oc16,od16,.func (fO "_law_fits" "_law_fits" za8 .none kV16 dc16 pm16 an16 cd16 ct16),sl16⟩) (c16:PySem.W.codeIn K cd16 "_law_fits"=true) (k16:PySem.W.keepIn K (.ref f16)=true)
  (a17:PySem.W.nsIn K mainGlobals "_law_within"=some (some (.ref f17)))
  (l17:K.lookup f17=some ⟨oc17,od17,.func (fO "_law_within" "_law_within" zaH .none kV17 dc17 pm17 an17 cd17 ct17),sl17⟩) (c17:PySem.W.codeIn K cd17 "_law_within"=true) (k17:PySem.W.keepIn K (.ref f17)=true)
  (a18:PySem.W.nsIn K mainGlobals "_law_own"=some (some (.ref f18)))
  (l18:K.lookup f18=some ⟨oc18,od18,.func (fO "_law_own" "_law_own" zbG .none kV18 dc18 pm18 an18 cd18 ct18),sl18⟩) (c18:PySem.W.codeIn K cd18 "_law_own"=true) (k18:PySem.W.keepIn K (.ref f18)=true)
  (a19:PySem.W.nsIn K mainGlobals "_law_truth"=some (some (.ref f19)))
  (l19:K.lookup f19=some ⟨oc19,od19,.func (fO "_law_truth" "_law_truth" zaP .none kV19 dc19 pm19 an19 cd19 ct19),sl19⟩) (c19:PySem.W.codeIn K cd19 "_law_truth"=true) (k19:PySem.W.keepIn K (.ref f19)=true)
  (a20:PySem.W.nsIn K mainGlobals "law"=some (some (.ref f20)))
  (l20:K.lookup f20=some ⟨oc20,od20,.func (fO "law" "law" zeK .none kV20 dc20 pm20 an20 cd20 ct20),sl20⟩) (c20:PySem.W.codeIn K cd20 "law"=true) (k20:PySem.W.keepIn K (.ref f20)=true)
  (xd0:PySem.W.nsIn K mainGlobals "COUNTS_WITHIN"=some (some (.ref da0)))
  (y1:K.lookup ga0=some ⟨.type "tuple",none,.seq #[(.str (PySem.Str.ofString "one") tk0)] gn1,gs1⟩)
  (y2:K.lookup ga1=some ⟨.type "tuple",none,.seq #[(.str (PySem.Str.ofString "one") tk2),(.str (PySem.Str.ofString "some") tk3)] gn2,gs2⟩)
  (y3:K.lookup ga2=some ⟨.type "tuple",none,.seq #[(.str (PySem.Str.ofString "one") tk5),(.str (PySem.Str.ofString "some") tk6),(.str (PySem.Str.ofString "any") tk7),.none] gn3,gs3⟩)
  (yd0:K.lookup da0=some ⟨.type "dict",none,.dict #[⟨hh0_0,.str (PySem.Str.ofString "one") tk1,(.ref ga0)⟩,⟨hh0_1,.str (PySem.Str.ofString "some") tk4,(.ref ga1)⟩,⟨hh0_2,.str (PySem.Str.ofString "any") tk8,(.ref ga2)⟩] dn0,#[]⟩)
  (hd0_0:hh0_0=hashStr w (PySem.Str.ofString "one"))
  (hd0_1:hh0_1=hashStr w (PySem.Str.ofString "some"))
  (hd0_2:hh0_2=hashStr w (PySem.Str.ofString "any"))
  (z1:PySem.W.nsIn K mainGlobals "len"=some none)
  (z2:PySem.W.nsIn K mainGlobals "sum"=some none)
  (z3:PySem.W.nsIn K mainGlobals "tuple"=some none)
  (z4:PySem.W.nsIn K mainGlobals "int"=some none)
  (z5:PySem.W.nsIn K mainGlobals "range"=some none)
  (z6:PySem.W.nsIn K mainGlobals "all"=some none)
  (z7:PySem.W.nsIn K mainGlobals "any"=some none)
  (z8:PySem.W.nsIn K mainGlobals "max"=some none)
  (z9:PySem.W.nsIn K mainGlobals "min"=some none)
  (z10:PySem.W.nsIn K mainGlobals "list"=some none)
  (z11:PySem.W.nsIn K mainGlobals "isinstance"=some none)
  (z12:PySem.W.nsIn K mainGlobals "str"=some none)
  (z13:PySem.W.nsIn K mainGlobals "bool"=some none)
  (z14:PySem.W.nsIn K mainGlobals "dict"=some none)
  (z15:PySem.W.nsIn K mainGlobals "enumerate"=some none)
  (z16:PySem.W.nsIn K mainGlobals "sorted"=some none)
  (z17:PySem.W.nsIn K mainGlobals "set"=some none)
  : ∃ fd:FuncData,(∀ (s:Shared) (v:Value),BindsTo s fd ⟨[v],[]⟩ [("_law_script",v)])/\∀ base:Heap,K.In base->base.Ns mainGlobals mg->FnOk l.prog w K mg base CX0 16 fa fd ["_law_script"] (spF K 1 (zan P 8 19)):=by
 have e:=hfa.symm.trans (PySem.W.mg_of X G a20)
 cases e
 have F1:=zat (st:=zaf) l1 c1 k1
 have b1:∃ dvs,(∀ A H,RepDs K A H [] dvs)/\∀ j,j<=0->∃ ds,zaL K _ zaD ds/\Vals (dvs.drop j) ds:=⟨[],λ_ _=>.nil,λj hj=>by
  obtain rfl:j=0:=by omega
  exact ⟨[],.all (fd:=fO "has_version_of" "has_version_of" zaf .none kV1 dc1 pm1 an1 cd1 ct1) (us2 λ_ _=>rfl),.nil⟩⟩
 have d1:za6 K fns cls P globs gds 0 "has_version_of" "has_version_of" zaf f1 _ zaX zaD _:=⟨rfl,F1,zda,rfl,rfl,b1,zdb⟩
 have F2:=zat (st:=zaS) l2 c2 k2
 have b2:∃ dvs,(∀ A H,RepDs K A H [] dvs)/\∀ j,j<=0->∃ ds,zaL K _ zcw ds/\Vals (dvs.drop j) ds:=⟨[],λ_ _=>.nil,λj hj=>by
  obtain rfl:j=0:=by omega
  exact ⟨[],.all (fd:=fO "mark_of" "mark_of" zaS .none kV2 dc2 pm2 an2 cd2 ct2) (us2 λ_ _=>rfl),.nil⟩⟩
 have d2:za6 K fns cls P globs gds 1 "mark_of" "mark_of" zaS f2 _ zdx zcw _:=⟨rfl,F2,zjx,rfl,rfl,b2,zh8⟩
 have F3:=zat (st:=zar) l3 c3 k3
 have b3:∃ dvs,(∀ A H,RepDs K A H [] dvs)/\∀ j,j<=0->∃ ds,zaL K _ za2 ds/\Vals (dvs.drop j) ds:=⟨[],λ_ _=>.nil,λj hj=>by
  obtain rfl:j=0:=by omega
  exact ⟨[],.all (fd:=fO "letter_mark" "letter_mark" zar .none kV3 dc3 pm3 an3 cd3 ct3) (us2 λ_ _=>rfl),.nil⟩⟩
 have d3:za6 K fns cls P globs gds 2 "letter_mark" "letter_mark" zar f3 _ zbx za2 _:=⟨rfl,F3,zeM,rfl,rfl,b3,zey⟩
 have F4:=zat (st:=zaz) l4 c4 k4
 have b4:∃ dvs,(∀ A H,RepDs K A H [] dvs)/\∀ j,j<=0->∃ ds,zaL K _ zbA ds/\Vals (dvs.drop j) ds:=⟨[],λ_ _=>.nil,λj hj=>by
  obtain rfl:j=0:=by omega
  exact ⟨[],.all (fd:=fO "config_of" "config_of" zaz .none kV4 dc4 pm4 an4 cd4 ct4) (us2 λ_ _=>rfl),.nil⟩⟩
 have d4:za6 K fns cls P globs gds 3 "config_of" "config_of" zaz f4 _ zb8 zbA _:=⟨rfl,F4,zgD,rfl,rfl,b4,zgh⟩
 have F5:=zat (st:=zav) l5 c5 k5
 have b5:∃ dvs,(∀ A H,RepDs K A H [] dvs)/\∀ j,j<=0->∃ ds,zaL K _ zba ds/\Vals (dvs.drop j) ds:=⟨[],λ_ _=>.nil,λj hj=>by
  obtain rfl:j=0:=by omega
  exact ⟨[],.all (fd:=fO "marked_way" "marked_way" zav .none kV5 dc5 pm5 an5 cd5 ct5) (us2 λ_ _=>rfl),.nil⟩⟩
 have d5:za6 K fns cls P globs gds 4 "marked_way" "marked_way" zav f5 _ zbT zba _:=⟨rfl,F5,zfN,rfl,rfl,b5,zft⟩
 have F6:=zat (st:=zaG) l6 c6 k6
 have b6:∃ dvs,(∀ A H,RepDs K A H [] dvs)/\∀ j,j<=0->∃ ds,zaL K _ zbW ds/\Vals (dvs.drop j) ds:=⟨[],λ_ _=>.nil,λj hj=>by
  obtain rfl:j=0:=by omega
  exact ⟨[],.all (fd:=fO "shape_of" "shape_of" zaG .none kV6 dc6 pm6 an6 cd6 ct6) (us1 λ_=>rfl),.nil⟩⟩
 have d6:za6 K fns cls P globs gds 5 "shape_of" "shape_of" zaG f6 _ zc2 zbW _:=⟨rfl,F6,zh0,rfl,rfl,b6,zh2⟩
 have F7:=zat (st:=zaF) l7 c7 k7
 have b7:∃ dvs,(∀ A H,RepDs K A H [] dvs)/\∀ j,j<=0->∃ ds,zaL K _ zb6 ds/\Vals (dvs.drop j) ds:=⟨[],λ_ _=>.nil,λj hj=>by
  obtain rfl:j=0:=by omega
  exact ⟨[],.all (fd:=fO "together" "together" zaF .none kV7 dc7 pm7 an7 cd7 ct7) (us1 λ_=>rfl),.nil⟩⟩
 have d7:za6 K fns cls P globs gds 6 "together" "together" zaF f7 _ zcT zb6 _:=⟨rfl,F7,zhK,rfl,rfl,b7,zhB⟩
 have F8:=zat (st:=zaQ) l8 c8 k8
 have b8:∃ dvs,(∀ A H,RepDs K A H [] dvs)/\∀ j,j<=0->∃ ds,zaL K _ zck ds/\Vals (dvs.drop j) ds:=⟨[],λ_ _=>.nil,λj hj=>by
  obtain rfl:j=0:=by omega
  exact ⟨[],.all (fd:=fO "lies_in" "lies_in" zaQ .none kV8 dc8 pm8 an8 cd8 ct8) (us2 λ_ _=>rfl),.nil⟩⟩
 have d8:za6 K fns cls P globs gds 7 "lies_in" "lies_in" zaQ f8 _ zdW zck _:=⟨rfl,F8,ziN,rfl,rfl,b8,zju⟩
 have F9:=zat (st:=zaA) l9 c9 k9
 have b9:∃ dvs,(∀ A H,RepDs K A H [] dvs)/\∀ j,j<=0->∃ ds,zaL K _ zbC ds/\Vals (dvs.drop j) ds:=⟨[],λ_ _=>.nil,λj hj=>by
  obtain rfl:j=0:=by omega
  exact ⟨[],.all (fd:=fO "is_within" "is_within" zaA .none kV9 dc9 pm9 an9 cd9 ct9) (us2 λ_ _=>rfl),.nil⟩⟩
 have d9:za6 K fns cls P globs gds 8 "is_within" "is_within" zaA f9 _ zcg zbC _:=⟨rfl,F9,zgi,rfl,rfl,b9,zgk⟩
 have F10:=zat (st:=zaU) l10 c10 k10
 have b10:∃ dvs,(∀ A H,RepDs K A H [] dvs)/\∀ j,j<=0->∃ ds,zaL K _ zcC ds/\Vals (dvs.drop j) ds:=⟨[],λ_ _=>.nil,λj hj=>by
  obtain rfl:j=0:=by omega
  exact ⟨[],.all (fd:=fO "_law_mixed" "_law_mixed" zaU .none kV10 dc10 pm10 an10 cd10 ct10) (us2 λ_ _=>rfl),.nil⟩⟩
 have d10:za6 K fns cls P globs gds 9 "_law_mixed" "_law_mixed" zaU f10 _ zdG zcC _:=⟨rfl,F10,zjA,rfl,rfl,b10,zjq⟩
 have F11:=zat (st:=zbd) l11 c11 k11
 have b11:∃ dvs,(∀ A H,RepDs K A H [] dvs)/\∀ j,j<=0->∃ ds,zaL K _ zdo ds/\Vals (dvs.drop j) ds:=⟨[],λ_ _=>.nil,λj hj=>by
  obtain rfl:j=0:=by omega
  exact ⟨[],.all (fd:=fO "_law_pool" "_law_pool" zbd .none kV11 dc11 pm11 an11 cd11 ct11) (us2 λ_ _=>rfl),.nil⟩⟩
 have d11:za6 K fns cls P globs gds 10 "_law_pool" "_law_pool" zbd f11 _ zfd zdo _:=⟨rfl,F11,zkC,rfl,rfl,b11,zkX⟩
 have F12:=zat (st:=zbc) l12 c12 k12
 have b12:∃ dvs,(∀ A H,RepDs K A H [] dvs)/\∀ j,j<=0->∃ ds,zaL K _ zdn ds/\Vals (dvs.drop j) ds:=⟨[],λ_ _=>.nil,λj hj=>by
  obtain rfl:j=0:=by omega
  exact ⟨[],.all (fd:=fO "_law_take" "_law_take" zbc .none kV12 dc12 pm12 an12 cd12 ct12) (us2 λ_ _=>rfl),.nil⟩⟩
 have d12:za6 K fns cls P globs gds 11 "_law_take" "_law_take" zbc f12 _ zeZ zdn _:=⟨rfl,F12,zkb,rfl,rfl,b12,zkP⟩
 have F13:=zat (st:=za7) l13 c13 k13
 have b13:∃ dvs,(∀ A H,RepDs K A H [] dvs)/\∀ j,j<=0->∃ ds,zaL K _ zdi ds/\Vals (dvs.drop j) ds:=⟨[],λ_ _=>.nil,λj hj=>by
  obtain rfl:j=0:=by omega
  exact ⟨[],.all (fd:=fO "_law_line" "_law_line" za7 .none kV13 dc13 pm13 an13 cd13 ct13) (us2 λ_ _=>rfl),.nil⟩⟩
 have d13:za6 K fns cls P globs gds 12 "_law_line" "_law_line" za7 f13 _ ze3 zdi _:=⟨rfl,F13,zk2,rfl,rfl,b13,zk1⟩
 have F14:=zat (st:=zaW) l14 c14 k14
 have b14:∃ dvs,(∀ A H,RepDs K A H [] dvs)/\∀ j,j<=0->∃ ds,zaL K _ zcB ds/\Vals (dvs.drop j) ds:=⟨[],λ_ _=>.nil,λj hj=>by
  obtain rfl:j=0:=by omega
  exact ⟨[],.all (fd:=fO "_law_shape" "_law_shape" zaW .none kV14 dc14 pm14 an14 cd14 ct14) (us3 λ_ _ _=>rfl),.nil⟩⟩
 have d14:za6 K fns cls P globs gds 13 "_law_shape" "_law_shape" zaW f14 _ zdD zcB _:=⟨rfl,F14,zji,rfl,rfl,b14,zjl⟩
 have F15:=zat (st:=za9) l15 c15 k15
 have b15:∃ dvs,(∀ A H,RepDs K A H [] dvs)/\∀ j,j<=0->∃ ds,zaL K _ zdf ds/\Vals (dvs.drop j) ds:=⟨[],λ_ _=>.nil,λj hj=>by
  obtain rfl:j=0:=by omega
  exact ⟨[],.all (fd:=fO "_law_lies" "_law_lies" za9 .none kV15 dc15 pm15 an15 cd15 ct15) (us2 λ_ _=>rfl),.nil⟩⟩
 have d15:za6 K fns cls P globs gds 14 "_law_lies" "_law_lies" za9 f15 _ zev zdf _:=⟨rfl,F15,zlf,rfl,rfl,b15,zkl⟩
 have F16:=zat (st:=za8) l16 c16 k16
 have b16:∃ dvs,(∀ A H,RepDs K A H [] dvs)/\∀ j,j<=0->∃ ds,zaL K _ zdj ds/\Vals (dvs.drop j) ds:=⟨[],λ_ _=>.nil,λj hj=>by
  obtain rfl:j=0:=by omega
  exact ⟨[],.all (fd:=fO "_law_fits" "_law_fits" za8 .none kV16 dc16 pm16 an16 cd16 ct16) (us2 λ_ _=>rfl),.nil⟩⟩
 have d16:za6 K fns cls P globs gds 15 "_law_fits" "_law_fits" za8 f16 _ zfe zdj _:=⟨rfl,F16,zlo,rfl,rfl,b16,zkF⟩
 have F17:=zat (st:=zaH) l17 c17 k17
 have b17:∃ dvs,(∀ A H,RepDs K A H [] dvs)/\∀ j,j<=0->∃ ds,zaL K _ zbX ds/\Vals (dvs.drop j) ds:=⟨[],λ_ _=>.nil,λj hj=>by
  obtain rfl:j=0:=by omega
  exact ⟨[],.all (fd:=fO "_law_within" "_law_within" zaH .none kV17 dc17 pm17 an17 cd17 ct17) (us2 λ_ _=>rfl),.nil⟩⟩
 have d17:za6 K fns cls P globs gds 16 "_law_within" "_law_within" zaH f17 _ zcJ zbX _:=⟨rfl,F17,zhJ,rfl,rfl,b17,zhG⟩
 have F18:=zat (st:=zbG) l18 c18 k18
 have b18:∃ dvs,(∀ A H,RepDs K A H [] dvs)/\∀ j,j<=0->∃ ds,zaL K _ zeS ds/\Vals (dvs.drop j) ds:=⟨[],λ_ _=>.nil,λj hj=>by
  obtain rfl:j=0:=by omega
  exact ⟨[],.all (fd:=fO "_law_own" "_law_own" zbG .none kV18 dc18 pm18 an18 cd18 ct18) (us1 λ_=>rfl),.nil⟩⟩
 have d18:za6 K fns cls P globs gds 17 "_law_own" "_law_own" zbG f18 _ zgG zeS _:=⟨rfl,F18,zmD,rfl,rfl,b18,zl4⟩
 have F19:=zat (st:=zaP) l19 c19 k19
 have b19:∃ dvs,(∀ A H,RepDs K A H [] dvs)/\∀ j,j<=0->∃ ds,zaL K _ zcn ds/\Vals (dvs.drop j) ds:=⟨[],λ_ _=>.nil,λj hj=>by
  obtain rfl:j=0:=by omega
  exact ⟨[],.all (fd:=fO "_law_truth" "_law_truth" zaP .none kV19 dc19 pm19 an19 cd19 ct19) (us2 λ_ _=>rfl),.nil⟩⟩
 have d19:za6 K fns cls P globs gds 18 "_law_truth" "_law_truth" zaP f19 _ zdX zcn _:=⟨rfl,F19,zjf,rfl,rfl,b19,zih⟩
 have F20:=zat (st:=zeK) l20 c20 k20
 have b20:∃ dvs,(∀ A H,RepDs K A H [] dvs)/\∀ j,j<=0->∃ ds,zaL K _ zlh ds/\Vals (dvs.drop j) ds:=⟨[],λ_ _=>.nil,λj hj=>by
  obtain rfl:j=0:=by omega
  exact ⟨[],.all (fd:=fO "law" "law" zeK .none kV20 dc20 pm20 an20 cd20 ct20) (us1 λ_=>rfl),.nil⟩⟩
 have d20:za6 K fns cls P globs gds 19 "law" "law" zeK fa _ zmQ zlh _:=⟨rfl,F20,zpV,rfl,rfl,b20,zpW⟩
 have blt:∀ x∈zcv,mg x=none:=by
  intro x hx
  simp only [zcv,List.mem_cons,List.not_mem_nil,or_false] at hx
  rcases hx with rfl | rfl | rfl | rfl | rfl | rfl | rfl | rfl | rfl | rfl | rfl | rfl | rfl | rfl | rfl | rfl | rfl
  ·exact PySem.W.mg_none_of X G z1
  ·exact PySem.W.mg_none_of X G z2
  ·exact PySem.W.mg_none_of X G z3
  ·exact PySem.W.mg_none_of X G z4
  ·exact PySem.W.mg_none_of X G z5
  ·exact PySem.W.mg_none_of X G z6
  ·exact PySem.W.mg_none_of X G z7
  ·exact PySem.W.mg_none_of X G z8
  ·exact PySem.W.mg_none_of X G z9
  ·exact PySem.W.mg_none_of X G z10
  ·exact PySem.W.mg_none_of X G z11
  ·exact PySem.W.mg_none_of X G z12
  ·exact PySem.W.mg_none_of X G z13
  ·exact PySem.W.mg_none_of X G z14
  ·exact PySem.W.mg_none_of X G z15
  ·exact PySem.W.mg_none_of X G z16
  ·exact PySem.W.mg_none_of X G z17
 have gl:∀ (x:Str) (d:D),globs.lookup x=some d->∃ u v,mg x=some u/\RelV v u/\∀ A H,RepD K A H d v:=by
  intro x d e
  unfold globs at e
  cases e
 have gd:∀ (x:Str) (kvs:List (List Nat×D)),gds.lookup x=some kvs->GDic K w mg x kvs:=by
  intro x kvs e
  unfold gds at e
  rw [List.lookup_cons] at e
  split at e
  ·rename_i hx
   have hx:=eq_of_beq hx
   subst hx
   cases e
   exact .mk da0 _ _ _ (PySem.W.mg_of X G xd0) yd0 ⟨rfl,rfl,rfl⟩ rfl (.cons (v:=(V.ref ga0)) hd0_0 rfl rfl (λA H=>by simp only [RepD];exact ⟨ga0,[(V.str (PySem.Str.ofString "one"))],rfl,.inr ⟨_,_,_,y1,rfl,rfl,rfl,by show 1<=sizeLine;decide,(.cons ⟨_,rfl⟩ .nil)⟩,(.cons (by simp only [RepD];rfl) .nil)⟩) (.cons (v:=(V.ref ga1)) hd0_1 rfl rfl (λA H=>by simp only [RepD];exact ⟨ga1,[(V.str (PySem.Str.ofString "one")),(V.str (PySem.Str.ofString "some"))],rfl,.inr ⟨_,_,_,y2,rfl,rfl,rfl,by show 2<=sizeLine;decide,(.cons ⟨_,rfl⟩ (.cons ⟨_,rfl⟩ .nil))⟩,(.cons (by simp only [RepD];rfl) (.cons (by simp only [RepD];rfl) .nil))⟩) (.cons (v:=(V.ref ga2)) hd0_2 rfl rfl (λA H=>by simp only [RepD];exact ⟨ga2,[(V.str (PySem.Str.ofString "one")),(V.str (PySem.Str.ofString "some")),(V.str (PySem.Str.ofString "any")),V.non],rfl,.inr ⟨_,_,_,y3,rfl,rfl,rfl,by show 4<=sizeLine;decide,(.cons ⟨_,rfl⟩ (.cons ⟨_,rfl⟩ (.cons ⟨_,rfl⟩ (.cons rfl .nil))))⟩,(.cons (by simp only [RepD];rfl) (.cons (by simp only [RepD];rfl) (.cons (by simp only [RepD];rfl) (.cons (by simp only [RepD]) .nil))))⟩) .nil))) (by decide)
  cases e
 let addr:Nat->Addr:=λn=>[f1,f2,f3,f4,f5,f6,f7,f8,f9,f10,f11,f12,f13,f14,f15,f16,f17,f18,f19,fa].getD n 0
 let psOf:Nat->List Str:=λn=>[zaD,zcw,za2,zbA,zba,zbW,zb6,zck,zbC,zcC,zdo,zdn,zdi,zcB,zdf,zdj,zbX,zeS,zcn,zlh].getD n []
 let fdOf:Nat->FuncData:=λn=>[(fO "has_version_of" "has_version_of" zaf .none kV1 dc1 pm1 an1 cd1 ct1),(fO "mark_of" "mark_of" zaS .none kV2 dc2 pm2 an2 cd2 ct2),(fO "letter_mark" "letter_mark" zar .none kV3 dc3 pm3 an3 cd3 ct3),(fO "config_of" "config_of" zaz .none kV4 dc4 pm4 an4 cd4 ct4),(fO "marked_way" "marked_way" zav .none kV5 dc5 pm5 an5 cd5 ct5),(fO "shape_of" "shape_of" zaG .none kV6 dc6 pm6 an6 cd6 ct6),(fO "together" "together" zaF .none kV7 dc7 pm7 an7 cd7 ct7),(fO "lies_in" "lies_in" zaQ .none kV8 dc8 pm8 an8 cd8 ct8),(fO "is_within" "is_within" zaA .none kV9 dc9 pm9 an9 cd9 ct9),(fO "_law_mixed" "_law_mixed" zaU .none kV10 dc10 pm10 an10 cd10 ct10),(fO "_law_pool" "_law_pool" zbd .none kV11 dc11 pm11 an11 cd11 ct11),(fO "_law_take" "_law_take" zbc .none kV12 dc12 pm12 an12 cd12 ct12),(fO "_law_line" "_law_line" za7 .none kV13 dc13 pm13 an13 cd13 ct13),(fO "_law_shape" "_law_shape" zaW .none kV14 dc14 pm14 an14 cd14 ct14),(fO "_law_lies" "_law_lies" za9 .none kV15 dc15 pm15 an15 cd15 ct15),(fO "_law_fits" "_law_fits" za8 .none kV16 dc16 pm16 an16 cd16 ct16),(fO "_law_within" "_law_within" zaH .none kV17 dc17 pm17 an17 cd17 ct17),(fO "_law_own" "_law_own" zbG .none kV18 dc18 pm18 an18 cd18 ct18),(fO "_law_truth" "_law_truth" zaP .none kV19 dc19 pm19 an19 cd19 ct19),(fO "law" "law" zeK .none kV20 dc20 pm20 an20 cd20 ct20)].getD n (fO "has_version_of" "has_version_of" zaf .none kV1 dc1 pm1 an1 cd1 ct1)
 have T:Txt w K mg fns cls P globs gds addr fdOf psOf:=by
  refine ⟨λfi B e=>?_,blt,gl,gd,λfi p e=>?_,?_,?_,?_⟩
  ·match fi,e with
   | 0,e=>cases e;exact ⟨_,_,_,_,d1⟩
   | 1,e=>cases e;exact ⟨_,_,_,_,d2⟩
   | 2,e=>cases e;exact ⟨_,_,_,_,d3⟩
   | 3,e=>cases e;exact ⟨_,_,_,_,d4⟩
   | 4,e=>cases e;exact ⟨_,_,_,_,d5⟩
   | 5,e=>cases e;exact ⟨_,_,_,_,d6⟩
   | 6,e=>cases e;exact ⟨_,_,_,_,d7⟩
   | 7,e=>cases e;exact ⟨_,_,_,_,d8⟩
   | 8,e=>cases e;exact ⟨_,_,_,_,d9⟩
   | 9,e=>cases e;exact ⟨_,_,_,_,d10⟩
   | 10,e=>cases e;exact ⟨_,_,_,_,d11⟩
   | 11,e=>cases e;exact ⟨_,_,_,_,d12⟩
   | 12,e=>cases e;exact ⟨_,_,_,_,d13⟩
   | 13,e=>cases e;exact ⟨_,_,_,_,d14⟩
   | 14,e=>cases e;exact ⟨_,_,_,_,d15⟩
   | 15,e=>cases e;exact ⟨_,_,_,_,d16⟩
   | 16,e=>cases e;exact ⟨_,_,_,_,d17⟩
   | 17,e=>cases e;exact ⟨_,_,_,_,d18⟩
   | 18,e=>cases e;exact ⟨_,_,_,_,d19⟩
   | 19,e=>cases e;exact ⟨_,_,_,_,d20⟩
   | n+20,e=>exact absurd (List.getElem?_eq_some_iff.mp e).1 (by show ¬ (n+20<20);omega)
  ·match fi,e with
   | 0,e=>cases e;exact ⟨PySem.W.mg_of X G a1,_,rfl,rfl,rfl⟩
   | 1,e=>cases e;exact ⟨PySem.W.mg_of X G a2,_,rfl,rfl,rfl⟩
   | 2,e=>cases e;exact ⟨PySem.W.mg_of X G a3,_,rfl,rfl,rfl⟩
   | 3,e=>cases e;exact ⟨PySem.W.mg_of X G a4,_,rfl,rfl,rfl⟩
   | 4,e=>cases e;exact ⟨PySem.W.mg_of X G a5,_,rfl,rfl,rfl⟩
   | 5,e=>cases e;exact ⟨PySem.W.mg_of X G a6,_,rfl,rfl,rfl⟩
   | 6,e=>cases e;exact ⟨PySem.W.mg_of X G a7,_,rfl,rfl,rfl⟩
   | 7,e=>cases e;exact ⟨PySem.W.mg_of X G a8,_,rfl,rfl,rfl⟩
   | 8,e=>cases e;exact ⟨PySem.W.mg_of X G a9,_,rfl,rfl,rfl⟩
   | 9,e=>cases e;exact ⟨PySem.W.mg_of X G a10,_,rfl,rfl,rfl⟩
   | 10,e=>cases e;exact ⟨PySem.W.mg_of X G a11,_,rfl,rfl,rfl⟩
   | 11,e=>cases e;exact ⟨PySem.W.mg_of X G a12,_,rfl,rfl,rfl⟩
   | 12,e=>cases e;exact ⟨PySem.W.mg_of X G a13,_,rfl,rfl,rfl⟩
   | 13,e=>cases e;exact ⟨PySem.W.mg_of X G a14,_,rfl,rfl,rfl⟩
   | 14,e=>cases e;exact ⟨PySem.W.mg_of X G a15,_,rfl,rfl,rfl⟩
   | 15,e=>cases e;exact ⟨PySem.W.mg_of X G a16,_,rfl,rfl,rfl⟩
   | 16,e=>cases e;exact ⟨PySem.W.mg_of X G a17,_,rfl,rfl,rfl⟩
   | 17,e=>cases e;exact ⟨PySem.W.mg_of X G a18,_,rfl,rfl,rfl⟩
   | 18,e=>cases e;exact ⟨PySem.W.mg_of X G a19,_,rfl,rfl,rfl⟩
   | 19,e=>cases e;exact ⟨PySem.W.mg_of X G a20,_,rfl,rfl,rfl⟩
   | n+20,e=>exact absurd (List.getElem?_eq_some_iff.mp e).1 (by show ¬ (n+20<20);omega)
  ·intro ci hc
   unfold cls at hc
   simp at hc
  ·intro ci hc
   unfold cls at hc
   simp at hc
  ·intro ci hc
   unfold cls at hc
   simp at hc
 exact ⟨(fO "law" "law" zeK .none kV20 dc20 pm20 an20 cd20 ct20),λs v=>.of_eq rfl,λbase _ _=>ziu T 8 19 _ rfl⟩
theorem walk {l:PySem.W.OpenLaw} {q:Program} {loose:List Str} {XP:(Str->Option Value)->Heap->Prop} {YP:World->Heap->Prop} {d:DefRec} {K:Params->PySem.W.Frag} (hn:l.most=some 63) (hdf:d.params.defaults=[])
  (hY:∀ (w:World) (h:Heap),YP w h->(K w.params).In h)
  (F:∀ (w:World) (mg:Str->Option Value) (fa:Addr) (h:Heap),(K w.params).In h->h.Ns mainGlobals mg->mg d.name=some (.ref fa) →
   ∃ fd:FuncData,(∀ (s:Shared) (u:Value),BindsTo s fd ⟨[u],[]⟩ [("_law_script",u)])/\∀ base:Heap,(K w.params).In base->base.Ns mainGlobals mg->FnOk l.prog w (K w.params) mg base CX0 16 fa fd ["_law_script"] (spF (K w.params) 1 (zan P 8 19))) :
  PySem.W.WalkO q loose XP YP l.row.toRowW d [] (λf vs=>PySem.call f vs):=
 L2.walk_of (n:=63) (k:=16) (x:="_law_script") (CX:=λ_=>CX0) (sp:=λw=>spF (K w.params) 1 (zan P 8 19)) hn (by decide) hdf ⟨rfl,by decide,by decide⟩ hY F
  (λ_ _ a ns hl _ hS=>zjJ hS (zlj hl)) λ_ _ _ _ _ z=>z
end K42
open PySem PySem.W PyProof.Rows
set_option maxRecDepth 100000 in
set_option maxHeartbeats 0 in
theorem PySem.Challenge.cw_copyclerk_k42_lying_and_within_holds : PySem.Challenge.rw_copyclerk_k42_lying_and_within.Holds := by
 w_on;o_law;z_head;(case hw=>w_witness2)
 k_fill
 refine IT.toX (λ_=>rfl) (K42.walk (l:=PySem.Challenge.rw_copyclerk_k42_lying_and_within) rfl rfl (λw h Y=>Y) ?F)
 case F=>
  intro w mg fa h KX G hmg
  refine' K42.all_mk KX G hmg ?a1 ?l1 ?c1 ?k1 ?a2 ?l2 ?c2 ?k2 ?a3 ?l3 ?c3 ?k3 ?a4 ?l4 ?c4 ?k4 ?a5 ?l5 ?c5 ?k5 ?a6 ?l6 ?c6 ?k6 ?a7 ?l7 ?c7 ?k7 ?a8 ?l8 ?c8 ?k8 ?a9 ?l9 ?c9 ?k9 ?a10 ?l10 ?c10 ?k10 ?a11 ?l11 ?c11 ?k11 ?a12 ?l12 ?c12 ?k12 ?a13 ?l13 ?c13 ?k13 ?a14 ?l14 ?c14 ?k14 ?a15 ?l15 ?c15 ?k15 ?a16 ?l16 ?c16 ?k16 ?a17 ?l17 ?c17 ?k17 ?a18 ?l18 ?c18 ?k18 ?a19 ?l19 ?c19 ?k19 ?a20 ?l20 ?c20 ?k20 ?xd0 ?y1 ?y2 ?y3 ?yd0 ?hd0_0 ?hd0_1 ?hd0_2 ?z1 ?z2 ?z3 ?z4 ?z5 ?z6 ?z7 ?z8 ?z9 ?z10 ?z11 ?z12 ?z13 ?z14 ?z15 ?z16 ?z17
  (case a1=>k_is)
  (case l1=>k_is)
  (case c1=>k_is)
  (case k1=>k_is)
  (case a2=>k_is)
  (case l2=>k_is)
  (case c2=>k_is)
  (case k2=>k_is)
  (case a3=>k_is)
  (case l3=>k_is)
  (case c3=>k_is)
  (case k3=>k_is)
  (case a4=>k_is)
  (case l4=>k_is)
  (case c4=>k_is)
  (case k4=>k_is)
  (case a5=>k_is)
  (case l5=>k_is)
  (case c5=>k_is)
  (case k5=>k_is)
  (case a6=>k_is)
  (case l6=>k_is)
  (case c6=>k_is)
  (case k6=>k_is)
  (case a7=>k_is)
  (case l7=>k_is)
  (case c7=>k_is)
  (case k7=>k_is)
  (case a8=>k_is)
  (case l8=>k_is)
  (case c8=>k_is)
  (case k8=>k_is)
  (case a9=>k_is)
  (case l9=>k_is)
  (case c9=>k_is)
  (case k9=>k_is)
  (case a10=>k_is)
  (case l10=>k_is)
  (case c10=>k_is)
  (case k10=>k_is)
  (case a11=>k_is)
  (case l11=>k_is)
  (case c11=>k_is)
  (case k11=>k_is)
  (case a12=>k_is)
  (case l12=>k_is)
  (case c12=>k_is)
  (case k12=>k_is)
  (case a13=>k_is)
  (case l13=>k_is)
  (case c13=>k_is)
  (case k13=>k_is)
  (case a14=>k_is)
  (case l14=>k_is)
  (case c14=>k_is)
  (case k14=>k_is)
  (case a15=>k_is)
  (case l15=>k_is)
  (case c15=>k_is)
  (case k15=>k_is)
  (case a16=>k_is)
  (case l16=>k_is)
  (case c16=>k_is)
  (case k16=>k_is)
  (case a17=>k_is)
  (case l17=>k_is)
  (case c17=>k_is)
  (case k17=>k_is)
  (case a18=>k_is)
  (case l18=>k_is)
  (case c18=>k_is)
  (case k18=>k_is)
  (case a19=>k_is)
  (case l19=>k_is)
  (case c19=>k_is)
  (case k19=>k_is)
  (case a20=>k_is)
  (case l20=>k_is)
  (case c20=>k_is)
  (case k20=>k_is)
  (case xd0=>k_is)
  (case yd0=>k_is)
  (case y1=>k_is)
  (case y2=>k_is)
  (case y3=>k_is)
  (case z1=>k_is)
  (case z2=>k_is)
  (case z3=>k_is)
  (case z4=>k_is)
  (case z5=>k_is)
  (case z6=>k_is)
  (case z7=>k_is)
  (case z8=>k_is)
  (case z9=>k_is)
  (case z10=>k_is)
  (case z11=>k_is)
  (case z12=>k_is)
  (case z13=>k_is)
  (case z14=>k_is)
  (case z15=>k_is)
  (case z16=>k_is)
  (case z17=>k_is)
  (case hd0_0=>rfl)
  (case hd0_1=>rfl)
  (case hd0_2=>rfl)
