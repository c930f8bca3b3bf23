import PyProof.Rows.All
import Wide.All
import OpenK.AllK
import Wide.FinOn
import Lean
import PyProof.EqAt
import PyProof.EqKinds
import PyProof.TupleCall
import PyProof.Rows.TupTab
import PyProof.DictRoadsH
import PyProof.MeetsStr2
import PyProof.StrLawsTight
import PyProof.StrBlockI
import KE.KIntText
import PyProof.StrWalks
import PyProof.EnumMake
import KE.KIsAll
import KE.KRevSl
import PyProof.Rows.FactsN_isinstance
import KE.KDictOf
import PyProof.AttrMiss
import PyProof.WalksMore
import PyProof.FactsAll.tuple
import PyProof.ListRange
import PyProof.Rows.SetFrom
import PyProof.DictItems
import KE.KSortTup
import PyProof.DictIter
import PyProof.DictWalks
import KE.KDictList
import PyProof.Rows.SortShell
import KE.KItemsList
import KE.KUnpack
import PyProof.Rows.CallKwBuiltin
import PySem.Challenge.RW_copyclerk_k81_papers_written_and_read
set_option Elab.async false
set_option autoImplicit true
set_option relaxedAutoImplicit true
set_option linter.all false
set_option genSizeOfSpec false
set_option maxHeartbeats 8000000
set_option maxRecDepth 100000
local macro_rules | `(tactic|ac_rfl)=>`(tactic|conv=>whnf)
local macro_rules | `(tactic|omega)=>`(tactic|with_reducible first|assumption|exact Nat.succ_le_of_lt (by assumption)|exact Nat.le_of_lt (by assumption)|exact Nat.zero_le _|exact Nat.lt_of_lt_of_le (by assumption) (by assumption)|exact Nat.le_trans (by assumption) (by assumption)|exact Nat.succ_le_succ (by assumption)|fail)
namespace IT
open PySem
inductive D where
 | non
 | bl (b:Bool)
 | int (i:Int)
 | str (x:List Nat)
 | tup (xs:List D)
 | lst (xs:List D)
mutual
noncomputable def D.eqb:D->D->Bool
 | .non,y=>match y with | .non=>true | _=>false
 | .bl a,y=>match y with | .bl b=>a==b | .int b=>(if a then 1 else 0)==b | _=>false
 | .int a,y=>match y with | .int b=>a==b | .bl b=>a==(if b then 1 else 0) | _=>false
 | .str a,y=>match y with | .str b=>a==b | _=>false
 | .tup a,y=>match y with | .tup b=>D.eqbs a b | _=>false
 | .lst a,y=>match y with | .lst b=>D.eqbs a b | _=>false
noncomputable def D.eqbs:List D->List D->Bool
 | [],ys=>match ys with | []=>true | _=>false
 | a::r,ys=>match ys with | b::t=>D.eqb a b&&D.eqbs r t | _=>false
end
mutual
noncomputable def D.dep:D->Nat
 | .tup xs=>D.deps xs+1
 | .lst xs=>D.deps xs+1
 | .non | .bl _ | .int _ | .str _=>0
noncomputable def D.deps:List D->Nat
 | []=>0
 | x::xs=>max (D.dep x) (D.deps xs)
end
noncomputable def zi2 (a b:D):Bool:=decide (min a.dep b.dep<=60)
inductive R where
 | d (x:D)
 | loc (l:Nat)
inductive Ob where
 | lst (xs:List D)
 | fro (xs:List D)
 | ins (c:Str) (fs:List (Str×R))
 | ols (ls:List Nat)
 | dic (kvs:List (D×D))
 | dfr (kvs:List (D×D))
noncomputable def Ob.items:Ob->List D
 | .lst xs=>xs
 | .fro xs=>xs
 | .ins _ _=>[]
 | .ols _=>[]
 | .dic _=>[]
 | .dfr _=>[]
noncomputable def Ob.isL:Ob->Bool
 | .lst _=>true
 | .fro _=>true
 | _=>false
inductive Ite where
 | r (x:R)
 | en (i:Int) (x:R)
noncomputable abbrev dI (x:D):Ite:=.r (.d x)
noncomputable abbrev Sto:=List Ob
noncomputable abbrev M (α:Type):=Sto->Option (α×Sto)
noncomputable def ok {α:Type} (a:α):M α:=λh=>some (a,h)
noncomputable def bnd {α β:Type} (x:M α) (f:α->M β):M β:=λh=>match x h with
 | some (a,h1)=>f a h1
 | none=>none
theorem zad {α:Type} {z:α} {P:Prop} (e:none=some z):P:=by cases e
noncomputable def rd:R->M D
 | .d x=>ok x
 | .loc l=>λh=>match h[l]? with
  | some o=>if o.isL then some (.lst o.items,h) else none
  | none=>none
noncomputable def fz:R->M D
 | .d x=>ok x
 | .loc l=>λh=>match h[l]? with
  | some o=>if o.isL then some (.lst o.items,h.set l (.fro o.items)) else none
  | none=>none
inductive Bo where
 | add | sub | mul | fdiv | mod | pow | band | bor
inductive Co where
 | eq | ne | lt | le | gt | ge | isin | notin | isN | isnotN
inductive Bi where
 | len | sum | tuple | int | all | any | max | min | str
inductive Me where
 | append | pop | popAt | clear | extend
inductive Ty where
 | int | str | bool | list | tuple
inductive Tm where
 | starts | parti | join
inductive Lm where
 | count | index | countT | indexT
inductive Tg where
 | name (i:Nat)
 | tup (ts:List Tg)
set_option genInjectivity false
mutual
inductive E where
 | con (d:D)
 | var (i:Nat)
 | bin (o:Bo) (a b:E)
 | cmp (o:Co) (a b:E)
 | and (a b:E)
 | or (a b:E)
 | not (a:E)
 | ife (c:T) (a b:E)
 | tup (es:List E)
 | lst (m:Bool) (l:L)
 | idx (a i:E)
 | sli (a lo hi:E)
 | call (f:Nat) (es:List E)
 | bi (b:Bi) (es:List E)
 | me (m:Me) (o:E) (es:List E)
 | glo (d:D)
 | isi (t:Ty) (e:E)
 | tm (m:Tm) (o:E) (es:List E)
 | lm (m:Lm) (o a:E)
 | dnew
 | stuck
inductive T where
 | val (e:E)
 | and (a b:T)
 | or (a b:T)
 | not (a:T)
inductive L where
 | disp (es:List E)
 | comp (tg:Tg) (it:I) (c:List T) (el:E)
 | of (e:E)
 | spl (a b:E)
 | sdi (e:E)
 | sst (e:E)
inductive I where
 | seq (e:E)
 | rng (e:E)
 | dic (e:E)
end
set_option genInjectivity true
noncomputable def big:Nat:=16777216
noncomputable def fit (n:Nat):Bool:=decide (n<=big)
noncomputable def zgo (i:Int):Bool:=decide (-(2 ^ 64)<i)&&decide (i<2 ^ 64)
noncomputable def wide:Int:=1000000000000000000000000000000000000000000000000000000000000
noncomputable def bop:Bo->D->D->Option D
 | .add,.int a,.int b=>some (.int (a+b))
 | .sub,.int a,.int b=>some (.int (a-b))
 | .mul,.int a,.int b=>if zgo a||zgo b then some (.int (a*b)) else none
 | .fdiv,.int a,.int b=>if decide (0<b)&&decide (b<wide) then some (.int (a / b)) else none
 | .mod,.int a,.int b=>if decide (0<b) then some (.int (a % b)) else none
 | .add,.str a,.str b=>if fit (a.length+b.length) then some (.str (a++b)) else none
 | .pow,.int a,.int b=>if decide (0<=b)&&decide (b<=1000000)&&decide (a.natAbs<2 ^ 64) then some (.int (a ^ b.toNat)) else none
 | .band,.int a,.int b=>if decide (0<=a)&&decide (0<=b) then some (.int (a.toNat &&& b.toNat:Nat)) else none
 | .bor,.int a,.int b=>if decide (0<=a)&&decide (0<=b) then some (.int (a.toNat ||| b.toNat:Nat)) else none
 | .add,.lst a,.lst b=>if fit (a.length+b.length) then some (.lst (a++b)) else none
 | .add,.tup a,.tup b=>if fit (a.length+b.length) then some (.tup (a++b)) else none
 | .mul,.tup a,.int b=>if a.isEmpty||decide (b<0)||decide (2 ^ 24<b)||!fit (a.length*b.toNat) then none else some (.tup (List.replicate b.toNat a).flatten)
 | _,_,_=>none
noncomputable def catS (sep:List Nat):List (List Nat)->List Nat
 | []=>[]
 | x::xs=>x++(xs.map λy=>sep++y).flatten
noncomputable def fnd (y:List Nat):List Nat->Option Nat
 | []=>if y.isPrefixOf [] then some 0 else none
 | c::r=>if y.isPrefixOf (c::r) then some 0 else match fnd y r with
  | some i=>some (i+1)
  | none=>none
noncomputable def splS (y:List Nat):Nat->List Nat->List (List Nat)
 | 0,x=>[x]
 | n+1,x=>match fnd y x with
  | some i=>x.take i::splS y n (x.drop (i+y.length))
  | none=>[x]
noncomputable def txts:List D->Option (List (List Nat))
 | []=>some []
 | .str x::r=>match txts r with
  | some l=>some (x::l)
  | none=>none
 | _::_=>none
noncomputable def zoy:D->Bool
 | .non=>true
 | _=>false
noncomputable def items:D->Option (List D)
 | .tup xs=>some xs
 | .lst xs=>some xs
 | _=>none
noncomputable def cop:Co->D->D->Option D
 | .eq,a,b=>if zi2 a b then some (.bl (a.eqb b)) else none
 | .ne,a,b=>if zi2 a b then some (.bl (!a.eqb b)) else none
 | .lt,.int a,.int b=>some (.bl (decide (a<b)))
 | .le,.int a,.int b=>some (.bl (decide (a<=b)))
 | .gt,.int a,.int b=>some (.bl (decide (b<a)))
 | .ge,.int a,.int b=>some (.bl (decide (b<=a)))
 | .isin,a,b=>match items b with
  | some xs=>if decide (a.dep<=60) then some (.bl (xs.any λy=>y.eqb a)) else none
  | none=>match b,a with
   | .str x,.str y=>some (.bl (fnd y x).isSome)
   | _,_=>none
 | .notin,a,b=>match items b with
  | some xs=>if decide (a.dep<=60) then some (.bl (!(xs.any λy=>y.eqb a))) else none
  | none=>match b,a with
   | .str x,.str y=>some (.bl (!(fnd y x).isSome))
   | _,_=>none
 | .isN,a,.non=>some (.bl (zoy a))
 | .isnotN,a,.non=>some (.bl (!zoy a))
 | .isN,.bl a,.bl b=>some (.bl (a==b))
 | .isnotN,.bl a,.bl b=>some (.bl (a != b))
 | _,_,_=>none
noncomputable def ixn (n:Nat) (i:Int):Option Nat:=if 0<=i then (if i<n then some i.toNat else none) else if -(n:Int)<=i then some (i+n).toNat else none
noncomputable def at' {α:Type} (xs:List α) (i:Int):Option α:=match ixn xs.length i with
 | some j=>xs[j]?
 | none=>none
noncomputable def idxD:D->D->Option D
 | .tup xs,.int i=>at' xs i
 | .lst xs,.int i=>at' xs i
 | .str z,.int i=>if fit z.length then (match at' z i with
  | some c=>some (.str [c])
  | none=>none) else none
 | _,_=>none
noncomputable def sIx (n d:Nat):Option Int->Nat
 | none=>d
 | some v=>if v<0 then (v+(n:Int)).toNat else min v.toNat n
noncomputable def cut {α:Type} (xs:List α) (lo hi:Option Int):List α:=(xs.drop (sIx xs.length 0 lo)).take (sIx xs.length xs.length hi-sIx xs.length 0 lo)
noncomputable def part:D->Option (Option Int)
 | .non=>some none
 | .int i=>some (some i)
 | _=>none
noncomputable def cutD (x:D) (lo hi:Option Int):Option D:=match x with
 | .tup xs=>some (.tup (cut xs lo hi))
 | .lst xs=>some (.lst (cut xs lo hi))
 | .str xs=>if fit xs.length then some (.str (cut xs lo hi)) else none
 | _=>none
noncomputable def sliD (x l u:D):Option D:=match part l,part u with
 | some lo,some hi=>cutD x lo hi
 | _,_=>none
noncomputable def sumI:List D->Option Int
 | []=>some 0
 | .int a::r=>match sumI r with
  | some s=>some (a+s)
  | none=>none
 | _=>none
noncomputable def tru:D->Option Bool
 | .non=>some false
 | .bl b=>some b
 | .int i=>some (i != 0)
 | .str x=>if fit x.length then some (!x.isEmpty) else none
 | .tup xs=>some (!xs.isEmpty)
 | .lst xs=>some (!xs.isEmpty)
noncomputable def zav:List D->Option (List Bool)
 | []=>some []
 | d::r=>match tru d with
  | some b=>match zav r with
   | some s=>some (b::s)
   | none=>none
  | none=>none
noncomputable def isiD:Ty->D->Bool
 | .int,.int _=>true
 | .int,.bl _=>true
 | .str,.str _=>true
 | .bool,.bl _=>true
 | .list,.lst _=>true
 | .tuple,.tup _=>true
 | _,_=>false
noncomputable def decS (n:Int):List Nat:=if n<0 then 45::(Nat.toDigits 10 n.natAbs).map Char.toNat else (Nat.toDigits 10 n.natAbs).map Char.toNat
noncomputable def digS (x:List Nat):Bool:=!x.isEmpty&&x.all λc=>decide (48<=c)&&decide (c<=57)
noncomputable def valS (x:List Nat):Nat:=x.foldl (λacc c=>acc*10+(c-48)) 0
noncomputable def intS (x:List Nat):Option Int:=match x with
 | []=>none
 | c::r=>if c=45 then (if digS r then some (-(valS r:Int)) else none) else if digS (c::r) then some (valS (c::r):Int) else none
noncomputable def biD:Bi->List D->Option D
 | .len,[.tup xs]=>some (.int xs.length)
 | .len,[.lst xs]=>some (.int xs.length)
 | .len,[.str xs]=>if fit xs.length then some (.int xs.length) else none
 | .sum,[.lst xs]=>match sumI xs with
  | some s=>some (.int s)
  | none=>none
 | .tuple,[.lst xs]=>some (.tup xs)
 | .tuple,[.tup xs]=>some (.tup xs)
 | .int,[.bl b]=>some (.int (if b then 1 else 0))
 | .int,[.int i]=>some (.int i)
 | .all,[.lst xs]=>match zav xs with
  | some bs=>some (.bl (bs.all id))
  | none=>none
 | .any,[.lst xs]=>match zav xs with
  | some bs=>some (.bl (bs.any id))
  | none=>none
 | .int,[.str x]=>if decide (x.length<=640) then (match intS x with
  | some i=>some (.int i)
  | none=>none) else none
 | .str,[.str x]=>some (.str x)
 | .str,[.int i]=>if decide (i.natAbs<2 ^ 200) then some (.str (decS i)) else none
 | .max,[.int i,.int j]=>some (.int (if j>i then j else i))
 | .min,[.int i,.int j]=>some (.int (if j<i then j else i))
 | _,_=>none
noncomputable def tmD:Tm->D->List D->Option D
 | .starts,.str x,[.str y]=>some (.bl (y.isPrefixOf x))
 | .parti,.str x,[.str y]=>if y.isEmpty||!fit x.length then none else some (.tup (match fnd y x with
  | some i=>[.str (x.take i),.str y,.str (x.drop (i+y.length))]
  | none=>[.str x,.str [],.str []]))
 | .join,.str z,[d]=>match items d with
  | some xs=>match txts xs with
   | some l=>if fit (l.map λy=>y.length+z.length).sum then some (.str (catS z l)) else none
   | none=>none
  | none=>none
 | _,_,_=>none
noncomputable def lmD:Lm->D->D->Option D
 | .count,.lst xs,d=>if decide (d.dep<=60) then some (.int (xs.countP λy=>y.eqb d)) else none
 | .index,.lst xs,d=>if decide (d.dep<=60) then (match xs.findIdx? λy=>y.eqb d with
  | some j=>some (.int j)
  | none=>none) else none
 | .countT,.tup xs,d=>if decide (d.dep<=60) then some (.int (xs.countP λy=>y.eqb d)) else none
 | .indexT,.tup xs,d=>if decide (d.dep<=60) then (match xs.findIdx? λy=>y.eqb d with
  | some j=>some (.int j)
  | none=>none) else none
 | _,_,_=>none
noncomputable def splD:D->D->Option (List D)
 | .str x,.str y=>if y.isEmpty||!fit (x.length+1)||!fit (splS y x.length x).length then none else some ((splS y x.length x).map D.str)
 | _,_=>none
noncomputable abbrev Env:=List (Option R)
mutual
noncomputable def zaz:Tg->R->Env->M Env
 | .name i,r,σ=>ok (σ.set i (some r))
 | .tup ts,r,σ=>bnd (rd r) λd=>match d with
  | .tup xs=>bindTs ts xs σ
  | _=>λ_=>none
noncomputable def bindTs:List Tg->List D->Env->M Env
 | [],xs,σ=>match xs with
  | []=>ok σ
  | _=>λ_=>none
 | t::ts,xs,σ=>match xs with
  | x::xs=>bnd (zaz t (.d x) σ) λσ'=>bindTs ts xs σ'
  | _=>λ_=>none
end
noncomputable def zaw:Tg->Ite->Env->M Env
 | tg,.r x,σ=>zaz tg x σ
 | .tup [a,b],.en i x,σ=>bnd (zaz a (.d (.int i)) σ) λσ'=>zaz b x σ'
 | _,_,_=>λ_=>none
mutual
noncomputable def D.same:D->D->Bool
 | .non,y=>match y with | .non=>true | _=>false
 | .bl a,y=>match y with | .bl b=>a==b | _=>false
 | .int a,y=>match y with | .int b=>a==b | _=>false
 | .str a,y=>match y with | .str b=>a==b | _=>false
 | .tup a,y=>match y with | .tup b=>D.sames a b | _=>false
 | .lst a,y=>match y with | .lst b=>D.sames a b | _=>false
noncomputable def D.sames:List D->List D->Bool
 | [],ys=>match ys with | []=>true | _=>false
 | a::r,ys=>match ys with | b::t=>D.same a b&&D.sames r t | _=>false
end
mutual
theorem D.same_eq:∀ x y:D,D.same x y=true->x=y
 | .non,.non,_=>rfl
 | .bl a,.bl b,h=>by simp [D.same] at h;rw [h]
 | .int a,.int b,h=>by simp [D.same] at h;rw [h]
 | .str a,.str b,h=>by simp [D.same] at h;rw [h]
 | .tup a,.tup b,h=>by simp [D.same] at h;rw [D.sames_eq a b h]
 | .lst a,.lst b,h=>by simp [D.same] at h;rw [D.sames_eq a b h]
 | .non,.bl _,h | .non,.int _,h | .non,.str _,h | .non,.tup _,h | .non,.lst _,h=>by simp [D.same] at h
 | .bl _,.non,h | .bl _,.int _,h | .bl _,.str _,h | .bl _,.tup _,h | .bl _,.lst _,h=>by simp [D.same] at h
 | .int _,.non,h | .int _,.bl _,h | .int _,.str _,h | .int _,.tup _,h | .int _,.lst _,h=>by simp [D.same] at h
 | .str _,.non,h | .str _,.bl _,h | .str _,.int _,h | .str _,.tup _,h | .str _,.lst _,h=>by simp [D.same] at h
 | .tup _,.non,h | .tup _,.bl _,h | .tup _,.int _,h | .tup _,.str _,h | .tup _,.lst _,h=>by simp [D.same] at h
 | .lst _,.non,h | .lst _,.bl _,h | .lst _,.int _,h | .lst _,.str _,h | .lst _,.tup _,h=>by simp [D.same] at h
theorem D.sames_eq:∀ x y:List D,D.sames x y=true->x=y
 | [],[],_=>rfl
 | a::r,b::t,h=>by
  simp [D.sames] at h;rw [D.same_eq a b h.1,D.sames_eq r t h.2]
 | [],_::_,h=>by simp [D.sames] at h
 | _::_,[],h=>by simp [D.sames] at h
end
mutual
theorem D.same_refl:∀ x:D,D.same x x=true
 | .non=>rfl
 | .bl a=>by simp [D.same]
 | .int a=>by simp [D.same]
 | .str a=>by simp [D.same]
 | .tup a=>by simp [D.same];exact D.sames_refl a
 | .lst a=>by simp [D.same];exact D.sames_refl a
theorem D.sames_refl:∀ x:List D,D.sames x x=true
 | []=>rfl
 | a::r=>by simp [D.sames];exact ⟨D.same_refl a,D.sames_refl r⟩
end
mutual
noncomputable def D.hk:D->Bool
 | .int _=>true
 | .str _=>true
 | .tup xs=>D.hks xs
 | .non | .bl _ | .lst _=>false
noncomputable def D.hks:List D->Bool
 | []=>true
 | x::r=>D.hk x&&D.hks r
end
noncomputable def zaq:D->Bool
 | .tup xs=>D.hks xs&&decide (D.deps xs<=6)
 | _=>false
noncomputable def dPut (k v:D):List (D×D)->List (D×D)
 | []=>[(k,v)]
 | p::r=>if p.1.same k then (p.1,v)::r else p::dPut k v r
noncomputable def zaJ:List (D×D)->List (D×D)->Bool
 | [],ys=>ys.isEmpty
 | p::r,ys=>match ys with
  | q::t=>p.1.same q.1&&p.2.same q.2&&zaJ r t
  | []=>false
noncomputable def ltS:List Nat->List Nat->Bool
 | [],ys=>match ys with | []=>false | _=>true
 | a::r,ys=>match ys with | b::t=>if a=b then ltS r t else decide (a<b) | []=>false
mutual
noncomputable def D.lt:D->D->Option Bool
 | .int a,y=>match y with | .int b=>some (decide (a<b)) | _=>none
 | .str a,y=>match y with | .str b=>some (ltS a b) | _=>none
 | .tup a,y=>match y with | .tup b=>D.lts a b | _=>none
 | .non,_=>none
 | .bl _,_=>none
 | .lst _,_=>none
noncomputable def D.lts:List D->List D->Option Bool
 | [],ys=>match ys with | []=>some false | _=>some true
 | a::r,ys=>match ys with | b::t=>if D.same a b then D.lts r t else D.lt a b | []=>some false
end
noncomputable def ltT (a b:D):Bool:=match D.lt a b with
 | some c=>c
 | none=>false
noncomputable def rnk (xs:List D) (x:D):Nat:=xs.countP λy=>ltT y x
noncomputable def rkOk (xs:List D):Bool:=xs.all λx=>xs.all λy=>(D.lt x y).isSome&&(ltT x y==decide (rnk xs x<rnk xs y))
noncomputable def apart:List D->Bool
 | []=>true
 | x::r=>(r.all λy=>!x.same y)&&apart r
noncomputable def insD (x:D):List D->List D
 | []=>[x]
 | y::r=>if ltT y x then y::insD x r else x::y::r
noncomputable def zc7:List D->List D
 | []=>[]
 | x::r=>insD x (zc7 r)
noncomputable def fstK:D->Nat
 | .tup (.str _::_)=>1
 | .tup (.tup _::_)=>2
 | _=>0
noncomputable def zbN (xs:List D):Option (List D):=if decide (xs.length<=5)&&xs.all zaq&&apart xs&&rkOk xs&&((xs.all λx=>fstK x==1)||xs.all λx=>fstK x==2) then some (zc7 xs) else none
noncomputable def once:List D->List D
 | []=>[]
 | x::r=>x::(once r).filter λy=>!x.same y
noncomputable def zbd (d:D):Option (List D):=match d with
 | .lst xs=>if fit xs.length&&xs.all zaq&&(decide ((once xs).length<=4)||decide (xs.length<=5)) then zbN (once xs) else none
 | _=>none
noncomputable def zcs (p:D×D):D:=.tup [p.1,p.2]
noncomputable def Ob.same:Ob->Ob->Bool
 | .dic a,o=>match o with
  | .dic b=>zaJ a b
  | _=>false
 | .dfr a,o=>match o with
  | .dfr b=>zaJ a b
  | _=>false
 | .ols a,o=>match o with
  | .ols b=>a==b
  | _=>false
 | .ins _ _,_=>false
 | .lst a,o=>o.isL&&D.sames a o.items
 | .fro a,o=>o.isL&&D.sames a o.items
noncomputable def zaC (l:Option Nat) (h h':Sto):Bool:=match l with
 | none=>true
 | some l=>match h[l]?,h'[l]? with
  | some o,some o'=>o.same o'
  | _,_=>false
noncomputable def turns {α:Type} (l:Option Nat) (f:Ite->M (Option α)):List Ite->M (List α)
 | []=>ok []
 | x::xs=>λh=>match f x h with
  | some (o,h1)=>if zaC l h h1 then bnd (turns l f xs) (λys=>ok (match o with | some y=>y::ys | none=>ys)) h1 else none
  | none=>none
noncomputable def zbf (lo:Int):Nat->List D
 | 0=>[]
 | n+1=>.int lo::zbf (lo+1) n
noncomputable def opt {α:Type} (o:Option α):M α:=λh=>match o with
 | some a=>some (a,h)
 | none=>none
noncomputable def alloc (xs:List D):M R:=λh=>some (.loc h.length,h++[.lst xs])
structure Wk where
 xs:List Ite
 l:Option Nat
noncomputable def wkOf (r:R) (d:D):M Wk:=match items d with
 | some xs=>ok ⟨xs.map dI,match r with | .loc l=>some l | .d _=>none⟩
 | none=>match d with
  | .str x=>if fit x.length then ok ⟨(x.map λc=>D.str [c]).map dI,none⟩ else λ_=>none
  | _=>λ_=>none
noncomputable def zc5 (r:R):M (Option (List Nat)):=λh=>match r with
 | .loc l=>match h[l]? with
  | some (.ols ls)=>some (some ls,h)
  | _=>some (none,h)
 | .d _=>some (none,h)
noncomputable def zba (r:R):M Wk:=bnd (zc5 r) λo=>match o with
 | some ls=>ok ⟨ls.map λl=>.r (.loc l),match r with | .loc l=>some l | .d _=>none⟩
 | none=>bnd (rd r) λd=>wkOf r d
noncomputable def zfb (r:R):M Wk:=match r with
 | .d (.int n)=>if decide (-(2 ^ 62)<=n)&&decide (n<=16777216) then ok ⟨(zbf 0 n.toNat).map dI,none⟩ else λ_=>none
 | _=>λ_=>none
mutual
noncomputable def Tg.slots:Tg->List Nat
 | .name i=>[i]
 | .tup ts=>Tg.slotss ts
noncomputable def Tg.slotss:List Tg->List Nat
 | []=>[]
 | t::ts=>t.slots++Tg.slotss ts
end
noncomputable def clr:List Nat->Env->Env
 | [],σ=>σ
 | i::r,σ=>clr r (σ.set i none)
noncomputable abbrev Calls:=Nat->List R->M R
noncomputable def zdZ (x:R):M Unit:=λh=>match x with
 | .loc l=>match h[l]? with
  | some o=>if o.isL then some ((),h) else none
  | none=>none
 | .d _=>none
noncomputable def dRd (x:R):M (List (D×D)):=λh=>match x with
 | .loc l=>match h[l]? with
  | some (.dic kvs)=>some (kvs,h)
  | some (.dfr kvs)=>some (kvs,h)
  | _=>none
 | .d _=>none
noncomputable def dNew:M R:=λh=>some (.loc h.length,h++[.dic []])
noncomputable def kRd (x:R):M D:=λh=>match x with
 | .d k=>if zaq k then some (k,h) else none
 | .loc _=>none
noncomputable def dSet (x:R) (k v:D):M Unit:=λh=>match x with
 | .loc l=>match h[l]? with
  | some (.dic kvs)=>if decide (kvs.length<big) then some ((),h.set l (.dic (dPut k v kvs))) else none
  | _=>none
 | .d _=>none
noncomputable def zhm (x:R):M Wk:=λh=>match x with
 | .loc l=>match h[l]? with
  | some (.dfr kvs)=>some (⟨kvs.map λp=>dI p.1,some l⟩,h)
  | _=>none
 | .d _=>none
noncomputable def zcL (x:R):M Nat:=λh=>match x with
 | .loc l=>match h[l]? with
  | some (.ins _ _)=>some (l,h)
  | _=>none
 | .d _=>none
noncomputable def allocO (ls:List Nat):M R:=λh=>some (.loc h.length,h++[.ols ls])
noncomputable def meth:Me->R->List R->M R
 | .append,.loc l,[r]=>bnd (fz r) λd h=>match h[l]? with
  | some (.lst xs)=>if decide (xs.length<big) then some (.d .non,h.set l (.lst (xs++[d]))) else none
  | _=>none
 | .pop,.loc l,[]=>λh=>match h[l]? with
  | some (.lst xs)=>match xs[xs.length-1]? with
   | some y=>some (.d y,h.set l (.lst xs.dropLast))
   | none=>none
  | _=>none
 | .popAt,.loc l,[.d (.int i)]=>λh=>if decide (-(2 ^ 63)<=i)&&decide (i<2 ^ 63) then match h[l]? with
  | some (.lst xs)=>match ixn xs.length i with
   | some k=>match xs[k]? with
    | some y=>some (.d y,h.set l (.lst (xs.eraseIdx k)))
    | none=>none
   | none=>none
  | _=>none
  else none
 | .clear,.loc l,[]=>λh=>match h[l]? with
  | some (.lst xs)=>some (.d .non,h.set l (.lst []))
  | _=>none
 | .extend,.loc l,[r]=>bnd (rd r) λd h=>match d with
  | .lst ys=>match h[l]? with
   | some (.lst xs)=>if fit (xs.length+ys.length) then some (.d .non,h.set l (.lst (xs++ys))) else none
   | _=>none
  | _=>none
 | _,_,_=>λ_=>none
mutual
noncomputable def ev (Γ:Calls):E->Env->M R
 | .con d,_=>ok (.d d)
 | .var i,σ=>λh=>match σ[i]? with
  | some (some r)=>some (r,h)
  | _=>none
 | .bin o a b,σ=>bnd (ev Γ a σ) λx=>bnd (ev Γ b σ) λy=>bnd (rd x) λx=>bnd (rd y) λy=>bnd (opt (bop o x y)) λz=>ok (.d z)
 | .cmp o a b,σ=>bnd (ev Γ a σ) λx=>bnd (ev Γ b σ) λy=>bnd (rd x) λx=>bnd (rd y) λy=>bnd (opt (cop o x y)) λz=>ok (.d z)
 | .and a b,σ=>bnd (ev Γ a σ) λx=>match x with
  | .d (.bl c)=>if c then ev Γ b σ else ok (.d (.bl false))
  | _=>λ_=>none
 | .or a b,σ=>bnd (ev Γ a σ) λx=>match x with
  | .d (.bl c)=>if c then ok (.d (.bl true)) else ev Γ b σ
  | _=>λ_=>none
 | .not a,σ=>bnd (ev Γ a σ) λx=>bnd (rd x) λd=>bnd (opt (tru d)) λt=>ok (.d (.bl (!t)))
 | .ife c a b,σ=>bnd (tv Γ c σ) λt=>if t then ev Γ a σ else ev Γ b σ
 | .tup es,σ=>bnd (evs Γ es σ) λrs=>bnd (fzs rs) λds=>ok (.d (.tup ds))
 | .lst m l,σ=>bnd (evL Γ l σ) λxs=>if m then alloc xs else ok (.d (.lst xs))
 | .idx a i,σ=>bnd (ev Γ a σ) λx=>bnd (ev Γ i σ) λy=>bnd (rd x) λx=>bnd (rd y) λy=>bnd (opt (idxD x y)) λz=>ok (.d z)
 | .sli a lo hi,σ=>bnd (ev Γ a σ) λx=>bnd (ev Γ lo σ) λl=>bnd (ev Γ hi σ) λu=>bnd (rd x) λx=>bnd (rd l) λl=>bnd (rd u) λu=>bnd (opt (sliD x l u)) λz=>ok (.d z)
 | .call f es,σ=>bnd (evs Γ es σ) λrs=>Γ f rs
 | .bi b es,σ=>bnd (evs Γ es σ) λrs=>bnd (rds rs) λds=>bnd (opt (biD b ds)) λz=>ok (.d z)
 | .me m o es,σ=>bnd (ev Γ o σ) λx=>bnd (zdZ x) λ_=>bnd (evs Γ es σ) λrs=>meth m x rs
 | .glo d,_=>ok (.d d)
 | .isi t e,σ=>bnd (ev Γ e σ) λr=>bnd (rd r) λd=>ok (.d (.bl (isiD t d)))
 | .tm m o es,σ=>bnd (ev Γ o σ) λx=>bnd (evs Γ es σ) λrs=>bnd (rd x) λd=>bnd (rds rs) λds=>bnd (opt (tmD m d ds)) λz=>ok (.d z)
 | .lm m o a,σ=>bnd (ev Γ o σ) λx=>bnd (rd x) λ_=>bnd (ev Γ a σ) λy=>bnd (rd x) λx=>bnd (rd y) λy=>bnd (opt (lmD m x y)) λz=>ok (.d z)
 | .dnew,_=>dNew
 | .stuck,_=>λ_=>none
noncomputable def evs (Γ:Calls):List E->Env->M (List R)
 | [],_=>ok []
 | e::es,σ=>bnd (ev Γ e σ) λr=>bnd (evs Γ es σ) λrs=>ok (r::rs)
noncomputable def tv (Γ:Calls):T->Env->M Bool
 | .val e,σ=>bnd (ev Γ e σ) λr=>bnd (rd r) λd=>opt (tru d)
 | .and a b,σ=>bnd (tv Γ a σ) λt=>if t then tv Γ b σ else ok false
 | .or a b,σ=>bnd (tv Γ a σ) λt=>if t then ok true else tv Γ b σ
 | .not a,σ=>bnd (tv Γ a σ) λt=>ok (!t)
noncomputable def tvs (Γ:Calls):List T->Env->M Bool
 | [],_=>ok true
 | c::cs,σ=>bnd (tv Γ c σ) λt=>if t then tvs Γ cs σ else ok false
noncomputable def evL (Γ:Calls):L->Env->M (List D)
 | .disp es,σ=>bnd (evs Γ es σ) λrs=>fzs rs
 | .comp tg it c el,σ=>bnd (evI Γ it σ) λw=>turns w.l (λx=>bnd (zaw tg x (clr tg.slots σ)) λσ'=>bnd (tvs Γ c σ') λt=>if t then bnd (ev Γ el σ') λr=>bnd (fz r) λd=>ok (some d) else ok none) w.xs
 | .of e,σ=>bnd (ev Γ e σ) λr=>bnd (rd r) λd=>opt (items d)
 | .spl a b,σ=>bnd (ev Γ a σ) λx=>bnd (ev Γ b σ) λy=>bnd (rd x) λx=>bnd (rd y) λy=>opt (splD x y)
 | .sdi e,σ=>bnd (ev Γ e σ) λr=>bnd (dRd r) λkvs=>opt (zbN (kvs.map zcs))
 | .sst e,σ=>bnd (ev Γ e σ) λr=>bnd (rd r) λd=>opt (zbd d)
noncomputable def evI (Γ:Calls):I->Env->M Wk
 | .seq e,σ=>bnd (ev Γ e σ) λr=>zba r
 | .rng e,σ=>bnd (ev Γ e σ) λr=>zfb r
 | .dic e,σ=>bnd (ev Γ e σ) λr=>zhm r
noncomputable def fzs:List R->M (List D)
 | []=>ok []
 | r::rs=>bnd (fz r) λd=>bnd (fzs rs) λds=>ok (d::ds)
noncomputable def rds:List R->M (List D)
 | []=>ok []
 | r::rs=>bnd (rd r) λd=>bnd (rds rs) λds=>ok (d::ds)
end
set_option genInjectivity false in
inductive S where
 | asg (tg:Tg) (e:E)
 | setI (o i e:E)
 | exp (e:E)
 | ife (c:T) (a b:List S)
 | for (tg:Tg) (it:I) (body:List S)
 | ret (e:E)
 | brk
 | cnt
 | setD (o k e:E)
 | stuck
inductive Fl where
 | nx | ret (r:R) | brk | cnt
noncomputable def zec (x:R) (i:D) (d:D):M Unit:=λh=>match x,i with
 | .loc l,.int k=>match h[l]? with
  | some (.lst xs)=>match ixn xs.length k with
   | some j=>some ((),h.set l (.lst (xs.set j d)))
   | none=>none
  | _=>none
 | _,_=>none
noncomputable def loop (l:Option Nat) (f:Ite->Env->M (Fl×Env)):List Ite->Env->M (Fl×Env)
 | [],σ=>ok (.nx,σ)
 | x::xs,σ=>λh=>match f x σ h with
  | some ((fl,σ1),h1)=>match fl with
   | .ret r=>some ((.ret r,σ1),h1)
   | .brk=>some ((.nx,σ1),h1)
   | _=>if zaC l h h1 then loop l f xs σ1 h1 else none
  | none=>none
mutual
noncomputable def ex (Γ:Calls):S->Env->M (Fl×Env)
 | .asg tg e,σ=>bnd (ev Γ e σ) λr=>bnd (zaz tg r σ) λσ'=>ok (.nx,σ')
 | .setI o i e,σ=>bnd (ev Γ e σ) λr=>bnd (ev Γ o σ) λx=>bnd (ev Γ i σ) λy=>bnd (fz r) λd=>bnd (rd y) λy=>bnd (zec x y d) λ_=>ok (.nx,σ)
 | .exp e,σ=>bnd (ev Γ e σ) λ_=>ok (.nx,σ)
 | .ife c a b,σ=>bnd (tv Γ c σ) λt=>if t then exs Γ a σ else exs Γ b σ
 | .for tg it body,σ=>bnd (evI Γ it σ) λw=>loop w.l (λx σ=>bnd (zaw tg x σ) λσ'=>exs Γ body σ') w.xs σ
 | .ret e,σ=>bnd (ev Γ e σ) λr=>ok (.ret r,σ)
 | .brk,σ=>ok (.brk,σ)
 | .cnt,σ=>ok (.cnt,σ)
 | .setD o k e,σ=>bnd (ev Γ e σ) λr=>bnd (ev Γ o σ) λx=>bnd (ev Γ k σ) λy=>bnd (fz r) λd=>bnd (kRd y) λk=>bnd (dSet x k d) λ_=>ok (.nx,σ)
 | .stuck,_=>λ_=>none
noncomputable def exs (Γ:Calls):List S->Env->M (Fl×Env)
 | [],σ=>ok (.nx,σ)
 | s::r,σ=>bnd (ex Γ s σ) λp=>match p.1 with
  | .nx=>exs Γ r p.2
  | _=>ok p
end
structure F where
 np:Nat
 ns:Nat
 body:List S
 keep:Bool
 dfl:List D
 all:Bool:=false
noncomputable def zaD (np:Nat) (dfl:List D) (rs:List R):List R:=if rs.length+dfl.length<np then rs else rs++(dfl.drop (rs.length+dfl.length-np)).map R.d
noncomputable def R.same:R->R->Bool
 | .d x,y=>match y with
  | .d z=>D.same x z
  | _=>false
 | .loc l,y=>match y with
  | .loc k=>l==k
  | _=>false
noncomputable def zck:List (Str×R)->List (Str×R)->Bool
  | [],ys=>ys.isEmpty
  | (f,x)::r,ys=>match ys with
    | (g,y)::t=>f==g&&x.same y&&zck r t
    | []=>false
noncomputable def objs:Sto->Sto->Bool
 | [],_=>true
 | o::h,h1=>match h1 with
  | []=>false
  | o1::t=>(match o,o1 with
   | .ins c fs,.ins c1 fs1=>c==c1&&zck fs fs1
   | .ols a,.ols b=>a==b
   | .dic a,.dic b=>zaJ a b
   | .dfr a,.dfr b=>zaJ a b
   | .lst _,.lst _=>true
   | .lst _,.fro _=>true
   | .fro _,.lst _=>true
   | .fro _,.fro _=>true
   | _,_=>false)&&objs h t
noncomputable def fin0 (n0:Nat) (keep:Bool) (r:R) (h1:Sto):Option (R×Sto):=match r with
 | .d x=>some (.d x,h1.take n0)
 | .loc l=>if l<n0 then some (.loc l,h1.take n0) else match h1[l]? with
  | some (.lst xs)=>if keep then some (.loc n0,h1.take n0++[.lst xs]) else some (.d (.lst xs),h1.take n0)
  | some (.fro xs)=>some (.d (.lst xs),h1.take n0)
  | _=>none
noncomputable def fin (h:Sto) (all keep:Bool) (r:R) (h1:Sto):Option (R×Sto):=if all then some (r,h1) else if objs h h1 then fin0 h.length keep r h1 else none
noncomputable def zai (P:List F):Nat->Calls
 | 0,_,_=>λ_=>none
 | n + 1,f,rs=>λh=>match P[f]? with
  | some F=>if (zaD F.np F.dfl rs).length=F.np then match exs (zai P n) F.body ((zaD F.np F.dfl rs).map some++List.replicate (F.ns-F.np) none) h with
    | some ((.ret r,_),h1)=>fin h F.all F.keep r h1
    | some ((.nx,_),h1)=>fin h F.all F.keep (.d .non) h1
    | _=>none
   else none
  | none=>none
theorem za4 (P:List F) (n f:Nat) (rs:List R) (h:Sto):zai P (n+1) f rs h=match P[f]? with
  | some F=>if (zaD F.np F.dfl rs).length=F.np then match exs (zai P n) F.body ((zaD F.np F.dfl rs).map some++List.replicate (F.ns-F.np) none) h with
    | some ((.ret r,_),h1)=>fin h F.all F.keep r h1
    | some ((.nx,_),h1)=>fin h F.all F.keep (.d .non) h1
    | _=>none
   else none
  | none=>none:=rfl
end IT
namespace IT
open PySem
noncomputable def zaa (x:List Nat):Str:=⟨x.toArray⟩
theorem zae (x:List Nat):(zaa x).length=x.length:=by simp [zaa,Str.length]
theorem zch (h:zaa x=zaa y):x=y:=by
 have:=congrArg (λs:Str=>s.cps.toList) h
 simpa [zaa] using this
theorem zjI (x y:List Nat):zaa x++zaa y=zaa (x++y):=by
 show Str.append _ _=_;simp [zaa,Str.append]
mutual
noncomputable def KAt (h:Heap):D->Value->Prop
 | .int i,u=>∃ t,u=.int i t
 | .str x,u=>∃ t,u=.str (zaa x) t
 | .tup xs,u=>∃ a its,u=.ref a/\h.IsTuple a its/\KAts h xs its.toList
 | .non,_=>False
 | .bl _,_=>False
 | .lst _,_=>False
noncomputable def KAts (h:Heap):List D->List Value->Prop
 | [],us=>us=[]
 | x::xs,us=>∃ u r,us=u::r/\KAt h x u/\KAts h xs r
end
mutual
noncomputable def zaf (w:World):D->Int
 | .int i=>hashInt i
 | .str x=>hashStr w (zaa x)
 | .tup xs=>reduceHash (Builtin.Tuple.tupleHashOf (kHashs w xs))
 | .non=>0
 | .bl _=>0
 | .lst _=>0
noncomputable def kHashs (w:World):List D->List Int
 | []=>[]
 | x::xs=>zaf w x::kHashs w xs
end
mutual
noncomputable def zds:D->Nat
 | .tup xs=>kDrawss xs+1
 | .int _=>1
 | .str _=>1
 | .non=>1
 | .bl _=>1
 | .lst _=>1
noncomputable def kDrawss:List D->Nat
 | []=>0
 | x::xs=>zds x+kDrawss xs
end
theorem zdB:∀ xs ys:List D,kDrawss (xs++ys)=kDrawss xs+kDrawss ys
 | [],ys=>by simp [kDrawss]
 | x::xs,ys=>by simp only [List.cons_append,kDrawss,zdB xs ys];omega
theorem zem (w:World):∀ xs ys:List D,kHashs w (xs++ys)=kHashs w xs++kHashs w ys
 | [],ys=>rfl
 | x::xs,ys=>by simp only [List.cons_append,kHashs,zem w xs ys]
mutual
theorem KAt.keep (k:∀ a its,h.IsTuple a its->h'.IsTuple a its):∀ (x:D) (u:Value),KAt h x u->KAt h' x u
 | .int _,_,q=>by simp only [KAt] at q ⊢;exact q
 | .str _,_,q=>by simp only [KAt] at q ⊢;exact q
 | .tup xs,_,q=>by
  simp only [KAt] at q ⊢;obtain ⟨a,its,e,t,r⟩:=q;exact ⟨a,its,e,k a its t,KAts.keep k xs _ r⟩
 | .non,_,q=>by simp only [KAt] at q
 | .bl _,_,q=>by simp only [KAt] at q
 | .lst _,_,q=>by simp only [KAt] at q
theorem KAts.keep (k:∀ a its,h.IsTuple a its->h'.IsTuple a its):∀ (x:List D) (u:List Value),KAts h x u->KAts h' x u
 | [],_,q=>by simp only [KAts] at q ⊢;exact q
 | x::xs,_,q=>by
  simp only [KAts] at q ⊢;obtain ⟨u,r,e,q1,q2⟩:=q;exact ⟨u,r,e,KAt.keep k x u q1,KAts.keep k xs r q2⟩
end
theorem zex {h:Heap} (p:h.IsTuple a xs) (q:h.IsTuple a ys):xs=ys:=by
 obtain ⟨o,e,_,n,d⟩:=p;obtain ⟨o',e',_,n',d'⟩:=q
 rw [e] at e';cases e';rw [d] at d';cases d';rfl
mutual
theorem KAt.inj {h:Heap}:∀ (x y:D) (u:Value),KAt h x u->KAt h y u->x=y
 | .int a,y,u,p,q=>by
  simp only [KAt] at p;obtain ⟨t,rfl⟩:=p
  cases y<;>simp [KAt] at q
  rw [q]
 | .str a,y,u,p,q=>by
  simp only [KAt] at p;obtain ⟨t,rfl⟩:=p
  cases y<;>simp [KAt] at q
  rw [zch q]
 | .tup a,y,u,p,q=>by
  simp only [KAt] at p;obtain ⟨c,its,rfl,t,r⟩:=p
  cases y with
  | tup b=>
   simp only [KAt] at q;obtain ⟨c',its',e,t',r'⟩:=q;cases e
   have:=zex t t'
   subst this;rw [KAts.inj a b _ r r']
  | _=>simp [KAt] at q
 | .non,_,_,p,_=>by simp only [KAt] at p
 | .bl _,_,_,p,_=>by simp only [KAt] at p
 | .lst _,_,_,p,_=>by simp only [KAt] at p
theorem KAts.inj:∀ (x y:List D) (u:List Value),KAts h x u->KAts h y u->x=y
 | [],[],_,_,_=>rfl
 | [],_::_,_,p,q=>by
  simp only [KAts] at p q;subst p;obtain ⟨_,_,e,_⟩:=q;cases e
 | _::_,[],_,p,q=>by
  simp only [KAts] at p q;subst q;obtain ⟨_,_,e,_⟩:=p;cases e
 | x::xs,y::ys,_,p,q=>by
  simp only [KAts] at p q;obtain ⟨u,r,rfl,p1,p2⟩:=p;obtain ⟨u',r',e,q1,q2⟩:=q;cases e;rw [KAt.inj x y u p1 q1,KAts.inj xs ys r p2 q2]
end
theorem KAts.length:∀ {x:List D} {u:List Value},KAts h x u->x.length=u.length
 | [],_,q=>by simp only [KAts] at q;subst q;rfl
 | x::xs,_,q=>by
  simp only [KAts] at q;obtain ⟨u,r,rfl,_,q⟩:=q;simp only [List.length_cons,KAts.length q]
theorem KAts.at:∀ {x:List D} {u:List Value},KAts h x u->∀ (j:Nat) (d:D),x[j]?=some d->∃ v,u[j]?=some v/\KAt h d v
 | [],_,_,j,d,e=>by simp at e
 | x::xs,_,q,j,d,e=>by
  simp only [KAts] at q;obtain ⟨u,r,rfl,q1,q2⟩:=q
  cases j with
  | zero=>simp at e;subst e;exact ⟨u,rfl,q1⟩
  | succ j=>simp at e;simpa using KAts.at q2 j d e
theorem zhl:∀ {xs:List D} {x:D} {i:Nat},xs[i]?=some x->x.dep<=D.deps xs
 | [],x,i,e=>by simp at e
 | y::xs,x,i,e=>by
  cases i with
  | zero=>simp at e;subst e;simp only [D.deps];omega
  | succ i=>simp at e;have:=zhl e;simp only [D.deps];omega
noncomputable def zd6 (xs ys:List D) (j:Nat):Bool:=match xs[j]?,ys[j]? with
 | some x,some y=>x.same y
 | _,_=>false
theorem zgr:∀ xs ys:List D,((List.range (min xs.length ys.length)).all (zd6 xs ys)&&xs.length==ys.length)=D.sames xs ys
 | [],[]=>rfl
 | [],_::_=>by simp [D.sames]
 | _::_,[]=>by simp [D.sames]
 | x::xs,y::ys=>by
  have ih:=zgr xs ys
  have e:min (x::xs).length (y::ys).length=min xs.length ys.length+1:=by simp only [List.length_cons];omega
  rw [e,List.range_succ_eq_map,List.all_cons,List.all_map,D.sames,<-ih]
  have e2:(zd6 (x::xs) (y::ys)∘Nat.succ)=zd6 xs ys:=by funext j;rfl
  rw [e2];show (x.same y&&_&&_)=_;rw [Bool.and_assoc]
  congr 2
  simp
theorem zcw {x y:D} (h:x≠y):x.same y=false:=by
 cases e:x.same y
 ·rfl
 ·exact absurd (D.same_eq x y e) h
open SeqAt in
theorem kEq {s:Shared}:∀ (n:Nat) (x y:D) (A:Around) (u v:Value),x.dep<=n->KAt s.heap x u->KAt s.heap y v->A.units+n<cLine->EqAt A s u v (x.same y)
 | n,.int a,y,A,u,v,hn,p,q,hu=>by
  simp only [KAt] at p;obtain ⟨t,rfl⟩:=p
  cases y with
  | int b=>simp only [KAt] at q;obtain ⟨t',rfl⟩:=q;exact EqAt.int_int a t b t'
  | str b=>simp only [KAt] at q;obtain ⟨t',rfl⟩:=q;exact EqAt.int_str a t _ t'
  | tup b=>simp only [KAt] at q;obtain ⟨c,its,rfl,t',_⟩:=q;exact EqAt.int_tuple a t t' (by omega)
  | _=>simp [KAt] at q
 | n, .str a,y,A,u,v,hn,p,q,hu=>by
  simp only [KAt] at p;obtain ⟨t,rfl⟩:=p
  cases y with
  | int b=>simp only [KAt] at q;obtain ⟨t',rfl⟩:=q;exact EqAt.str_int _ t b t'
  | str b=>
   simp only [KAt] at q;obtain ⟨t',rfl⟩:=q
   have z:=EqAt.str_str (A:=A) (s:=s) (zaa a) t (zaa b) t'
   have e:(zaa a==zaa b)=(D.str a).same (D.str b):=by
    show _=(a==b)
    by_cases h:a=b
    ·subst h;simp
    ·rw [beq_eq_false_iff_ne.mpr h,beq_eq_false_iff_ne.mpr λz=>h (zch z)]
   rw [e] at z;exact z
  | tup b=>simp only [KAt] at q;obtain ⟨c,its,rfl,t',_⟩:=q;exact EqAt.str_tuple _ t t' (by omega)
  | _=>simp [KAt] at q
 | n, .tup a,y,A,u,v,hn,p,q,hu=>by
  simp only [KAt] at p;obtain ⟨c,its,rfl,t,r⟩:=p
  cases y with
  | int b=>simp only [KAt] at q;obtain ⟨t',rfl⟩:=q;exact EqAt.tuple_int b t' t (by omega)
  | str b=>simp only [KAt] at q;obtain ⟨t',rfl⟩:=q;exact EqAt.tuple_str _ t' t (by omega)
  | tup b=>
   simp only [KAt] at q;obtain ⟨c',its',rfl,t',r'⟩:=q
   by_cases hc:c=c'
   ·subst hc
    have e1:=zex t t';subst e1;have e2:=KAts.inj a b _ r r';subst e2;exact (show D.same (.tup a) (.tup a)=true from D.same_refl _)▸EqAt.same _
   ·refine EqAt.of_refs hc ?_
    match n,hn with
    | 0,hn=>simp only [D.dep] at hn;omega
    | n + 1,hn=>
     have l1:=r.length;have l2:=r'.length
     have z:=RcAt.tuples (A:=A) (e:=zd6 a b) t t' (by omega) (λj h1 h2=>by
      have j1:j<a.length:=by rw [l1];simpa using h1
      have j2:j<b.length:=by rw [l2];simpa using h2
      obtain ⟨w,e3,k3⟩:=r.at j _ (List.getElem?_eq_getElem j1);obtain ⟨w',e4,k4⟩:=r'.at j _ (List.getElem?_eq_getElem j2);have hd:=zhl (List.getElem?_eq_getElem j1)
      have ih:=kEq n (a[j]) (b[j]) A.in1 w w' (by simp only [D.dep] at hn;omega) k3 k4 (by show A.units+1+n<cLine;omega)
      have e5:zd6 a b j=(a[j]).same (b[j]):=by simp [zd6,List.getElem?_eq_getElem j1,List.getElem?_eq_getElem j2]
      rw [e5]
      have e6:its[j]=w:=by
       have:=List.getElem?_eq_some_iff.mp e3
       obtain ⟨_,e⟩:=this
       simpa using e
      have e7:its'[j]=w':=by
       obtain ⟨_,e⟩:=List.getElem?_eq_some_iff.mp e4
       simpa using e
      rw [e6,e7]
      exact ih)
     have e8:((List.range (min its.size its'.size)).all (zd6 a b)&&its.size==its'.size)=D.sames a b:=by
      rw [<-zgr,l1,l2];simp
     rw [e8] at z;exact z
  | _=>simp [KAt] at q
 | _,.non,_,_,_,_,_,p,_,_=>by simp only [KAt] at p
 | _,.bl _,_,_,_,_,_,p,_,_=>by simp only [KAt] at p
 | _,.lst _,_,_,_,_,_,p,_,_=>by simp only [KAt] at p
theorem zaG {s:Shared} (t:s.heap.IsTuple a its):s.TypeIs (.ref a) "tuple":=let ⟨o,e,c,_⟩:=t;⟨o,e,c⟩
section
variable {prog:Program} {w:World} {E:Value->Shared->Prop}
theorem ze3:∀ (n:Nat) (x:D) (A:Around) (s:Shared) (u:Value) (Q:Int->Shared->Prop),x.dep<=n->KAt s.heap x u->A.units+n<cLine->Q (zaf w x) { s with toks:=s.toks+zds x } →
  wpAny (model prog w) A (pyHash u) Q E s
 | n,.int a,A,s,u,Q,hn,p,hu,q=>by
  simp only [KAt] at p;obtain ⟨t,rfl⟩:=p;exact wpAny_pyHash_int q
 | n,.str a,A,s,u,Q,hn,p,hu,q=>by
  simp only [KAt] at p;obtain ⟨t,rfl⟩:=p;exact wpAny_pyHash_str q
 | 0,.tup a,A,s,u,Q,hn,p,hu,q=>by simp only [D.dep] at hn;omega
 | n + 1,.tup a,A,s,u,Q,hn,p,hu,q=>by
  simp only [KAt] at p;obtain ⟨c,its,rfl,t,r⟩:=p;have T:=zaG t;obtain ⟨o,ho,_,m,hd⟩:=t
  have hdep:D.deps a<=n:=by simp only [D.dep] at hn;omega
  unfold pyHash
  first | unfold pyHashByItsType | skip
  first | refine wpAny_bind (wpAny_cRoomFor_or (.inr (show A.units<cLine by omega)) ?_) | skip
  refine wpAny_bind (wpAny_specialOf T F.slot_tuple_hash.lookup ?_);show wpAny _ _ (if (some (Value.builtin "tuple.__hash__")==some Value.none)=true then _ else _) Q E _
  rw [if_neg (by rw [beq_builtin_none];exact Bool.false_ne_true)]
  refine wpAny_bind (wpAny_specialOf T F.slot_tuple_hash.lookup ?_);show wpAny _ _ (callSpecialIfBoundUnlessNone? (.ref c) "__hash__" _ >>= _) Q E _;refine wpAny_bind (wpAny_callSpecialIfBoundUnlessNone?_slot T F.slot_tuple_hash (wpAny_call_entry F.slot_tuple_hash T F.entry_tuple_hash ?_ (F.args_tuple_hash_1 _)));show wpAny _ A.in1 (Builtin.Tuple.tupleItemsOf (.ref c) >>= _) _ _ _;refine wpAny_bind (wpAny_tupleItemsOf ho hd (wpAny_bind ?_));rw [<-Array.forIn_toList];refine wpAny_forIn_list _ (λrest (b:Array Int) s1=>∃ done left,a=done++left/\KAts s.heap left rest/\b.toList=kHashs w done/\s1={ s with toks:=s.toks+kDrawss done }) _ ?_ ?_ _ _ ⟨[],a,rfl,r,rfl,rfl⟩
  ·rintro v rest b s1 ⟨done,left,rfl,hl,hb,rfl⟩
   cases left with
   | nil=>simp only [KAts] at hl;cases hl
   | cons k ks=>
    simp only [KAts] at hl;obtain ⟨v',rest',ez,k1,k2⟩:=hl;cases ez
    have hk:k.dep<=n:=by
     have:=zhl (xs:=done++k::ks) (x:=k) (i:=done.length) (by simp)
     omega
    refine wpAny_bind (ze3 n k A.in1 _ v _ hk k1 (by show A.units+1+n<cLine;omega) ?_)
    have fin:∃ d2 l2,done++k::ks=d2++l2/\KAts s.heap l2 rest/\(b.push (zaf w k)).toList=kHashs w d2/\({ s with toks:=s.toks+kDrawss done+zds k }:Shared)={ s with toks:=s.toks+kDrawss d2 }:=
     ⟨done++[k],ks,by simp,k2,by simp [hb,zem,kHashs],by simp [zdB,kDrawss,Nat.add_assoc]⟩
    first | exact wpAny_pure fin | exact wpAny_bind (wpAny_pure (wpAny_pure fin))
  ·rintro b s1 ⟨done,left,rfl,hl,hb,rfl⟩
   cases left with
   | cons k ks=>simp only [KAts] at hl;obtain ⟨_,_,ez,_⟩:=hl;cases ez
   | nil=>
    rw [List.append_nil] at q;show wpAny _ _ (retInt (Builtin.Tuple.tupleHashOf b.toList)) _ _ _;rw [hb];refine wpAny_ret_mkInt ?_
    have q2:Q (reduceHash (Builtin.Tuple.tupleHashOf (kHashs w done))) { s with toks:=s.toks+(kDrawss done+1) }:=by
     simp only [zaf,zds] at q;exact q
    clear q;unfold reduceHash at q2;generalize Builtin.Tuple.tupleHashOf (kHashs w done)=z at q2 ⊢;show wpAny _ _ (if (decide (-(2:Int) ^ 63<=z)&&decide (z<2 ^ 63))=true then _ else _) Q E _
    by_cases hr:(decide (-(2:Int) ^ 63<=z)&&decide (z<2 ^ 63))=true
    ·rw [if_pos hr] at q2 ⊢
     exact wpAny_pure (by simpa [Nat.add_assoc] using q2)
    ·rw [if_neg hr] at q2 ⊢
     exact wpAny_bind (wpAny_rule (wpAny_pure (by simpa [Nat.add_assoc] using q2)))
 | _,.non,_,_,_,_,_,p,_,_=>by simp only [KAt] at p
 | _,.bl _,_,_,_,_,_,p,_,_=>by simp only [KAt] at p
 | _,.lst _,_,_,_,_,_,p,_,_=>by simp only [KAt] at p
theorem zh6:∀ (n:Nat) (x:D) (A:Around) (s:Shared) (u:Value) (Q:Bool->Shared->Prop),x.dep<=n->KAt s.heap x u->Q true s->wpAny (model prog w) A (eqIsQuiet n u) Q E s
 | n,.int a,A,s,u,Q,hn,p,q=>by
  simp only [KAt] at p;obtain ⟨t,rfl⟩:=p;rw [eqIsQuiet_byValue n rfl];exact wpAny_pure q
 | n,.str a,A,s,u,Q,hn,p,q=>by
  simp only [KAt] at p;obtain ⟨t,rfl⟩:=p;rw [eqIsQuiet_byValue n rfl];exact wpAny_pure q
 | 0,.tup a,A,s,u,Q,hn,p,q=>by simp only [D.dep] at hn;omega
 | n + 1,.tup a,A,s,u,Q,hn,p,q=>by
  simp only [KAt] at p;obtain ⟨c,its,rfl,t,r⟩:=p;have T:=zaG t;obtain ⟨o,ho,_,m,hd⟩:=t
  have hdep:D.deps a<=n:=by simp only [D.dep] at hn;omega
  unfold eqIsQuiet;refine wpAny_bind (wpAny_specialOf T F.slot_tuple_eq.lookup ?_);show wpAny _ _ (isInstance (.ref c) (.type "tuple") >>= _) _ _ _;refine wpAny_bind (wpAny_isInstance T isSubtype_tuple_tuple ?_);simp only [Bool.not_true,Bool.false_eq_true,if_false];refine wpAny_bind (wpAny_seqItems ho hd (wpAny_bind ?_));show wpAny _ _ (forIn its _ _) _ _ _;rw [<-Array.forIn_toList];refine wpAny_forIn_list _ (λrest r s1=>r.1=none/\s1=s/\∃ left,D.deps left<=n/\KAts s.heap left rest) _ ?_ ?_ _ _ ⟨rfl,rfl,a,hdep,r⟩
  ·rintro v rest r s1 ⟨hr,rfl,left,hl,hk⟩
   cases left with
   | nil=>simp only [KAts] at hk;cases hk
   | cons k ks=>
    simp only [KAts] at hk;obtain ⟨v',rest',ez,k1,k2⟩:=hk;cases ez;simp only [D.deps] at hl;refine wpAny_bind (zh6 n k A _ v _ (by omega) k1 ?_);simp only [Bool.not_true,Bool.false_eq_true,if_false];exact wpAny_pure ⟨rfl,rfl,ks,by omega,k2⟩
  ·rintro ⟨r1,r2⟩ s1 ⟨hr,rfl,_⟩
   simp only at hr;subst hr;exact wpAny_pure q
 | _,.non,_,_,_,_,_,p,_=>by simp only [KAt] at p
 | _,.bl _,_,_,_,_,_,p,_=>by simp only [KAt] at p
 | _,.lst _,_,_,_,_,_,p,_=>by simp only [KAt] at p
end
noncomputable instance:DecidableEq D:=λx y=>if h:x.same y=true then isTrue (D.same_eq x y h) else isFalse λe=>h (e▸D.same_refl x)
theorem zdG (x y:D):x.same y=decide (x=y):=by
 by_cases h:x=y
 ·subst h;rw [D.same_refl,decide_eq_true rfl]
 ·rw [zcw h,decide_eq_false h]
theorem zkv (ho:h.get? d=some o) (hd:o.data=.dict es ep) (hs:Heap.SameBut d h h') (a:Addr) (its:Array Value) (t:h.IsTuple a its):h'.IsTuple a its:=by
 obtain ⟨o',e,c,n,dt⟩:=t
 have ne:a≠d:=by
  rintro rfl
  rw [ho] at e;cases e
  rw [hd] at dt;cases dt
 exact ⟨o',(hs.2 a ne).trans e,c,n,dt⟩
noncomputable def dKind (prog:Program) (w:World):HeapKind prog w D where
 is:=λh x a=>x.dep<=8/\KAt h x (.ref a)
 hash:=zaf w
 draws:=zds
 room:=λA=>A.units+8<cLine
 inj:=λhx hy=>KAt.inj _ _ _ hx.2 hy.2
 keeps:=λx ho hd hs=>⟨x.1,KAt.keep (zkv ho hd hs) _ _ x.2⟩
 pyHash:=λhu hk q=>ze3 8 _ _ _ _ _ hk.1 hk.2 hu q
 eqBool:=λhu hx hy q=>kEq 8 _ _ _ _ _ hx.1 hx.2 hy.2 hu _ _ _ _ (by rw [zdG];exact q)
 quiet:=λhk q=>zh6 8 _ _ _ _ _ hk.1 hk.2 q
end IT
namespace L2
open PySem PySem.Spec PyProof.Rows
noncomputable abbrev Key:=Sum Int Str
noncomputable def zpH:Key->Value->Bool
 | .inl k,v=>Value.isInt k v
 | .inr x,v=>Value.isStrOf x v
noncomputable def keyH (w:World):Key->Int
 | .inl k=>hashInt k
 | .inr x=>hashStr w x
theorem zat:∀ {k:Key} {v:Value},zpH k v=true->(∃ i t,k=Sum.inl i/\v=Value.int i t)\/(∃ x t,k=Sum.inr x/\v=Value.str x t)
 | .inl i,v,h=>by
  obtain ⟨t,e⟩:=Value.isInt_shape (k:=i) (v:=v) h;exact .inl ⟨i,t,rfl,e⟩
 | .inr x,v,h=>by
  obtain ⟨t,e⟩:=Value.isStrOf_shape (x:=x) (v:=v) h;exact .inr ⟨x,t,rfl,e⟩
theorem zqC (a b:Int):decide ((Sum.inl a:Key)=Sum.inl b)=(a==b):=by
 by_cases e:a=b
 ·subst e;simp
 ·have h:¬ (Sum.inl a:Key)=Sum.inl b:=λq=>e (Sum.inl.inj q)
  rw [decide_eq_false h];exact (beq_eq_false_iff_ne.mpr e).symm
theorem zqs (a b:Str):decide ((Sum.inr a:Key)=Sum.inr b)=decide (a=b):=by
 by_cases e:a=b
 ·subst e;simp
 ·have h:¬ (Sum.inr a:Key)=Sum.inr b:=λq=>e (Sum.inr.inj q)
  rw [decide_eq_false h,decide_eq_false e]
theorem zrJ (a:Int) (b:Str):decide ((Sum.inl a:Key)=Sum.inr b)=false:=decide_eq_false (λq=>nomatch q)
theorem zrb (a:Str) (b:Int):decide ((Sum.inr a:Key)=Sum.inl b)=false:=decide_eq_false (λq=>nomatch q)
noncomputable def zkj (prog:Program) (w:World):PySem.KeyKind prog w Key where
 is:=zpH
 hash:=keyH w
 inj:=λv a b ha hb=>by
  rcases zat ha with ⟨i,t,rfl,rfl⟩ | ⟨x,t,rfl,rfl⟩
  ·rcases zat hb with ⟨j,u,rfl,e⟩ | ⟨y,u,rfl,e⟩
   ·injection e with e1 _;rw [e1]
   ·exact nomatch e
  ·rcases zat hb with ⟨j,u,rfl,e⟩ | ⟨y,u,rfl,e⟩
   ·exact nomatch e
   ·injection e with e1 _;rw [e1]
 byValue:=λk v h=>by
  rcases zat h with ⟨i,t,rfl,rfl⟩ | ⟨x,t,rfl,rfl⟩<;>rfl
 pyHash:=λhv h=>by
  rcases zat hv with ⟨i,t,rfl,rfl⟩ | ⟨x,t,rfl,rfl⟩
  ·exact wpAny_pyHash_int h
  ·exact wpAny_pyHash_str h
 eqBool:=λhu hv h=>by
  rcases zat hu with ⟨i,t,rfl,rfl⟩ | ⟨x,t,rfl,rfl⟩
  ·rcases zat hv with ⟨j,u,rfl,rfl⟩ | ⟨y,u,rfl,rfl⟩
   ·rw [zqC] at h;exact wpAny_eqBool_int h
   ·rw [zrJ] at h;exact SeqAt.EqAt.int_str i t y u _ _ _ _ h
  ·rcases zat hv with ⟨j,u,rfl,rfl⟩ | ⟨y,u,rfl,rfl⟩
   ·rw [zrb] at h;exact SeqAt.EqAt.str_int x t j u _ _ _ _ h
   ·rw [zqs] at h;exact wpAny_eqBool_str h
 «strs»:=λk x t v h=>by
  rcases zat h with ⟨i,u,rfl,e⟩ | ⟨y,u,rfl,e⟩
  ·exact nomatch e
  ·injection e with e1 _
   subst e1
   cases v<;>rfl
inductive V where
 | non | bl (b:Bool) | int (i:Int) | str (x:Str) | byt (b:Array UInt8) | flt (b:UInt64) | ref (a:Addr) | ty (n:String)
 deriving DecidableEq
noncomputable def RelV:V->Value->Prop
 | .non,u=>u=Value.none
 | .bl b,u=>u=Value.bool b
 | .int i,u=>∃ t,u=Value.int i t
 | .str x,u=>∃ t,u=Value.str x t
 | .byt b,u=>∃ t,u=Value.bytes b t
 | .flt b,u=>∃ t,u=Value.float b t
 | .ref a,u=>u=Value.ref a
 | .ty n,u=>u=Value.type n
noncomputable abbrev Vals:List V->List Value->Prop:=Paired RelV
theorem Vals.length {xs:List V} {us:List Value} (r:Vals xs us):xs.length=us.length:=Paired.length r
theorem Vals.get:∀ {xs:List V} {us:List Value} {i:Nat} {x:V},Vals xs us->xs[i]?=some x->∃ u,us[i]?=some u/\RelV x u
 | _,_,_,_,.nil,e=>by simp at e
 | _,_,0,_,.cons r _,e=>by simp at e;subst e;exact ⟨_,rfl,r⟩
 | _,_,i+1,x,.cons _ t,e=>by
  obtain ⟨u,h1,h2⟩:=Vals.get (i:=i) (x:=x) t (by simpa using e);exact ⟨u,by simpa using h1,h2⟩
theorem Vals.set {x:V} {u:Value} (r:RelV x u):∀ {xs:List V} {us:List Value} (i:Nat),Vals xs us->Vals (xs.set i x) (us.set i u)
 | _,_,_,.nil=>.nil
 | _,_,0,.cons _ t=>.cons r t
 | _,_,i+1,.cons q t=>.cons q (Vals.set r i t)
theorem Vals.append:∀ {xs ys:List V} {us ws:List Value},Vals xs us->Vals ys ws->Vals (xs++ys) (us++ws)
 | _,_,_,_,.nil,s=>s
 | _,_,_,_,.cons r t,s=>.cons r (Vals.append t s)
theorem Vals.take:∀ {xs:List V} {us:List Value} (n:Nat),Vals xs us->Vals (xs.take n) (us.take n)
 | _,_,0,_=>.nil
 | _,_,_+1,.nil=>.nil
 | _,_,n+1,.cons r t=>.cons r (Vals.take n t)
theorem Vals.drop:∀ {xs:List V} {us:List Value} (n:Nat),Vals xs us->Vals (xs.drop n) (us.drop n)
 | _,_,0,r=>r
 | _,_,_+1,.nil=>.nil
 | _,_,n+1,.cons _ t=>Vals.drop n t
noncomputable def RelO:Option V->Option Value->Prop
 | some v,some u=>RelV v u
 | none,none=>True
 | _,_=>False
noncomputable def KV {κ:Type}:List (κ×V)->List (κ×Value)->Prop:=Paired λ(p:κ×V) (q:κ×Value)=>p.1=q.1/\RelV p.2 q.2
noncomputable def kV:Key->V
 | .inl i=>.int i
 | .inr x=>.str x
inductive HO where
 | lst (xs:List V)
 | tup (xs:List V)
 | dK (kvs:List (Key×V)) | dT (kvs:List (IT.D×Addr×V))
 | set (S:Int->Bool) (n:Nat)
 | ins (C dx:Addr) (fs:List (Str×V))
 | own (x:Addr)
 | xd (fs:List (Str×V))
 | met (f x:Addr)
 | rng (lo hi:Int)
 | frz (o:Obj) (u:HO)
 | tbl (ps:Array Value)
 | ext (φ:Heap->Prop)
noncomputable abbrev Hp:=Addr->Option HO
noncomputable def upd (H:Hp) (a:Addr) (o:HO):Hp:=λb=>if b=a then some o else H b
theorem zaj {H:Hp} {a:Addr} {o:HO}:upd H a o a=some o:=by unfold upd;rw [if_pos rfl]
theorem zao {H:Hp} {a b:Addr} {o:HO} (h:b≠a):upd H a o b=H b:=by unfold upd;rw [if_neg h]
theorem zap {H:Hp} {a b:Addr} {o:HO} (h:H a=some o) (h':H b=none):a≠b:=by
 intro e;subst e;rw [h] at h';cases h'
section
variable (P:Program) (w:World)
noncomputable def zbm (h:Heap) (a:Addr) (items:Array Value):Prop:=IsTup h a items/\∀ o,h.get? a=some o->o.dict=none
theorem zbm.new (h:Heap) (items:Array Value):zbm (h.push { cls:=.type "tuple",data:=.seq items }) h.objs.size items:=⟨IsTup.new h items,λo e=>by rw [Heap.get?_push_size _ rfl] at e;cases e;rfl⟩
noncomputable def zaR (H:Hp) (h:Heap) (a:Addr):HO->Prop
 | .lst xs=>xs.length<=sizeLine/\∃ (its:List Value) (n:Nat),Vals xs its/\h.get? a=some { cls:=.type "list",data:=.seq its.toArray n }
 | .tup xs=>xs.length<=sizeLine/\∃ its:List Value,Vals xs its/\zbm h a its.toArray
 | .dK kvs=>kvs.length<=sizeLine/\(a==sysModules)=false/\∃ vs,KV kvs vs/\h.DictOf (zkj P w) a vs
 | .dT kvs=>kvs.length<=sizeLine/\(a==sysModules)=false/\∃ xs:List (IT.D×Addr×Value),Paired (λ(p:IT.D×Addr×V) (q:IT.D×Addr×Value)=>p.1=q.1/\p.2.1=q.2.1/\RelV p.2.2 q.2.2) kvs xs ∧
   ∃ o es ep,h.get? a=some o/\o.ExactDict/\o.data=.dict es ep/\es.toList=xs.map (entryOfKey (IT.dKind P w))/\(xs.map (·.1)).Nodup
 | .set S n=>h.SetOf (intKind P w) a S n
 | .ins C dx fs=>H dx=some (.own a)/\fs.length<=1000/\dx≠a/\h.get? a=some (PySem.W.instObj C dx) ∧
   ∃ mA,h.Ns1 dx mA/\(∀ f,RelO (fs.lookup f) (mA f))/\PySem.Within mA (fs.map (·.1))
 | .own _=>∃ o,h.get? a=some o
 | .xd fs=>∃ mA,h.Ns1 a mA/\∀ f,RelO (fs.lookup f) (mA f)
 | .rng lo hi=>∃ t u v,h.get? a=some { cls:=.type "range",data:=.fields #[.int lo t,.int hi u,.int 1 v] }
 | .frz o u=>h.get? a=some o/\zaR H h a u
 | .tbl ps=>h.get? a=some { cls:=.none,data:=.fields ps }
 | .met f x=>h.get? a=some (PySem.W.methodObj (.ref f) (.ref x))
 | .ext φ=>φ h/\(∃ o,h.get? a=some o)/\∀ h1 h2:Heap,φ h1->(∀ o,h1.get? a=some o->h2.get? a=some o)->φ h2
noncomputable def HOk (H:Hp) (h:Heap):Prop:=∀ a o,H a=some o->zaR P w H h a o
end
section
variable {P:Program} {w:World} {H H':Hp} {h h':Heap} {a:Addr} {o:HO}
theorem zaR.lt (x:zaR P w H h a o):a<h.objs.size:=by
 cases o with
 | lst xs=>obtain ⟨_,_,_,_,e⟩:=x;exact Heap.lt_size e
 | tup xs=>obtain ⟨_,_,_,p⟩:=x;exact p.1.lt
 | dK kvs=>obtain ⟨_,_,_,_,o,_,_,e,_⟩:=x;exact Heap.lt_size e
 | dT kvs=>obtain ⟨_,_,_,_,o,_,_,e,_⟩:=x;exact Heap.lt_size e
 | set S n=>obtain ⟨o,_,_,_,e,_⟩:=x;exact Heap.lt_size e
 | ins C dx fs=>obtain ⟨_,_,_,e,_⟩:=x;exact Heap.lt_size e
 | own y=>obtain ⟨_,e⟩:=x;exact Heap.lt_size e
 | xd fs=>obtain ⟨_,⟨_,_,_,e,_⟩,_⟩:=x;exact Heap.lt_size e
 | rng lo hi=>obtain ⟨_,_,_,e⟩:=x;exact Heap.lt_size e
 | frz ob u=>obtain ⟨e,_⟩:=x;exact Heap.lt_size e
 | tbl ps=>exact Heap.lt_size (show h.get? a=some _ from x)
 | met f y=>exact Heap.lt_size (show h.get? a=some _ from x)
 | ext φ=>obtain ⟨_,⟨_,e⟩,_⟩:=x;exact Heap.lt_size e
theorem Paired.mapP {α β:Type} {F G:α->β->Prop}:∀ {l₁:List α} {l₂:List β},Paired F l₁ l₂->(∀ a b,F a b->G a b)->Paired G l₁ l₂
 | _,_,.nil,_=>.nil
 | _,_,.cons r t,f=>.cons (f _ _ r) (Paired.mapP t f)
theorem zaR.stay (x:zaR P w H h a o) (k:∀ b u,(b=a\/H b=some (.own a))->h.get? b=some u->h'.get? b=some u)
  (ho:∀ b,H b=some (.own a)->H' b=some (.own a)) (ht:∀ b xs,H b=some (.tup xs)->H' b=some (.tup xs)):zaR P w H' h' a o:=by
 induction o with
 | lst xs=>obtain ⟨z,its,n,r,e⟩:=x;exact ⟨z,its,n,r,k _ _ (.inl rfl) e⟩
 | tup xs=>obtain ⟨z,its,r,⟨ob,e,c⟩,dd⟩:=x;exact ⟨z,its,r,⟨ob,k _ _ (.inl rfl) e,c⟩,λo2 e2=>by rw [k _ _ (.inl rfl) e] at e2;cases e2;exact dd _ e⟩
 | dK kvs=>obtain ⟨z,y,vs,r,ob,es,ep,e,c⟩:=x;exact ⟨z,y,vs,r,ob,es,ep,k _ _ (.inl rfl) e,c⟩
 | dT kvs=>
  obtain ⟨z,y,xs,r,ob,es,ep,e,c⟩:=x;exact ⟨z,y,xs,r,ob,es,ep,k _ _ (.inl rfl) e,c⟩
 | set S n=>obtain ⟨ob,es,ep,t,e,c⟩:=x;exact ⟨ob,es,ep,t,k _ _ (.inl rfl) e,c⟩
 | ins C dx fs=>
  obtain ⟨d,z,ne,e,mA,⟨od,es,ep,e2,c⟩,r⟩:=x;exact ⟨ho _ d,z,ne,k _ _ (.inl rfl) e,mA,⟨od,es,ep,k _ _ (.inr d) e2,c⟩,r⟩
 | own y=>obtain ⟨ob,e⟩:=x;exact ⟨ob,k _ _ (.inl rfl) e⟩
 | xd fs=>obtain ⟨mA,⟨od,es,ep,e,c⟩,r⟩:=x;exact ⟨mA,⟨od,es,ep,k _ _ (.inl rfl) e,c⟩,r⟩
 | rng lo hi=>obtain ⟨t,u,v,e⟩:=x;exact ⟨t,u,v,k _ _ (.inl rfl) e⟩
 | frz ob u ih=>obtain ⟨e,q⟩:=x;exact ⟨k _ _ (.inl rfl) e,ih q⟩
 | tbl ps=>
  have e:h.get? a=some { cls:=.none,data:=.fields ps }:=x;show h'.get? a=some { cls:=.none,data:=.fields ps };exact k a _ (.inl rfl) e
 | met f y=>
  have e:h.get? a=some (PySem.W.methodObj (.ref f) (.ref y)):=x;show h'.get? a=some (PySem.W.methodObj (.ref f) (.ref y));exact k a _ (.inl rfl) e
 | ext φ=>obtain ⟨p,⟨o,e⟩,st⟩:=x;exact ⟨st _ _ p λo q=>k _ _ (.inl rfl) q,⟨o,k _ _ (.inl rfl) e⟩,st⟩
theorem HOk.lt (x:HOk P w H h) (e:H a=some o):a<h.objs.size:=(x a o e).lt
theorem HOk.fresh (x:HOk P w H h) (e:h.objs.size<=a):H a=none:=by
 cases q:H a with
 | none=>rfl
 | some u=>exact absurd (Nat.lt_of_lt_of_le (x.lt q) e) (Nat.lt_irrefl _)
theorem HOk.kept (x:HOk P w H h) (k:∀ b u,h.get? b=some u->h'.get? b=some u):HOk P w H h':=λa o e=>
 (x a o e).stay (λb u _ q=>k b u q) (λ_ q=>q) λ_ _ q=>q
theorem HOk.laid (x:HOk P w H h) (k:∀ b u,h.get? b=some u->h'.get? b=some u) (hp:h.objs.size<=a) (new:zaR P w (upd H a o) h' a o):HOk P w (upd H a o) h':=λb u e=>by
 have hn:=x.fresh hp
 by_cases hb:b=a
 ·subst hb;rw [zaj] at e;cases e;exact new
 ·rw [zao hb] at e
  exact (x b u e).stay (λc v _ q=>k c v q) (λc q=>by rw [zao (zap q hn)];exact q) λc xs q=>by rw [zao (zap q hn)];exact q
end
noncomputable def Rd (H:Hp) (a:Addr) (u:HO):Prop:=H a=some u\/∃ o,H a=some (.frz o u)
theorem Rd.of {H:Hp} {a:Addr} {u:HO} (h:H a=some u):Rd H a u:=.inl h
theorem Rd.ok {P:Program} {w:World} {H:Hp} {h:Heap} {a:Addr} {u:HO} (r:Rd H a u) (x:HOk P w H h):zaR P w H h a u:=by
 rcases r with r | ⟨o,r⟩
 ·exact x a u r
 ·obtain ⟨_,q⟩:=x a _ r
  exact q
noncomputable def Mut:Option HO->Prop
 | some (.lst _)=>True
 | some (.dK _)=>True
 | some (.dT _)=>True
 | some (.set _ _)=>True
 | some (.ins _ _ _)=>True
 | some (.ext _)=>True
 | _=>False
section
variable {P:Program} {w:World} {H:Hp} {h h':Heap} {x e:Addr} {o':HO}
theorem HOk.write (ok:HOk P w H h) (mu:Mut (H x)) (he:e=x\/H e=some (.own x)) (k:∀ b u,b≠e->h.get? b=some u->h'.get? b=some u) (heo:∃ u,h'.get? e=some u)
  (new:zaR P w (upd H x o') h' x o'):HOk P w (upd H x o') h':=λb u q=>by
 have nown:∀ c y,H c=some (.own y)->c≠x:=λc y r z=>by subst z;rw [r] at mu;exact mu
 have ntup:∀ c xs,H c=some (.tup xs)->c≠x:=λc xs r z=>by subst z;rw [r] at mu;exact mu
 by_cases hb:b=x
 ·subst hb;rw [zaj] at q;cases q;exact new
 ·rw [zao hb] at q
  by_cases hbe:b=e
  ·have q':H b=some (.own x):=by
    rcases he with z | z
    ·exact absurd (hbe.trans z) hb
    ·rw [hbe];exact z
   rw [q] at q';cases q'
   obtain ⟨v,hv⟩:=heo
   exact ⟨v,by rw [hbe];exact hv⟩
  ·refine (ok b u q).stay (λc v hc r=>k c v ?_ r) (λc r=>by rw [zao (nown c b r)];exact r) λc xs r=>by rw [zao (ntup c xs r)];exact r
   rcases hc with rfl | hc
   ·exact hbe
   ·rintro rfl
    rcases he with z | z
    ·exact nown c b hc z
    ·rw [hc] at z;cases z;exact hb rfl
end
structure Un (fs ex:List Addr) (H H':Hp) (h h':Heap):Prop where
 keep:∀ b o,h.get? b=some o->H b=none->b ∉ fs->b ∉ ex->h'.get? b=some o
 slot:∀ b o,h.get? b=some o->H b=none->b∈fs->b ∉ ex->∃ sl,h'.get? b=some { o with slots:=sl }
 free:∀ b o,h.get? b=some o->H b=none->b ∉ ex->H' b=none
 there:∀ b o,h.get? b=some o->b ∉ ex->∃ o',h'.get? b=some o'
 tups:∀ b xs,H b=some (.tup xs)->H' b=some (.tup xs)
 frzs:∀ b o u,H b=some (.frz o u)->H' b=some (.frz o u)
 tbls:∀ b ps,H b=some (.tbl ps)->∃ more,H' b=some (.tbl (ps++more))
section
variable {fs fs' ex ex':List Addr} {H H1 H2:Hp} {h h1 h2 h':Heap} {a x e:Addr} {o:HO}
theorem Un.any (u:Un fs ex H H1 h h1) {b:Addr} {ob:Obj} (q:h.get? b=some ob) (n:H b=none) (hx:b ∉ ex):∃ sl,h1.get? b=some { ob with slots:=sl }:=by
 by_cases hb:b∈fs
 ·exact u.slot b ob q n hb hx
 ·exact ⟨ob.slots,u.keep b ob q n hb hx⟩
theorem Un.trans (a:Un fs ex H H1 h h1) (b:Un fs ex H1 H2 h1 h2):Un fs ex H H2 h h2 where
 keep:=λc ob q n hc hx=>b.keep c ob (a.keep c ob q n hc hx) (a.free c ob q n hx) hc hx
 slot:=λc ob q n hc hx=>by
  obtain ⟨sl,e1⟩:=a.slot c ob q n hc hx;obtain ⟨sl',e2⟩:=b.slot c _ e1 (a.free c ob q n hx) hc hx;exact ⟨sl',e2⟩
 free:=λc ob q n hx=>by
  obtain ⟨o',e1⟩:=a.there c ob q hx;exact b.free c o' e1 (a.free c ob q n hx) hx
 there:=λc ob q hx=>by
  obtain ⟨o',e1⟩:=a.there c ob q hx;exact b.there c o' e1 hx
 tups:=λc xs q=>b.tups c xs (a.tups c xs q)
 frzs:=λc ob xs q=>b.frzs c ob xs (a.frzs c ob xs q)
 tbls:=λc ps q=>by
  obtain ⟨m1,e1⟩:=a.tbls c ps q;obtain ⟨m2,e2⟩:=b.tbls c _ e1;exact ⟨m1++m2,by rw [e2,Array.append_assoc]⟩
theorem Un.kept (k:∀ b u,h.get? b=some u->h'.get? b=some u):Un fs ex H H h h':=
 ⟨λb ob q _ _ _=>k b ob q,λb ob q _ _ _=>⟨ob.slots,k b ob q⟩,λ_ _ _ n _=>n,λb ob q _=>⟨ob,k b ob q⟩,λ_ _ q=>q,λ_ _ _ q=>q,λ_ ps q=>⟨#[],by rw [q];simp⟩⟩
theorem Un.refl:Un fs ex H H h h:=Un.kept λ_ _ q=>q
theorem Un.laid (k:∀ b u,h.get? b=some u->h'.get? b=some u) (hp:h.objs.size<=a) (hn:H a=none):Un fs ex H (upd H a o) h h' where
 keep:=λb u q _ _ _=>k b u q
 slot:=λb u q _ _ _=>⟨u.slots,k b u q⟩
 free:=λb u q n _=>by rw [zao (Nat.ne_of_lt (Nat.lt_of_lt_of_le (Heap.lt_size q) hp))];exact n
 there:=λb u q _=>⟨u,k b u q⟩
 tups:=λb xs q=>by rw [zao (zap q hn)];exact q
 frzs:=λb u xs q=>by rw [zao (zap q hn)];exact q
 tbls:=λb ps q=>⟨#[],by rw [zao (zap q hn),q];simp⟩
theorem Un.write (mu:Mut (H x)) (he:e=x\/H e=some (.own x)) (k:∀ b u,b≠e->h.get? b=some u->h'.get? b=some u) (heo:∃ u,h'.get? e=some u):Un fs ex H (upd H x o) h h':=by
 have hx:∀ b,H b=none->b≠x:=λb n z=>by subst z;rw [n] at mu;exact mu
 have hb:∀ b,H b=none->b≠e:=λb n z=>by
  subst z
  rcases he with r | r
  ·exact hx b n r
  ·rw [n] at r;cases r
 have hm:∀ b u,H b=some u->¬ Mut (some u)->b≠x:=λb u q nm z=>by subst z;rw [q] at mu;exact nm mu
 refine ⟨λb u q n _ _=>k b u (hb b n) q,λb u q n _ _=>⟨u.slots,k b u (hb b n) q⟩,λb u q n _=>by rw [zao (hx b n)];exact n,λb u q _=>?_,
  fun b xs q=>by rw [zao (hm b _ q λz=>z)];exact q,λb u xs q=>by rw [zao (hm b _ q λz=>z)];exact q,λb ps q=>⟨#[],by rw [zao (hm b _ q λz=>z),q];simp⟩⟩
 by_cases hbe:b=e
 ·subst hbe;exact heo
 ·exact ⟨u,k b u hbe q⟩
theorem Un.mono (u:Un fs ex H H1 h h1) (hs:∀ b∈fs,b∈fs') (hx:∀ b∈ex,b∈ex'):Un fs' ex' H H1 h h1:=
 ⟨λb ob q n hb he=>u.keep b ob q n (λz=>hb (hs b z)) λz=>he (hx b z),λ_ _ q n _ he=>u.any q n λz=>he (hx _ z),λb ob q n he=>u.free b ob q n λz=>he (hx b z),λb ob q he=>u.there b ob q λz=>he (hx b z),u.tups,u.frzs,u.tbls⟩
end
noncomputable def trk (h:Heap) (H:Hp):List Addr:=(List.range h.objs.size).filter λa=>(H a).isSome
noncomputable def hidT (h:Heap) (H:Hp):Heap:=PySem.W.hideAll h (trk h H)
theorem zke (h:Heap) (H:Hp):(hidT h H).objs.size=h.objs.size:=PySem.W.hideAll_size _ _
theorem zl8 {h:Heap} {H:Hp} {b:Addr} {o:Obj} (e:h.get? b=some o) (n:H b=none):(hidT h H).get? b=some o:=
 PySem.W.hideAll_get _ e λhm=>by
  have q:(H b).isSome=true:=(List.mem_filter.mp hm).2
  rw [n] at q;simp at q
theorem zol {h:Heap} {H:Hp} {b:Addr} {o:Obj} (e:(hidT h H).get? b=some o):h.get? b=some o/\H b=none:=by
 have e':h.get? b=some o:=PySem.W.of_hideAll (trk h H) e;refine ⟨e',?_⟩
 cases q:H b with
 | none=>rfl
 | some x=>
  have hm:b∈trk h H:=List.mem_filter.mpr ⟨List.mem_range.mpr (Heap.lt_size e'),by simp [q]⟩;have z:(hidT h H).get? b=none:=PySem.W.hideAll_none (trk h H) hm
  rw [z] at e;cases e
noncomputable def zoJ (g h:Heap) (L:Addr):List (Addr×Obj):=(List.range h.objs.size).filterMap λa=>if a=L\/(g.get? a).isSome=true then none else (h.get? a).map λo=>(a,o)
noncomputable def rest (g h:Heap) (L d:Addr):List (Addr×Obj):=(zoJ g h L).filter λp=>decide (p.1≠d)
structure Mod (K:PySem.W.Frag) (mg:Str->Option Value) (base:Heap):Prop where
 kin:K.In base
 glob:base.Ns mainGlobals mg
 blt:∃ mb,base.Ns builtinsNs mb/\∀ x:Str,x ≠ "__name__"->mb x=bootBuiltins x
 nolimit:base.NoLimit
structure Cx where
 prog:Program
 w:World
 K:PySem.W.Frag
 mg:Str->Option Value
 base:Heap
 A:Around
 N:List Str
 s₀:Shared
 H₀:Hp
 env:Env
 outer:List Env
 stack:List Env
 ex:List Addr
 fn:Str->Bool
 calm:Bool
 pn:List (Addr×Obj)
 xe:Value->Shared->Prop
noncomputable def frs (l:List Env):List Addr:=l.filterMap (·.frame)
noncomputable abbrev Cx.fs (X:Cx):List Addr:=frs X.outer
noncomputable def Vis (sc:Scope) (x:Str):Prop:=sc.names.lookup x=some .local\/sc.names.lookup x=some .cell\/sc.names.lookup x=some .free
noncomputable def Loc (sc:Scope) (x:Str):Prop:=sc.names.lookup x=some .local\/sc.names.lookup x=some .cell
noncomputable def Look (env:Env) (h:Heap) (m:Str->Option Value) (x:Str) (u:Value):Prop:=
 (env.kindOf x=some .local/\m x=some u)\/((env.kindOf x=some .cell\/env.kindOf x=some .free)/\∃ c,env.cells.lookup x=some c/\h.IsCell c (some u))
structure Cx.Ok (X:Cx):Prop where
 mod:Mod X.K X.mg X.base
 kind:X.env.scope.kind=.function
 glob:X.env.globals=mainGlobals
 blt:X.env.builtins=builtinsNs
 above:X.s₀.heap.objs.size<=X.env.locals
 inj:∀ x y c,X.env.cells.lookup x=some c->X.env.cells.lookup y=some c->x=y
 has:∀ x,(X.env.kindOf x=some .cell\/X.env.kindOf x=some .free)->∃ c,X.env.cells.lookup x=some c
 cab:∀ x c,X.fn x=true->X.env.cells.lookup x=some c->X.s₀.heap.objs.size<=c
 hd:X.calm=true->X.A.handled=none
 frames:X.A.frames=some X.stack
 stk:X.stack=X.outer\/(X.stack=X.env::X.outer/\X.env.frame=some X.env.locals)
 exf:∀ b∈X.ex,b≠X.env.locals/\∀ x c,X.env.cells.lookup x=some c->c≠b
 bs:∀ b o,X.base.get? b=some o->X.s₀.heap.get? b=some o/\X.H₀ b=none
 bsz:X.base.objs.size<=X.s₀.heap.objs.size
 noex:∀ b o,X.base.get? b=some o->b ∉ X.ex
 exfs:∀ b∈X.ex,b ∉ X.fs
 funs:X.s₀.heap.FunFrames X.base X.outer
 frf:∀ b∈X.fs,X.H₀ b=none
structure Inv (X:Cx) (pins:List (Addr×Obj)) (σ:List (Option V)) (H:Hp) (s:Shared):Prop where
 ok:X.Ok
 os:s.os=X.s₀.os
 bare:AllBare s.gens
 base:Un X.fs X.ex X.H₀ H X.s₀.heap s.heap
 loc:∃ m,s.heap.Ns X.env.locals m/\∀ (i:Nat) (x:Str) (v:V),X.N[i]?=some x->σ[i]?=some (some v)->Vis X.env.scope x->∃ u,RelV v u/\Look X.env s.heap m x u
 cell:∀ x c,X.env.cells.lookup x=some c->∃ v,s.heap.IsCell c v
 free:H X.env.locals=none
 freeC:∀ x c,X.env.cells.lookup x=some c->H c=none
 pin:∀ p∈X.pn++pins,s.heap.get? p.1=some p.2/\H p.1=none/\p.1≠X.env.locals/\p.1 ∉ X.fs/\∀ v,p.2.data≠.cell v
 hok:HOk X.prog X.w H s.heap
 len:σ.length=X.N.length
section
variable {X:Cx} {pins:List (Addr×Obj)} {σ:List (Option V)} {H H':Hp} {s:Shared} {h':Heap}
theorem Cx.Ok.nofr (ok:X.Ok) {b:Addr} {o:Obj} (e:X.base.get? b=some o):b ∉ X.fs:=λhb=>by
 have:=(ok.funs.mem hb).1
 rw [e] at this;cases this
theorem Inv.bs (I:Inv X pins σ H s):∀ b o,X.base.get? b=some o->s.heap.get? b=some o/\H b=none:=λb o e=>
 ⟨I.base.keep b o (I.ok.bs b o e).1 (I.ok.bs b o e).2 (I.ok.nofr e) (I.ok.noex b o e),I.base.free b o (I.ok.bs b o e).1 (I.ok.bs b o e).2 (I.ok.noex b o e)⟩
theorem Inv.bk (I:Inv X pins σ H s):∀ b o,X.base.get? b=some o->s.heap.get? b=some o:=λb o e=>(I.bs b o e).1
theorem Inv.mod (I:Inv X pins σ H s):Mod X.K X.mg X.base:=I.ok.mod
theorem Inv.kIn (I:Inv X pins σ H s):X.K.In s.heap:=I.ok.mod.kin.keeps I.bk
theorem Inv.nolimit (I:Inv X pins σ H s):s.heap.NoLimit:=I.ok.mod.nolimit.keeps I.bk
theorem Inv.fr (I:Inv X pins σ H s):∃ m,Fr X.base X.env.locals s.heap m:=
 let ⟨m,hn,_⟩:=I.loc
 ⟨m,hn,I.bk,Nat.le_trans I.ok.bsz I.ok.above⟩
theorem Inv.lt (I:Inv X pins σ H s):X.env.locals<s.heap.objs.size:=let ⟨_,hn,_⟩:=I.loc;hn.lt
theorem Inv.sz (I:Inv X pins σ H s):X.s₀.heap.objs.size<=s.heap.objs.size:=Nat.le_trans I.ok.above (Nat.le_of_lt I.lt)
theorem Inv.nofs (I:Inv X pins σ H s) {a:Addr} (h:s.heap.objs.size<=a):a ∉ X.fs:=λhb=>by
 obtain ⟨_,o,ho,_⟩:=I.ok.funs.mem hb;exact absurd (Nat.lt_of_lt_of_le (Heap.lt_size ho) (Nat.le_trans I.sz h)) (Nat.lt_irrefl _)
theorem Inv.cne (I:Inv X pins σ H s):∀ x c,X.env.cells.lookup x=some c->c≠X.env.locals:=λx c e z=>by
 obtain ⟨v,o,ho,hd⟩:=I.cell x c e;obtain ⟨m,⟨o',es,ep,ho',hd',_⟩,_⟩:=I.loc
 rw [z,ho'] at ho;cases ho;rw [hd'] at hd;cases hd
theorem Inv.funs (I:Inv X pins σ H s):s.heap.FunFrames X.base X.outer:=by
 have all:∀ (l:List Env),(∀ b∈frs l,b∈X.fs)->X.s₀.heap.FunFrames X.base l->s.heap.FunFrames X.base l:=by
  intro l
  induction l with
  | nil=>intro _ _;trivial
  | cons env r ih=>
   intro hs hl;obtain ⟨hk,⟨L,o,hf,hn,ho,hd⟩,hr⟩:=hl
   have hL:L∈X.fs:=hs L (by unfold frs;rw [List.filterMap_cons,hf];exact List.mem_cons_self)
   obtain ⟨sl,e⟩:=I.base.slot L o ho (I.ok.frf L hL) hL λz=>I.ok.exfs L z hL
   exact ⟨hk,⟨L,_,hf,hn,e,hd⟩,ih (λb hb=>hs b (by unfold frs;rw [List.filterMap_cons,hf];exact List.mem_cons_of_mem _ hb)) hr⟩
 exact all X.outer (λ_ hb=>hb) I.ok.funs
theorem Inv.stack (I:Inv X pins σ H s):s.heap.FunFrames X.base X.stack:=by
 rcases I.ok.stk with e | ⟨e,hf⟩
 ·rw [e];exact I.funs
 ·rw [e]
  obtain ⟨m,hn,_⟩:=I.loc
  refine .cons (by rw [I.ok.kind];decide) hf hn ?_ I.funs
  exact Heap.get?_none_of_le (Nat.le_trans I.ok.bsz I.ok.above)
theorem Inv.stkSub (I:Inv X pins σ H s):∀ b∈frs X.stack,b∈X.env.locals::X.fs:=λb hb=>by
 rcases I.ok.stk with e | ⟨e,hf⟩
 ·rw [e] at hb;exact List.mem_cons_of_mem _ hb
 ·rw [e] at hb
  unfold frs at hb;rw [List.filterMap_cons,hf] at hb;exact hb
theorem Inv.stkFree (I:Inv X pins σ H s):∀ b∈frs X.stack,H b=none:=λb hb=>by
 rcases List.mem_cons.mp (I.stkSub b hb) with e | hb
 ·rw [e];exact I.free
 ·obtain ⟨_,o,ho,_⟩:=I.ok.funs.mem hb
  exact I.base.free b o ho (I.ok.frf b hb) λz=>I.ok.exfs b z hb
theorem Inv.step {g':Array GenState} {t':Nat} {d':Drawn} {ch:List Addr} (I:Inv X pins σ H s)
  (hch:∀ b∈ch,(b∈X.ex\/X.s₀.heap.objs.size<=b)/\b≠X.env.locals/\(∀ x c,X.env.cells.lookup x=some c->c≠b)/\∀ p∈X.pn++pins,p.1≠b)
  (keep:∀ b o,b≠X.env.locals->b ∉ X.fs->b ∉ ch->s.heap.get? b=some o->H b=none->h'.get? b=some o)
  (slot:∀ b o,b≠X.env.locals->b∈X.fs->b ∉ ch->s.heap.get? b=some o->H b=none->∃ sl,h'.get? b=some { o with slots:=sl }) (free:∀ b o,b ∉ ch->s.heap.get? b=some o->H b=none->H' b=none)
  (there:∀ b o,b ∉ ch->s.heap.get? b=some o->∃ o',h'.get? b=some o')
  (tups:∀ b xs,H b=some (.tup xs)->H' b=some (.tup xs)) (frzs:∀ b o u,H b=some (.frz o u)->H' b=some (.frz o u)) (tbls:∀ b ps,H b=some (.tbl ps)->∃ more,H' b=some (.tbl (ps++more)))
  (ns:∀ m,s.heap.Ns X.env.locals m->h'.Ns X.env.locals m) (hok:HOk X.prog X.w H' h') (hg:AllBare g') :
  Inv X pins σ H' { s with heap:=h',gens:=g',drawn:=d',toks:=t' }:=by
 have neL:∀ b o,X.s₀.heap.get? b=some o->b≠X.env.locals:=λb o e=>Nat.ne_of_lt (Nat.lt_of_lt_of_le (Heap.lt_size e) I.ok.above)
 have neC:∀ b o,X.s₀.heap.get? b=some o->b ∉ X.ex->b ∉ ch:=λb o e hx hb=>by
  rcases (hch b hb).1 with z | z
  ·exact hx z
  ·exact absurd (Nat.lt_of_lt_of_le (Heap.lt_size e) z) (Nat.lt_irrefl _)
 have cellK:∀ x c,X.env.cells.lookup x=some c->∀ v,s.heap.IsCell c v->h'.IsCell c v:=λx c e v ⟨o,ho,hd⟩=>by
  have nch:c ∉ ch:=λz=>(hch c z).2.2.1 x c e rfl
  by_cases hc:c∈X.fs
  ·obtain ⟨sl,q⟩:=slot c o (I.cne x c e) hc nch ho (I.freeC x c e)
   exact ⟨_,q,hd⟩
  ·exact ⟨o,keep c o (I.cne x c e) hc nch ho (I.freeC x c e),hd⟩
 refine ⟨I.ok,I.os,hg,⟨λb o e n hb hx=>?_,λb o e n hb hx=>?_,λb o e n hx=>?_,λb o e hx=>?_,λb xs e=>tups b xs (I.base.tups b xs e),λb o xs e=>frzs b o xs (I.base.frzs b o xs e),λb ps e=>?_⟩,?_,λx c e=>?_,?_,λx c e=>?_,λp hp=>?_,hok,I.len⟩
 ·exact keep b o (neL b o e) hb (neC b o e hx) (I.base.keep b o e n hb hx) (I.base.free b o e n hx)
 ·obtain ⟨sl,e1⟩:=I.base.slot b o e n hb hx
  obtain ⟨sl',e2⟩:=slot b _ (neL b o e) hb (neC b o e hx) e1 (I.base.free b o e n hx);exact ⟨sl',e2⟩
 ·obtain ⟨o',e1⟩:=I.base.there b o e hx
  exact free b o' (neC b o e hx) e1 (I.base.free b o e n hx)
 ·obtain ⟨o',e1⟩:=I.base.there b o e hx
  exact there b o' (neC b o e hx) e1
 ·obtain ⟨m1,e1⟩:=I.base.tbls b ps e
  obtain ⟨m2,e2⟩:=tbls b _ e1;exact ⟨m1++m2,by rw [e2,Array.append_assoc]⟩
 ·obtain ⟨m,hn,hl⟩:=I.loc
  refine ⟨m,ns m hn,λi x v e1 e2 e3=>?_⟩;obtain ⟨u,r,l⟩:=hl i x v e1 e2 e3;refine ⟨u,r,?_⟩
  rcases l with l | ⟨k,c,e,z⟩
  ·exact .inl l
  ·exact .inr ⟨k,c,e,cellK x c e _ z⟩
 ·obtain ⟨v,z⟩:=I.cell x c e
  exact ⟨v,cellK x c e v z⟩
 ·obtain ⟨m,⟨o,_,_,ho,_⟩,_⟩:=I.loc
  exact free _ o (λz=>(hch _ z).2.1 rfl) ho I.free
 ·obtain ⟨v,o,ho,hd⟩:=I.cell x c e
  exact free c o (λz=>(hch c z).2.2.1 x c e rfl) ho (I.freeC x c e)
 ·obtain ⟨e,n,ne,nf,d⟩:=I.pin p hp
  have nch:p.1 ∉ ch:=λz=>(hch p.1 z).2.2.2 p hp rfl;exact ⟨keep p.1 p.2 ne nf nch e n,free p.1 p.2 nch e n,ne,nf,d⟩
theorem Inv.un {t':Nat} (I:Inv X pins σ H s) (u:Un X.fs [] H H' s.heap h') (hok:HOk X.prog X.w H' h'):Inv X pins σ H' { s with heap:=h',toks:=t' }:=by
 obtain ⟨m,⟨o,es,ep,ho,r⟩,_⟩:=id I.loc;obtain ⟨sl,hL⟩:=u.any ho I.free (by simp)
 exact I.step (g':=s.gens) (d':=s.drawn) (ch:=[]) (λ_ z=>nomatch z) (λb o _ hb _ e n=>u.keep b o e n hb (by simp)) (λb o _ hb _ e n=>u.slot b o e n hb (by simp)) (λb o _ e n=>u.free b o e n (by simp)) (λb o _ e=>u.there b o e (by simp)) u.tups u.frzs u.tbls (λm' hm=>by
  obtain ⟨o',es',ep',ho',r'⟩:=hm
  rw [ho] at ho';cases ho'
  exact ⟨_,es',ep',hL,r'⟩) hok I.bare
theorem Inv.call {g':Array GenState} {t':Nat} {d':Drawn} {ch:List Addr} (I:Inv X pins σ H s) (u:Un (frs X.stack) ch H H' s.heap h') (hok:HOk X.prog X.w H' h') (hg:AllBare g')
  (hch:∀ b∈ch,(b∈X.ex\/X.s₀.heap.objs.size<=b)/\b≠X.env.locals/\(∀ x c,X.env.cells.lookup x=some c->c≠b)/\∀ p∈X.pn++pins,p.1≠b) :
  Inv X pins σ H' { s with heap:=h',gens:=g',drawn:=d',toks:=t' }:=by
 obtain ⟨m,⟨o,es,ep,ho,r⟩,_⟩:=id I.loc;obtain ⟨sl,hL⟩:=u.any ho I.free λz=>(hch _ z).2.1 rfl
 exact I.step (ch:=ch) hch (λb o hL hb hc e n=>u.keep b o e n (λz=>(List.mem_cons.mp (I.stkSub b z)).elim hL hb) hc) (λb o _ _ hc e n=>u.any e n hc) (λb o hc e n=>u.free b o e n hc) (λb o hc e=>u.there b o e hc) u.tups u.frzs u.tbls (λm' hm=>by
  obtain ⟨o',es',ep',ho',r'⟩:=hm
  rw [ho] at ho';cases ho'
  exact ⟨_,es',ep',hL,r'⟩) hok hg
theorem Inv.turned {t':Nat} {it:Addr} (I:Inv X pins σ H s) (k:∀ b o,b≠it->s.heap.get? b=some o->h'.get? b=some o) (hn:H it=none) (hL:it≠X.env.locals)
  (h1:it∈X.ex\/X.s₀.heap.objs.size<=it) (h2:∀ x c,X.env.cells.lookup x=some c->c≠it) (h3:∀ p∈X.pn++pins,p.1≠it):Inv X pins σ H { s with heap:=h',toks:=t' }:=by
 have nit:∀ b u,H b=some u->b≠it:=λb u e z=>by rw [z,hn] at e;cases e
 refine I.step (g':=s.gens) (d':=s.drawn) (ch:=[it]) (λb hb=>?_) (λb o _ _ hc e _=>k b o (λz=>hc (by simp [z])) e) (λb o _ _ hc e _=>⟨o.slots,k b o (λz=>hc (by simp [z])) e⟩) (λ_ _ _ _ n=>n)
  (λb o hc e=>⟨o,k b o (λz=>hc (by simp [z])) e⟩) (λ_ _ e=>e) (λ_ _ _ e=>e) (λb ps e=>⟨#[],by rw [e];simp⟩) (λm hm=>?_) (λb u e=>?_) I.bare
 ·have e:b=it:=by simpa using hb
  subst e;exact ⟨h1,hL,h2,h3⟩
 ·obtain ⟨o,es,ep,ho,r⟩:=hm
  exact ⟨o,es,ep,k _ o (Ne.symm hL) ho,r⟩
 ·refine (I.hok b u e).stay (λc v hc q=>k c v ?_ q) (λ_ q=>q) λ_ _ q=>q
  rcases hc with z | z
  ·rw [z];exact nit b u e
  ·exact nit c _ z
theorem Inv.tok (I:Inv X pins σ H s) (t:Nat):Inv X pins σ H { s with toks:=t }:=I.un (h':=s.heap) (t':=t) Un.refl I.hok
theorem Inv.kept {t':Nat} (I:Inv X pins σ H s) (k:∀ b u,s.heap.get? b=some u->h'.get? b=some u):Inv X pins σ H { s with heap:=h',toks:=t' }:=I.un (Un.kept k) (I.hok.kept k)
theorem Inv.laid {a:Addr} {o:HO} {t':Nat} (I:Inv X pins σ H s) (k:∀ b u,s.heap.get? b=some u->h'.get? b=some u) (hp:s.heap.objs.size<=a) (new:zaR X.prog X.w (upd H a o) h' a o) :
  Inv X pins σ (upd H a o) { s with heap:=h',toks:=t' }:=I.un (Un.laid k hp (I.hok.fresh hp)) (I.hok.laid k hp new)
theorem Inv.write {x e:Addr} {o:HO} {t':Nat} (I:Inv X pins σ H s) (mu:Mut (H x)) (he:e=x\/H e=some (.own x)) (k:∀ b u,b≠e->s.heap.get? b=some u->h'.get? b=some u) (heo:∃ u,h'.get? e=some u)
  (new:zaR X.prog X.w (upd H x o) h' x o):Inv X pins σ (upd H x o) { s with heap:=h',toks:=t' }:=I.un (Un.write mu he k heo) (I.hok.write mu he k heo new)
theorem Inv.pins_of {pins':List (Addr×Obj)} (I:Inv X pins σ H s) (h:∀ p∈pins',s.heap.get? p.1=some p.2/\H p.1=none/\p.1≠X.env.locals/\p.1 ∉ X.fs/\∀ v,p.2.data≠.cell v):Inv X pins' σ H s:=
 ⟨I.ok,I.os,I.bare,I.base,I.loc,I.cell,I.free,I.freeC,λp hp=>(List.mem_append.mp hp).elim (λz=>I.pin p (List.mem_append_left _ z)) (h p),I.hok,I.len⟩
theorem zim {N:List Str} (hN:N.Nodup) {i j:Nat} {x:Str} (a:N[i]?=some x) (b:N[j]?=some x):i=j:=by
 obtain ⟨h1,e1⟩:=List.getElem?_eq_some_iff.mp a;obtain ⟨h2,e2⟩:=List.getElem?_eq_some_iff.mp b;exact (List.getElem_inj hN).mp (e1.trans e2.symm)
theorem zlu {M:Model} {A:Around} {E:Value->Shared->Prop} {i:Nat} {x:Str} {v:V} {u:Value} {Q:Unit->Shared->Prop} (I:Inv X pins σ H s) (hN:X.N.Nodup) (hi:X.N[i]?=some x) (hx:Loc X.env.scope x) (r:RelV v u)
    (h:∀ s',Inv X pins (σ.set i (some v)) H s'->(∃ a,Heap.SameBut a s.heap s'.heap/\(a=X.env.locals\/X.env.cells.lookup x=some a))->Q () s') (hf:X.fn x=true\/X.env.scope.names.lookup x=some .local:=by first | exact .inl rfl | exact .inr rfl | assumption):wpAny M A (storeName X.env x u) Q E s:=by
  obtain ⟨m,hn,hl⟩:=id I.loc
  have hcls:(X.env.scope.kind==.class||(X.env.scope.kind==.module&&X.env.locals != X.env.globals))=false:=by rw [I.ok.kind];rfl
  have hiσ:i<σ.length:=by rw [I.len];exact (List.getElem?_eq_some_iff.mp hi).1
  have cne:=I.cne
  have tracked:∀ {a:Addr} {h':Heap},(∃ o,s.heap.get? a=some o/\H a=none)->Heap.SameBut a s.heap h'->HOk X.prog X.w H h':=λ{a h'} ha hs b ob e=>by
    obtain ⟨_,_,hfree⟩:=ha;refine (I.hok b ob e).stay (λc w' hc q=>(hs.2 c ?_).trans q) (λ_ q=>q) λ_ _ q=>q
    rintro rfl
    rcases hc with rfl | hc
    · rw [hfree] at e;cases e
    · rw [hfree] at hc;cases hc
  rcases hx with hk | hk
  · refine wpAny_storeName_local hk hn (λh' hn' hs=>?_) hcls
    obtain ⟨oL,_,_,hoL,_⟩:=id hn;refine h _ ⟨I.ok,I.os,I.bare,⟨λb o e n hb hx=>?_,λb o e n hb hx=>?_,I.base.free,λb o e hx=>?_,I.base.tups,I.base.frzs,I.base.tbls⟩,⟨_,hn',λj y v' e1 e2 e3=>?_⟩,λy c e=>?_,I.free,I.freeC,λp hp=>?_,tracked ⟨oL,hoL,I.free⟩ hs,by simpa using I.len⟩ ⟨_,hs,.inl rfl⟩
    · exact (hs.2 b (Nat.ne_of_lt (Nat.lt_of_lt_of_le (Heap.lt_size e) I.ok.above))).trans (I.base.keep b o e n hb hx)
    · obtain ⟨sl,e1⟩:=I.base.slot b o e n hb hx
      exact ⟨sl,(hs.2 b (Nat.ne_of_lt (Nat.lt_of_lt_of_le (Heap.lt_size e) I.ok.above))).trans e1⟩
    · obtain ⟨o',e1⟩:=I.base.there b o e hx
      exact ⟨o',(hs.2 b (Nat.ne_of_lt (Nat.lt_of_lt_of_le (Heap.lt_size e) I.ok.above))).trans e1⟩
    · by_cases hj:j=i
      · subst hj
        rw [hi] at e1;cases e1
        rw [List.getElem?_set_self hiσ] at e2;cases e2;exact ⟨u,r,.inl ⟨hk,by simp⟩⟩
      · rw [List.getElem?_set_ne (Ne.symm hj)] at e2
        obtain ⟨u',r',q⟩:=hl j y v' e1 e2 e3;refine ⟨u',r',?_⟩
        rcases q with ⟨k,e⟩ | ⟨k,c,e,z⟩
        · refine .inl ⟨k,?_⟩
          have:y≠x:=λe=>hj (zim hN e1 (e▸hi))
          simp [this,e]
        · exact .inr ⟨k,c,e,z.sameBut hs (cne y c e)⟩
    · obtain ⟨w',z⟩:=I.cell y c e
      exact ⟨w',z.sameBut hs (cne y c e)⟩
    · obtain ⟨e,n,ne,nf,d⟩:=I.pin p hp
      exact ⟨(hs.2 p.1 ne).trans e,n,ne,nf,d⟩
  · have hfn:X.fn x=true:=by
      rcases hf with z | z
      · exact z
      · rw [z] at hk;cases hk
    obtain ⟨c,hc⟩:=I.ok.has x (.inl hk);obtain ⟨w',z⟩:=I.cell x c hc;refine wpAny_storeName_cell I.ok.kind hk hc z (λh' hc' hs=>?_);obtain ⟨oc,hoc,hocd⟩:=id z;refine h { s with heap:=h' } ⟨I.ok,I.os,I.bare,⟨λb o e n hb hx=>?_,λb o e n hb hx=>?_,I.base.free,λb o e hx=>?_,I.base.tups,I.base.frzs,I.base.tbls⟩,⟨m,hn.sameBut hs (Ne.symm (cne x c hc)),λj y v' e1 e2 e3=>?_⟩,λy c' e=>?_,I.free,I.freeC,λp hp=>?_,tracked ⟨oc,hoc,I.freeC x c hc⟩ hs,by simpa using I.len⟩ ⟨c,hs,.inr hc⟩
    · exact (hs.2 b (Nat.ne_of_lt (Nat.lt_of_lt_of_le (Heap.lt_size e) (I.ok.cab x c hfn hc)))).trans (I.base.keep b o e n hb hx)
    · obtain ⟨sl,e1⟩:=I.base.slot b o e n hb hx
      exact ⟨sl,(hs.2 b (Nat.ne_of_lt (Nat.lt_of_lt_of_le (Heap.lt_size e) (I.ok.cab x c hfn hc)))).trans e1⟩
    · obtain ⟨o',e1⟩:=I.base.there b o e hx
      exact ⟨o',(hs.2 b (Nat.ne_of_lt (Nat.lt_of_lt_of_le (Heap.lt_size e) (I.ok.cab x c hfn hc)))).trans e1⟩
    · by_cases hj:j=i
      · subst hj
        rw [hi] at e1;cases e1
        rw [List.getElem?_set_self hiσ] at e2;cases e2;exact ⟨u,r,.inr ⟨.inl hk,c,hc,hc'⟩⟩
      · rw [List.getElem?_set_ne (Ne.symm hj)] at e2
        obtain ⟨u',r',q⟩:=hl j y v' e1 e2 e3;refine ⟨u',r',?_⟩
        rcases q with q | ⟨k,c',e,z'⟩
        · exact .inl q
        · refine .inr ⟨k,c',e,z'.sameBut hs ?_⟩
          rintro rfl
          exact hj (zim hN e1 (I.ok.inj _ _ _ e hc▸hi))
    · by_cases hcc:c'=c
      · subst hcc;exact ⟨_,hc'⟩
      · obtain ⟨w2,z2⟩:=I.cell y c' e
        exact ⟨w2,z2.sameBut hs hcc⟩
    · obtain ⟨e,n,ne,nf,d⟩:=I.pin p hp
      refine ⟨(hs.2 p.1 ?_).trans e,n,ne,nf,d⟩;intro q;rw [q,hoc] at e;have q':oc=p.2:=Option.some.inj e
      exact d w' (by rw [<-q'];exact hocd)
theorem zlO {M:Model} {A:Around} {E:Value->Shared->Prop} {i:Nat} {x:Str} {v:V} {u:Value} {Q:Unit->Shared->Prop} (I:Inv X pins σ H s) (hN:X.N.Nodup) (hi:X.N[i]?=some x) (hx:Loc X.env.scope x) (r:RelV v u)
  (h:∀ s',Inv X pins (σ.set i (some v)) H s'->Q () s') (hf:X.fn x=true\/X.env.scope.names.lookup x=some .local:=by first | exact .inl rfl | exact .inr rfl | assumption):wpAny M A (storeName X.env x u) Q E s:=
 zlu I hN hi hx r (λs' I' _=>h s' I') hf
theorem Inv.call' {s':Shared} {ch:List Addr} (I:Inv X pins σ H s) (ho:s'.os=s.os) (u:Un (frs X.stack) ch H H' s.heap s'.heap) (hok:HOk X.prog X.w H' s'.heap) (hg:AllBare s'.gens)
  (hch:∀ b∈ch,(b∈X.ex\/X.s₀.heap.objs.size<=b)/\b≠X.env.locals/\(∀ x c,X.env.cells.lookup x=some c->c≠b)/\∀ p∈X.pn++pins,p.1≠b):Inv X pins σ H' s':=by
 obtain ⟨h',g',d',t',o'⟩:=s';have e:o'=s.os:=ho;subst e;exact I.call (g':=g') (t':=t') (d':=d') u hok hg hch
end
noncomputable abbrev XK:=Value->Option Addr->Hp->Prop
noncomputable abbrev St:=List (Option V)
noncomputable abbrev VK:=V->Hp->Prop
noncomputable abbrev TE:=St->Hp->VK->Prop
noncomputable abbrev TT:=St->Hp->(Bool->Hp->Prop)->Prop
noncomputable abbrev TA:=St->Hp->(List V->Hp->Prop)->Prop
structure Ends where
 nx:St->Hp->Prop
 rt:VK
 bk:St->Hp->Prop:=λ_ _=>False
 ct:St->Hp->Prop:=λ_ _=>False
noncomputable abbrev TS:=Ends->St->Hp->Prop
inductive EP (X:Cx) (pins:List (Addr×Obj)) (σ:St) (Q:VK) (u:Value) (s':Shared):Prop where
 | mk (v:V) (H':Hp) (I:Inv X pins σ H' s') (r:RelV v u) (q:Q v H')
inductive TP (X:Cx) (pins:List (Addr×Obj)) (σ:St) (Q:Bool->Hp->Prop) (b:Bool) (s':Shared):Prop where
 | mk (H':Hp) (I:Inv X pins σ H' s') (q:Q b H')
inductive AP (X:Cx) (pins:List (Addr×Obj)) (σ:St) (Q:List V->Hp->Prop) (us:List Value) (s':Shared):Prop where
 | mk (vs:List V) (H':Hp) (I:Inv X pins σ H' s') (r:Vals vs us) (q:Q vs H')
noncomputable def SP (X:Cx) (pins:List (Addr×Obj)) (D:Ends) (f:Flow) (s':Shared):Prop:=
 match f with
 | .next=>∃ σ' H',Inv X pins σ' H' s'/\D.nx σ' H'
 | .brk=>∃ σ' H',Inv X pins σ' H' s'/\D.bk σ' H'
 | .cont=>∃ σ' H',Inv X pins σ' H' s'/\D.ct σ' H'
 | .ret u=>∃ v σ' H',Inv X pins σ' H' s'/\RelV v u/\D.rt v H'
noncomputable def PE (X:Cx) (e:Expr) (t:TE):Prop:=
 ∀ (pins:List (Addr×Obj)) (s:Shared) (σ:St) (H:Hp) (Q:VK),Inv X pins σ H s->t σ H Q->wpAny (model X.prog X.w) X.A (eval e X.env) (EP X pins σ Q) X.xe s
noncomputable def PT (X:Cx) (e:Expr) (t:TT):Prop:=
 ∀ (pins:List (Addr×Obj)) (s:Shared) (σ:St) (H:Hp) (Q:Bool->Hp->Prop),Inv X pins σ H s->t σ H Q->wpAny (model X.prog X.w) X.A (isTrue e X.env (eval e X.env)) (TP X pins σ Q) X.xe s
noncomputable def PW (X:Cx) (e:Expr) (t:TT):Prop:=
 ∀ (whole:Sem Value) (pins:List (Addr×Obj)) (s:Shared) (σ:St) (H:Hp) (Q:Bool->Hp->Prop),Inv X pins σ H s->t σ H Q->wpAny (model X.prog X.w) X.A (isTrue e X.env whole) (TP X pins σ Q) X.xe s
theorem PW.pt {X:Cx} {e:Expr} {t:TT} (h:PW X e t):PT X e t:=h _
noncomputable def PA (X:Cx) (es:List Expr) (t:TA):Prop:=
 ∀ (pos:Pos) (pins:List (Addr×Obj)) (s:Shared) (σ:St) (H:Hp) (Q:List V->Hp->Prop),Inv X pins σ H s->t σ H Q->wpAny (model X.prog X.w) X.A (spliced (backTo pos (starEach es X.env))) (AP X pins σ Q) X.xe s
noncomputable def PS (X:Cx) (st:Stmt) (t:TS):Prop:=
 ∀ (pins:List (Addr×Obj)) (s:Shared) (σ:St) (H:Hp) (D:Ends),Inv X pins σ H s->t D σ H->wpAny (model X.prog X.w) X.A (exec st X.env) (SP X pins D) X.xe s
noncomputable def PSs (X:Cx) (st:List Stmt) (t:TS):Prop:=
 ∀ (pins:List (Addr×Obj)) (s:Shared) (σ:St) (H:Hp) (D:Ends),Inv X pins σ H s->t D σ H->wpAny (model X.prog X.w) X.A (execs st X.env) (SP X pins D) X.xe s
theorem thn {α:Type} {t:Sem α} {Q Q':α->Shared->Prop} {M:Model} {A:Around} {E:Value->Shared->Prop} {s:Shared} (h:wpAny M A t Q E s) (hQ:∀ a s,Q a s->Q' a s):wpAny M A t Q' E s:=wpAny_mono h hQ λ_ _ x=>x
section
variable {X:Cx}
theorem bin {a b:Expr} {ta tb:TE} (ha:PE X a ta) (hb:PE X b tb) {pins:List (Addr×Obj)} {s:Shared} {σ:St} {H:Hp} {R:V->V->Hp->Prop} (I:Inv X pins σ H s) (h:ta σ H λx H1=>tb σ H1 λy H2=>R x y H2)
  {α:Type} {Q:α->Shared->Prop} {f:Value->Value->Sem α}
  (hf:∀ v u s2 x y H2,Inv X pins σ H2 s2->RelV x v->RelV y u->R x y H2->wpAny (model X.prog X.w) X.A (f v u) Q X.xe s2) :
  wpAny (model X.prog X.w) X.A (eval a X.env) (λv s₁=>wpAny (model X.prog X.w) X.A (eval b X.env) (λu s₂=>wpAny (model X.prog X.w) X.A (f v u) Q X.xe s₂) X.xe s₁) X.xe s:=by
 refine thn (ha pins s σ H _ I h) λv s1 q_=>?_;obtain ⟨x,H1,I1,r1,q1⟩:=q_;refine thn (hb pins s1 σ H1 _ I1 q1) λu s2 q_=>?_;obtain ⟨y,H2,I2,r2,q2⟩:=q_;exact hf v u s2 x y H2 I2 r1 r2 q2
noncomputable def tVar (i:Nat):TE:=λσ H Q=>∃ v,σ[i]?=some (some v)/\Q v H
noncomputable def tC (v:V):TE:=λ_ H Q=>Q v H
theorem zq6 {i:Nat} {x:Str} {pos:Pos} (hN:X.N[i]?=some x) (hv:Vis X.env.scope x) (hd:(x==("__debug__":Str))=false:=by decide) (hcd:(x==("__classdict__":Str))=false:=by decide):PE X (.Name x pos) (tVar i):=by
 intro pins s σ H Q I h;obtain ⟨v,e,h⟩:=h;obtain ⟨m,hn,hl⟩:=I.loc;obtain ⟨u,r,l⟩:=hl i x v hN e hv;have fin:EP X pins σ Q u s:=⟨v,H,I,r,h⟩
 rcases l with ⟨hk,hm⟩ | ⟨hk,c,hc,hcell⟩
 ·exact wpAny_Name (wpAny_loadName_local I.ok.kind hk hn hm fin) hd
 ·rcases hk with hk | hk
  ·exact wpAny_Name (wpAny_loadName_cell I.ok.kind hk hc hcell fin) hd
  ·exact wpAny_Name (wpAny_loadName_free I.ok.kind hk hc hcell fin hcd) hd
theorem zpT {i j pos}:PE X (.Constant (.int i) j pos) (tC (.int i)):=λ_ _ _ H _ I h=>wpAny_Constant_int ⟨.int i,H,I.tok _,⟨_,rfl⟩,h⟩
theorem zsG {b j pos}:PE X (.Constant (.bool b) j pos) (tC (.bl b)):=λ_ _ _ H _ I h=>Constant_bool ⟨.bl b,H,I,rfl,h⟩
theorem zrL {j pos}:PE X (.Constant .none j pos) (tC .non):=λ_ _ _ H _ I h=>Constant_none ⟨.non,H,I,rfl,h⟩
theorem zqS {x j pos}:PE X (.Constant (.str x) j pos) (tC (.str x)):=λ_ _ _ H _ I h=>Calls.Constant_str ⟨.str x,H,I.tok _,⟨_,rfl⟩,h⟩
noncomputable def Gl (X:Cx) (x:Str):Prop:=X.env.kindOf x=some .globalImplicit
theorem zlf {E:Value->Shared->Prop} {pins:List (Addr×Obj)} {s:Shared} {σ:St} {H:Hp} {x:Str} {u:Value} {pos:Pos} {Q:Value->Shared->Prop} (I:Inv X pins σ H s) (hg:Gl X x) (hm:X.mg x=some u) (h:Q u s)
  (hd:(x==("__debug__":Str))=false:=by decide):wpAny (model X.prog X.w) X.A (eval (.Name x pos) X.env) Q E s:=
 Calls.Name_function_global I.ok.kind hg (Calls.loadGlobal_global (by rw [I.ok.glob];exact I.mod.glob.keeps I.bk) hm h) hd
theorem zhG {E:Value->Shared->Prop} {pins:List (Addr×Obj)} {s:Shared} {σ:St} {H:Hp} {x:Str} {u:Value} {pos:Pos} {Q:Value->Shared->Prop} (I:Inv X pins σ H s) (hg:Gl X x) (hm:X.mg x=none) (hv:bootBuiltins x=some u) (h:Q u s)
  (hn:x ≠ "__name__":=by decide) (hd:(x==("__debug__":Str))=false:=by decide):wpAny (model X.prog X.w) X.A (eval (.Name x pos) X.env) Q E s:=by
 obtain ⟨mb,h1,h2⟩:=I.mod.blt
 exact Calls.Name_function_global I.ok.kind hg (Calls.loadGlobal_builtin (by rw [I.ok.glob];exact I.mod.glob.keeps I.bk) hm (by rw [I.ok.blt];exact h1.keeps I.bk) ((h2 x hn).trans hv) h) hd
theorem zoc {x:Str} {v:V} {u:Value} {pos:Pos} (hg:Gl X x) (hm:X.mg x=some u) (r:RelV v u) (hd:(x==("__debug__":Str))=false:=by decide):PE X (.Name x pos) (tC v):=
 fun _ _ _ H _ I h=>zlf I hg hm ⟨v,H,I,r,h⟩ hd
theorem zoD {x:Str} {v:V} {u:Value} {pos:Pos} (hg:Gl X x) (hm:X.mg x=none) (hv:bootBuiltins x=some u) (r:RelV v u) (hn:x ≠ "__name__":=by decide) (hd:(x==("__debug__":Str))=false:=by decide):PE X (.Name x pos) (tC v):=
 fun _ _ _ H _ I h=>zhG I hg hm hv ⟨v,H,I,r,h⟩ hn hd
noncomputable def t2I (ta tb:TE) (k:Int->Int->Hp->Prop):St->Hp->Prop:=λσ H=>ta σ H λx H1=>tb σ H1 λy H2=>∃ i j,x=.int i/\y=.int j/\k i j H2
variable {a b:Expr} {ta tb:TE} {pos:Pos}
noncomputable def tCmp (p:Int->Int->Bool) (ta tb:TE):TE:=λσ H Q=>t2I ta tb (λi j H2=>Q (.bl (p i j)) H2) σ H
noncomputable abbrev tGe:TE->TE->TE:=tCmp λi j=>decide (j<=i)
variable {tA tB':TT} {rest:List Expr}
noncomputable def tAnd (t u:TT):TT:=λσ H Q=>t σ H λc H1=>if c=true then u σ H1 Q else Q false H1
noncomputable def tOr (t u:TT):TT:=λσ H Q=>t σ H λc H1=>if c=true then Q true H1 else u σ H1 Q
noncomputable def tNot (t:TT):TT:=λσ H Q=>t σ H λc H1=>Q (!c) H1
theorem znL (ha:PT X a tA):PW X (.BoolOp .And [a] pos) tA:=by
 intro wh pins s σ H Q I h;refine isTrue_and (thn (ha pins s σ H Q I h) λc s1 e=>?_)
 cases c with
 | true=>exact isTrue_and_nil e
 | false=>exact e
theorem zp6 (ha:PT X a tA):PW X (.BoolOp .Or [a] pos) tA:=by
 intro wh pins s σ H Q I h;refine isTrue_or (thn (ha pins s σ H Q I h) λc s1 e=>?_)
 cases c with
 | false=>exact isTrue_or_nil e
 | true=>exact e
theorem zpF (ha:PT X a tA) (hb:PW X (.BoolOp .And (b::rest) pos) tB'):PW X (.BoolOp .And (a::b::rest) pos) (tAnd tA tB'):=by
 intro wh pins s σ H Q I h;refine isTrue_and (thn (ha pins s σ H _ I h) λc s1 q_=>?_);obtain ⟨H1,I1,q1⟩:=q_
 cases c with
 | true=>exact hb wh pins s1 σ H1 Q I1 q1
 | false=>exact ⟨H1,I1,q1⟩
theorem zsM (ha:PT X a tA) (hb:PW X (.BoolOp .Or (b::rest) pos) tB'):PW X (.BoolOp .Or (a::b::rest) pos) (tOr tA tB'):=by
 intro wh pins s σ H Q I h;refine isTrue_or (thn (ha pins s σ H _ I h) λc s1 q_=>?_);obtain ⟨H1,I1,q1⟩:=q_
 cases c with
 | true=>exact ⟨H1,I1,q1⟩
 | false=>exact hb wh pins s1 σ H1 Q I1 q1
theorem zqe (ha:PT X a tA):PT X (.UnaryOp .Not a pos) (tNot tA):=by
 intro pins s σ H Q I h;exact isTrue_not (thn (ha pins s σ H (λc H1=>Q (!c) H1) I h) λ_ _ ⟨H1,I1,q1⟩=>⟨H1,I1,q1⟩)
noncomputable def zr2 (ta tb:TE):TE:=λσ H Q=>ta σ H λx H1=>∃ c,x=.bl c/\if c=true then tb σ H1 Q else Q (.bl false) H1
noncomputable def tOrV (ta tb:TE):TE:=λσ H Q=>ta σ H λx H1=>∃ c,x=.bl c/\if c=true then Q (.bl true) H1 else tb σ H1 Q
theorem zno {op} {t:TE} (h:PE X a t):PE X (.BoolOp op [a] pos) t:=λpins s σ H Q I hw=>BoolOp_one (h pins s σ H Q I hw)
theorem zqo (ha:PE X a ta) (hb:PE X (.BoolOp .And (b::rest) pos) tb):PE X (.BoolOp .And (a::b::rest) pos) (zr2 ta tb):=by
 intro pins s σ H Q I h;refine BoolOp_and (thn (ha pins s σ H _ I h) λv s1 q_=>?_);obtain ⟨x,H1,I1,r1,q1⟩:=q_;obtain ⟨c,rfl,q1⟩:=q1;cases r1;refine wpAny_truthy_bool ?_
 cases c with
 | true=>exact hb pins s1 σ H1 Q I1 q1
 | false=>exact ⟨.bl false,H1,I1,rfl,q1⟩
theorem zsB (ha:PE X a ta) (hb:PE X (.BoolOp .Or (b::rest) pos) tb):PE X (.BoolOp .Or (a::b::rest) pos) (tOrV ta tb):=by
 intro pins s σ H Q I h;refine BoolOp_or (thn (ha pins s σ H _ I h) λv s1 q_=>?_);obtain ⟨x,H1,I1,r1,q1⟩:=q_;obtain ⟨c,rfl,q1⟩:=q1;cases r1;refine wpAny_truthy_bool ?_
 cases c with
 | false=>exact hb pins s1 σ H1 Q I1 q1
 | true=>exact ⟨.bl true,H1,I1,rfl,q1⟩
noncomputable def tIf (t:TT) (ta tb:TE):TE:=λσ H Q=>t σ H λc H1=>if c=true then ta σ H1 Q else tb σ H1 Q
theorem zmW {c:Expr} (hc:PT X c tA) (ha:PE X a ta) (hb:PE X b tb):PE X (.IfExp c a b pos) (tIf tA ta tb):=by
 intro pins s σ H Q I h;refine wpAny_IfExp (thn (hc pins s σ H _ I h) λd s1 q_=>?_);obtain ⟨H1,I1,q1⟩:=q_
 cases d with
 | true=>exact ha pins s1 σ H1 Q I1 q1
 | false=>exact hb pins s1 σ H1 Q I1 q1
end
noncomputable def SqL (K:PySem.W.Frag) (H:Hp) (a:Addr) (xs:List V):Prop:=
 Rd H a (.lst xs) ∨
  ∃ (o:Obj) (its:Array Value) (n:Nat),K.lookup a=some o/\o.cls=.type "list"/\o.dict=none/\o.data=.seq its n/\its.size<=sizeLine/\Vals xs its.toList
noncomputable def SqT (K:PySem.W.Frag) (H:Hp) (a:Addr) (xs:List V):Prop:=
 Rd H a (.tup xs) ∨
  ∃ (o:Obj) (its:Array Value) (n:Nat),K.lookup a=some o/\o.cls=.type "tuple"/\o.dict=none/\o.data=.seq its n/\its.size<=sizeLine/\Vals xs its.toList
noncomputable def absV:Value->Option V
 | .none=>some .non
 | .bool b=>some (.bl b)
 | .int i _=>some (.int i)
 | .str x _=>some (.str x)
 | .bytes b _=>some (.byt b)
 | .float b _=>some (.flt b)
 | .ref a=>some (.ref a)
 | .type n=>some (.ty n)
 | _=>none
theorem RelV.abs {x:V} {u:Value} (r:RelV x u):absV u=some x:=by
 cases x with
 | non=>cases r;rfl
 | bl _=>cases r;rfl
 | int _=>obtain ⟨t,rfl⟩:=r;rfl
 | str _=>obtain ⟨t,rfl⟩:=r;rfl
 | byt _=>obtain ⟨t,rfl⟩:=r;rfl
 | flt _=>obtain ⟨t,rfl⟩:=r;rfl
 | ref _=>cases r;rfl
 | ty _=>cases r;rfl
theorem RelV.inj {x y:V} {u:Value} (r:RelV x u) (q:RelV y u):x=y:=Option.some.inj (r.abs.symm.trans q.abs)
theorem Vals.inj:∀ {xs ys:List V} {us:List Value},Vals xs us->Vals ys us->xs=ys
 | _,_,_,.nil,.nil=>rfl
 | _,_,_,.cons r t,.cons r' t'=>by rw [r.inj r',Vals.inj t t']
section
variable {X:Cx} {pins:List (Addr×Obj)} {σ:St} {H:Hp} {s:Shared} {a:Addr} {xs ys:List V}
theorem SqL.of {K:PySem.W.Frag} (h:H a=some (.lst xs)):SqL K H a xs:=.inl (.inl h)
theorem SqT.of {K:PySem.W.Frag} (h:H a=some (.tup xs)):SqT K H a xs:=.inl (.inl h)
theorem Inv.list (I:Inv X pins σ H s) (h:SqL X.K H a xs):∃ its:List Value,Vals xs its/\PlainL s.heap a its.toArray/\xs.length<=sizeLine:=by
 rcases h with h | ⟨o,its,n,hk,hc,hd,hs,hz,r⟩
 ·obtain ⟨z,its,n,r,e⟩:=h.ok I.hok
  exact ⟨its,r,⟨_,n,e,rfl,rfl,rfl⟩,z⟩
 ·refine ⟨its.toList,r,⟨o,n,I.kIn a o hk,hc,hd,by simpa using hs⟩,?_⟩
  have e:=r.length;simp only [Array.length_toList] at e;omega
theorem Inv.tuple (I:Inv X pins σ H s) (h:SqT X.K H a xs):∃ its:List Value,Vals xs its/\IsTup s.heap a its.toArray/\xs.length<=sizeLine:=by
 rcases h with h | ⟨o,its,n,hk,hc,_,hs,hz,r⟩
 ·obtain ⟨z,its,r,p⟩:=h.ok I.hok
  exact ⟨its,r,p.1,z⟩
 ·refine ⟨its.toList,r,⟨o,I.kIn a o hk,hc,n,by simpa using hs⟩,?_⟩
  have e:=r.length;simp only [Array.length_toList] at e;omega
theorem Inv.tupleB (I:Inv X pins σ H s) (h:SqT X.K H a xs):∀ o,s.heap.get? a=some o->o.dict=none:=by
 rcases h with h | ⟨o,its,n,hk,hc,hd,hs,hz,r⟩
 ·obtain ⟨z,its,r,p⟩:=h.ok I.hok
  exact p.2
 ·intro o2 e2
  rw [I.kIn a o hk] at e2;cases e2;exact hd
theorem Inv.list_inj (I:Inv X pins σ H s) (h:SqL X.K H a xs) (h':SqL X.K H a ys):xs=ys:=by
 obtain ⟨its,r,⟨o,n,e,_,_,d⟩,_⟩:=I.list h;obtain ⟨its',r',⟨o',n',e',_,_,d'⟩,_⟩:=I.list h'
 rw [e] at e';cases e'
 rw [d] at d';injection d' with d1 _
 have:its=its':=by simpa using congrArg Array.toList d1
 subst this;exact r.inj r'
theorem Inv.tuple_inj (I:Inv X pins σ H s) (h:SqT X.K H a xs) (h':SqT X.K H a ys):xs=ys:=by
 obtain ⟨its,r,⟨o,e,_,n,d⟩,_⟩:=I.tuple h;obtain ⟨its',r',⟨o',e',_,n',d'⟩,_⟩:=I.tuple h'
 rw [e] at e';cases e'
 rw [d] at d';injection d' with d1 _
 have:its=its':=by simpa using congrArg Array.toList d1
 subst this;exact r.inj r'
end
noncomputable abbrev Cx.wish (X:Cx) (E:Value->Shared->Prop):Cx:={ X with xe:=E }
noncomputable abbrev Cx.nox (X:Cx):Cx:=X.wish λ_ _=>False
theorem Cx.Ok.wish {X:Cx} (ok:X.Ok) (E:Value->Shared->Prop):(X.wish E).Ok:=
 ⟨ok.mod,ok.kind,ok.glob,ok.blt,ok.above,ok.inj,ok.has,ok.cab,ok.hd,ok.frames,ok.stk,ok.exf,ok.bs,ok.bsz,ok.noex,ok.exfs,ok.funs,ok.frf⟩
theorem Cx.Ok.unwish {X:Cx} {E:Value->Shared->Prop} (ok:(X.wish E).Ok):X.Ok:=
 ⟨ok.mod,ok.kind,ok.glob,ok.blt,ok.above,ok.inj,ok.has,ok.cab,ok.hd,ok.frames,ok.stk,ok.exf,ok.bs,ok.bsz,ok.noex,ok.exfs,ok.funs,ok.frf⟩
section
variable {X:Cx} {pins:List (Addr×Obj)} {σ:St} {H:Hp} {s:Shared} {E:Value->Shared->Prop}
theorem Inv.wish (I:Inv X pins σ H s) (E:Value->Shared->Prop):Inv (X.wish E) pins σ H s:=⟨I.ok.wish E,I.os,I.bare,I.base,I.loc,I.cell,I.free,I.freeC,I.pin,I.hok,I.len⟩
theorem Inv.unwish (I:Inv (X.wish E) pins σ H s):Inv X pins σ H s:=⟨I.ok.unwish,I.os,I.bare,I.base,I.loc,I.cell,I.free,I.freeC,I.pin,I.hok,I.len⟩
theorem SP.unwish {D:Ends} {f:Flow} {s':Shared} (h:SP (X.wish E) pins D f s'):SP X pins D f s':=by
 cases f with
 | next=>obtain ⟨σ',H',I,q⟩:=h;exact ⟨σ',H',I.unwish,q⟩
 | brk=>obtain ⟨σ',H',I,q⟩:=h;exact ⟨σ',H',I.unwish,q⟩
 | cont=>obtain ⟨σ',H',I,q⟩:=h;exact ⟨σ',H',I.unwish,q⟩
 | ret u=>obtain ⟨v,σ',H',I,r,q⟩:=h;exact ⟨v,σ',H',I.unwish,r,q⟩
theorem PE.nox {e:Expr} {t:TE} (h:PE X.nox e t):PE X e t:=λpins s σ H Q I hw=>
 wpAny_mono (h pins s σ H Q (I.wish _) hw) (λ_ _ ⟨v,H',I',r,q⟩=>⟨v,H',I'.unwish,r,q⟩) λ_ _ z=>False.elim z
theorem PT.nox {e:Expr} {t:TT} (h:PT X.nox e t):PT X e t:=λpins s σ H Q I hw=>
 wpAny_mono (h pins s σ H Q (I.wish _) hw) (λ_ _ ⟨H',I',q⟩=>⟨H',I'.unwish,q⟩) λ_ _ z=>False.elim z
theorem PSs.nox {st:List Stmt} {t:TS} (h:PSs X.nox st t):PSs X st t:=λpins s σ H D I hw=>
 wpAny_mono (h pins s σ H D (I.wish _) hw) (λ_ _ q=>q.unwish) λ_ _ z=>False.elim z
end
section
variable {X:Cx} {st:Stmt} {rest:List Stmt} {t u:TS} {e:Expr} {te:TE} {pos:Pos}
noncomputable def zsJ:TS:=λD σ H=>D.nx σ H
noncomputable def tSeq (t u:TS):TS:=λD σ H=>t { D with nx:=u D } σ H
theorem znR:PSs X [] zsJ:=λ_ _ σ H _ I h=>wpAny_execs_nil ⟨σ,H,I,h⟩
theorem zlV (h1:PS X st t) (h2:PSs X rest u):PSs X (st::rest) (tSeq t u):=by
 intro pins s σ H D I h;refine wpAny_execs_cons (thn (h1 pins s σ H { D with nx:=u D } I h) λf s1 q=>?_)
 cases f with
 | next=>
  obtain ⟨σ',H',I',q⟩:=q;exact h2 pins s1 σ' H' D I' q
 | ret v=>exact q
 | brk=>exact q
 | cont=>exact q
theorem Inv.quiet {pins:List (Addr×Obj)} {σ:St} {H:Hp} {s:Shared} (I:Inv X pins σ H s):interactive X.env=false:=by simp [interactive,I.ok.kind]
noncomputable def zsF (te:TE):TS:=λD σ H=>te σ H λ_ H1=>D.nx σ H1
theorem zoR (he:PE X e te) (hs:swapsWith e none pos.line X.env=pure false:=by rfl):PS X (.Expr e pos) (zsF te):=by
 intro pins s σ H D I h;exact wpAny_Expr_any (thn (he pins s σ H _ I h) λv s1 ⟨x,H1,I1,r1,q1⟩=>⟨σ,H1,I1,q1⟩) I.quiet hs
noncomputable def tRet (te:TE):TS:=λD σ H=>te σ H D.rt
theorem zrl (he:PE X e te):PS X (.Return (some e) pos) (tRet te):=by
 intro pins s σ H D I h;exact wpAny_Return_some (thn (he pins s σ H _ I h) λv s1 ⟨x,H1,I1,r1,q1⟩=>⟨x,σ,H1,I1,r1,q1⟩)
noncomputable def tIfS (c:TT) (t u:TS):TS:=λD σ H=>c σ H λb H1=>if b=true then t D σ H1 else u D σ H1
theorem zrS {c:Expr} {a b:List Stmt} {tc:TT} (hc:PT X c tc) (ha:PSs X a t) (hb:PSs X b u):PS X (.If c a b pos) (tIfS tc t u):=by
 intro pins s σ H D I h;refine wpAny_If (thn (hc pins s σ H _ I h) λd s1 q_=>?_);obtain ⟨H1,I1,q1⟩:=q_
 cases d with
 | true=>exact ha pins s1 σ H1 D I1 q1
 | false=>exact hb pins s1 σ H1 D I1 q1
end
noncomputable abbrev TG:=V->St->Hp->(St->Hp->Prop)->Prop
noncomputable abbrev TGs:=List V->St->Hp->(St->Hp->Prop)->Prop
noncomputable def PG (X:Cx) (target:Expr) (t:TG):Prop:=
 ∀ (pins:List (Addr×Obj)) (s:Shared) (σ:St) (H:Hp) (v:V) (u:Value) (Q:St->Hp->Prop),Inv X pins σ H s->RelV v u->t v σ H Q →
  wpAny (model X.prog X.w) X.A (assign target X.env u) (λ_ s'=>∃ σ' H',Inv X pins σ' H' s'/\Q σ' H') X.xe s
noncomputable def PGs (X:Cx) (ts:List Expr) (t:TGs):Prop:=
 ∀ (pins:List (Addr×Obj)) (s:Shared) (σ:St) (H:Hp) (vs:List V) (us:List Value) (Q:St->Hp->Prop),Inv X pins σ H s->Vals vs us->t vs σ H Q →
  wpAny (model X.prog X.w) X.A (assignInOrder ((assignEach ts X.env).map (·.2)) us) (λ_ s'=>∃ σ' H',Inv X pins σ' H' s'/\Q σ' H') X.xe s
noncomputable abbrev TSet:=V->V->V->Hp->(Hp->Prop)->Prop
noncomputable def PSet (X:Cx) (t:TSet):Prop:=
 ∀ (pins:List (Addr×Obj)) (s:Shared) (σ:St) (H:Hp) (o i v:V) (ov iv u:Value) (Q:Hp->Prop),Inv X pins σ H s->RelV o ov->RelV i iv->RelV v u->t o i v H Q →
  wpAny (model X.prog X.w) X.A (setItem ov iv u) (λ_ s'=>∃ H',Inv X pins σ H' s'/\Q H') X.xe s
section
variable {X:Cx} {pos:Pos}
noncomputable def zmB (i:Nat):TG:=λv σ H Q=>Q (σ.set i (some v)) H
theorem zll {i:Nat} {x:Str} (hN:X.N.Nodup) (hi:X.N[i]?=some x) (hx:Loc X.env.scope x) (hf:X.fn x=true\/X.env.scope.names.lookup x=some .local:=by first | exact .inl rfl | exact .inr rfl | assumption):PG X (.Name x pos) (zmB i):=by
 intro pins s σ H v u Q I r h;exact wpAny_assign_Name (zlO I hN hi hx r (λs' I'=>⟨_,H,I',h⟩) hf)
noncomputable def gNil:TGs:=λvs σ H Q=>vs=[]/\Q σ H
noncomputable def zse (t:TG) (u:TGs):TGs:=λvs σ H Q=>∃ v r,vs=v::r/\t v σ H λσ' H'=>u r σ' H' Q
theorem zj6:PGs X [] gNil:=by
 intro pins s σ H vs us Q I r h;obtain ⟨e,h⟩:=h;subst e;cases r;exact assignInOrder_nil ⟨σ,H,I,h⟩
theorem zfg {e:Expr} {es:List Expr} {t:TG} {u:TGs} (h1:PG X e t) (h2:PGs X es u)
  (hs:(assignEach (e::es) X.env).map (·.2)=assign e X.env::(assignEach es X.env).map (·.2):=by rfl):PGs X (e::es) (zse t u):=by
 intro pins s σ H vs us Q I r h;obtain ⟨v,vr,e1,h⟩:=h;subst e1
 cases r with
 | cons r rr=>
  rw [hs];refine assignInOrder_cons (thn (h1 pins s σ H _ _ _ I r h) λ_ s1 q_=>?_);obtain ⟨σ1,H1,I1,q1⟩:=q_;exact h2 pins s1 σ1 H1 _ _ Q I1 rr q1
noncomputable def gTup (K:PySem.W.Frag) (n:Nat) (t:TGs):TG:=λv σ H Q=>∃ a xs,v=.ref a/\SqT K H a xs/\xs.length=n/\t xs σ H Q
theorem znC {es:List Expr} {k:Nat} {t:TGs} {n:Nat} (hc:X.calm=true) (h:PGs X es t)
  (hn:(assignEach es X.env).length=n:=by rfl) (hst:(assignEach es X.env).findIdx? (·.1)=none:=by rfl):PG X (.Tuple es k pos) (gTup X.K n t):=by
 intro pins s σ H v u Q I r hw;obtain ⟨a,xs,e1,hq,hl,hw⟩:=hw;subst e1;cases r;obtain ⟨its,rv,ht,hz⟩:=I.tuple hq;refine assign_Tuple_tuple (I.ok.hd hc) ht (by simp [hn,<-hl,rv.length]) hst λh' hx=>?_;have I1:Inv X pins σ H { s with heap:=h' }:=I.kept (t':=s.toks) λb o e=>hx b o (Nat.ne_of_lt (Heap.lt_size e)) e;exact h pins _ σ H xs _ Q I1 (by simpa using rv) hw
noncomputable def gSub (to ti:TE) (t:TSet):TG:=λv σ H Q=>to σ H λo H1=>ti σ H1 λi H2=>t o i v H2 λH3=>Q σ H3
theorem znp {o i:Expr} {to ti:TE} {t:TSet} (ho:PE X o to) (hi:PE X i ti) (hs:PSet X t)
  (ha:∀ v,assign (.Subscript o i pos) X.env v=(do
   let ov<-holding [v] (eval o X.env)
   let iv<-holding [v,ov] (eval i X.env)
   standAt pos
   holding [v,ov,iv] (setItem ov iv v)
   release [v,ov,iv] []):=by intro _;rfl):PG X (.Subscript o i pos) (gSub to ti t):=by
 intro pins s σ H v u Q I r h;rw [ha];refine wpAny_bind (wpAny_holding (thn (ho pins s σ H _ I h) λov s1 q_=>?_));obtain ⟨x,H1,I1,r1,q1⟩:=q_;refine wpAny_bind (wpAny_holding (thn (hi pins s1 σ H1 _ I1 q1) λiv s2 q_=>?_));obtain ⟨y,H2,I2,r2,q2⟩:=q_;refine wpAny_bind (wpAny_standAt (wpAny_bind (wpAny_holding (thn (hs pins s2 σ H2 x y v ov iv u _ I2 r1 r2 r q2) λ_ s3 q_=>?_))));obtain ⟨H3,I3,q3⟩:=q_;exact wpAny_release ⟨σ,H3,I3,q3⟩
noncomputable def tAsg (te:TE) (g:TG):TS:=λD σ H=>te σ H λx H1=>g x σ H1 D.nx
theorem zj2 {tg e:Expr} {te:TE} {g:TG} (he:PE X e te) (hg:PG X tg g) (hs:swapsWithSole [tg] e pos.line X.env=pure false:=by rfl) (hw:swappedStores [tg] e X.env=pure none:=by rfl)
  (h1:(assignEach [tg] X.env).map (·.2)=[assign tg X.env]:=by rfl):PS X (.Assign [tg] e pos) (tAsg te g):=by
 intro pins s σ H D I h;refine wpAny_Assign_stores (thn (he pins s σ H _ I h) λv s1 q_=>?_) hs hw;obtain ⟨x,H1,I1,r1,q1⟩:=q_;rw [h1];exact thn (hg pins s1 σ H1 x v _ I1 r1 q1) λ_ s2 q=>q
end
section
variable {X:Cx} {pos:Pos}
end
structure It where
 go:Nat->Hp->Prop
 yld:Nat->Hp->V->Hp->Prop
 stop:Nat->Hp->Prop
noncomputable def FpOk (X:Cx) (pins:List (Addr×Obj)) (H:Hp) (b:Addr):Prop:=
 H b=none/\b≠X.env.locals/\b ∉ X.fs/\(b∈X.ex\/X.s₀.heap.objs.size<=b)/\(∀ x c,X.env.cells.lookup x=some c->c≠b)/\∀ p∈X.pn++pins,p.1≠b
theorem Inv.fpOk {X:Cx} {pins:List (Addr×Obj)} {σ:St} {H H':Hp} {s:Shared} {b:Addr} (I:Inv X pins σ H s) (hb:s.heap.objs.size<=b) (hn:H' b=none):FpOk X pins H' b:=by
 refine ⟨hn,Nat.ne_of_gt (Nat.lt_of_lt_of_le I.lt hb),I.nofs hb,.inr (Nat.le_trans I.sz hb),λx c e z=>?_,λp hp z=>?_⟩
 ·obtain ⟨v,q⟩:=I.cell x c e
  exact absurd (Nat.lt_of_lt_of_le q.lt (by rw [z];exact hb)) (Nat.lt_irrefl _)
 ·exact absurd (Nat.lt_of_lt_of_le (Heap.lt_size (I.pin p hp).1) (by rw [z];exact hb)) (Nat.lt_irrefl _)
structure Turn (P:Program) (w:World) (K:PySem.W.Frag) (tg:Expr) (J:It) (fp:List Addr) (it:Addr) (tn:Nat->Heap->Prop):Prop where
 mem:it∈fp
 obj:∀ i h,tn i h->∀ b∈fp,∃ o,h.get? b=some o/\∀ v,o.data≠.cell v
 keep:∀ i h h',tn i h->(∀ b∈fp,∀ o,h.get? b=some o->h'.get? b=some o)->tn i h'
 item:∀ (X:Cx),X.prog=P->X.w=w->X.K=K->X.calm=true->∀ (i:Nat) (pins:List (Addr×Obj)) (s:Shared) (σ:St) (H:Hp) (E:Value->Shared->Prop),Inv X pins σ H s->(∀ b∈fp,FpOk X pins H b)->tn i s.heap->J.go i H →
  wpAny (model P w) X.A (pyNext (.ref it)) (λr s1=>∃ u,r=some u ∧
   wpAny (model P w) X.A (letOwnedTupleGo tg (.ref it) u) (λ_ s2=>∃ x H',Inv X pins σ H' s2/\RelV x u/\J.yld i H x H'/\tn (i+1) s2.heap/\∀ b∈fp,H' b=none) E s1) E s
 done:∀ (X:Cx),X.prog=P->X.w=w->X.K=K->X.calm=true->∀ (i:Nat) (pins:List (Addr×Obj)) (s:Shared) (σ:St) (H:Hp) (E:Value->Shared->Prop),Inv X pins σ H s->(∀ b∈fp,FpOk X pins H b)->tn i s.heap->J.stop i H →
  wpAny (model P w) X.A (pyNext (.ref it)) (λr s1=>r=none/\Inv X pins σ H s1) E s
 self:∀ (A:Around) (i:Nat) (s:Shared) (Q:Value->Shared->Prop) (E:Value->Shared->Prop),tn i s.heap->Q (.ref it) s->wpAny (model P w) A (pyIter (.ref it)) Q E s
noncomputable abbrev TI:=St->Hp->(It->Hp->Prop)->Prop
noncomputable def PIE (X:Cx) (pins:List (Addr×Obj)) (σ:St) (tg:Expr) (R:It->Hp->Prop) (itv:Value) (s2:Shared):Prop:=
 ∃ (it:Addr) (fp:List Addr) (tn:Nat->Heap->Prop) (J:It) (H':Hp),itv=.ref it/\Inv X pins σ H' s2/\Turn X.prog X.w X.K tg J fp it tn/\tn 0 s2.heap/\(∀ b∈fp,FpOk X pins H' b)/\R J H'
noncomputable def PI (X:Cx) (tg iter:Expr) (wi:TI):Prop:=
 ∀ (pins:List (Addr×Obj)) (s:Shared) (σ:St) (H:Hp) (R:It->Hp->Prop),Inv X pins σ H s->wi σ H R →
  wpAny (model X.prog X.w) X.A (eval iter X.env) (λv s1=>wpAny (model X.prog X.w) X.A (pyIter v) (PIE X pins σ tg R) X.xe s1) X.xe s
theorem zjk {M:Model} {A:Around} {E:Value->Shared->Prop} {s:Shared} {tg:Expr} {it:Addr} {u:Value} {o:Obj} {n:String} {vs:Array Value} {Q:Unit->Shared->Prop} (ho:s.heap.get? it=some o) (hc:o.cls=.type n) (hd:o.data=.fields vs)
    (hn:["enumerate", "zip", "dict_itemiterator", "dict_reverseitemiterator", "odict_iterator", "itertools.zip_longest", "itertools.pairwise"].contains n=false) (hQ:Q () s):wpAny M A (letOwnedTupleGo tg (.ref it) u) Q E s:=by
  unfold letOwnedTupleGo
  cases tg <;> first
    | exact wpAny_pure hQ
    | (cases u<;>first
        | exact wpAny_pure hQ
        | (refine wpAny_bind (wpAny_load ho ?_)
           rw [hc,hd];show wpAny M A (if (["enumerate", "zip", "dict_itemiterator", "dict_reverseitemiterator", "odict_iterator", "itertools.zip_longest", "itertools.pairwise"].contains n&&vs[0]?==some (rawInt _))=true then _ else _) Q E s
           rw [if_neg (by intro h;rw [hn,Bool.false_and] at h;cases h)]
           exact wpAny_pure hQ))
noncomputable def Itl (K:PySem.W.Frag) (a:Addr):It:=
 ⟨λi H=>∃ xs x,SqL K H a xs/\xs[i]?=some x,λi H x H'=>H'=H/\∀ xs,SqL K H a xs->xs[i]?=some x,λi H=>∃ xs,SqL K H a xs/\xs.length<=i⟩
noncomputable def Itt (K:PySem.W.Frag) (a:Addr):It:=
 ⟨λi H=>∃ xs x,SqT K H a xs/\xs[i]?=some x,λi H x H'=>H'=H/\∀ xs,SqT K H a xs->xs[i]?=some x,λi H=>∃ xs,SqT K H a xs/\xs.length<=i⟩
noncomputable def Itr (lo:Int) (n:Nat):It:=⟨λi _=>i<n,λi H x H'=>H'=H/\x=.int (lo+i),λi _=>n<=i⟩
theorem zkU {P:Program} {w:World} {K:PySem.W.Frag} {tg:Expr} (a it:Addr):Turn P w K tg (Itl K a) [it] it (λi h=>h.IsListIter it a i) where
 mem:=by simp
 obj:=λi h st b hb=>by
  have e:b=it:=by simpa using hb
  subst e;obtain ⟨o,e,c,d⟩:=st
  exact ⟨o,e,λv z=>by rw [d] at z;cases z⟩
 keep:=λi h h' st k=>st.at λo e=>k it (by simp) o e
 item:=by
  intro X hP hw hK hc i pins s σ H E I hf st hg;subst hP hw hK;obtain ⟨xs,x,hq,hx⟩:=hg;obtain ⟨its,rv,p,hz⟩:=I.list hq;obtain ⟨u,hu,ru⟩:=rv.get hx;obtain ⟨f0,f1,f2,f3,f4,f5⟩:=hf it (by simp);refine wpAny_pyNext_list_item st p.isList (x:=u) (by simpa using hu) λh' st' sb=>?_;have I1:Inv X pins σ H { s with heap:=h' }:=I.turned (t':=s.toks) (λb o hb e=>(sb.2 b hb).trans e) f0 f1 f3 f4 f5;obtain ⟨o,e,c,d⟩:=id st'
  exact ⟨u,rfl,zjk (s:={ s with heap:=h' }) e c d (by decide) ⟨x,H,I1,ru,⟨rfl,λys hy=>by rw [I.list_inj hy hq];exact hx⟩,st',λb hb=>(hf b hb).1⟩⟩
 done:=by
  intro X hP hw hK hc i pins s σ H E I hf st hg;subst hP hw hK;obtain ⟨xs,hq,hx⟩:=hg;obtain ⟨its,rv,p,hz⟩:=I.list hq;obtain ⟨f0,f1,f2,f3,f4,f5⟩:=hf it (by simp);have hl:=rv.length
  exact wpAny_pyNext_list_end (I.ok.hd hc) st p.isList (by simp;omega) λh' eb=>⟨rfl,I.turned (t':=s.toks) (λb o hb e=>eb b o hb e) f0 f1 f3 f4 f5⟩
 self:=λ_ _ _ _ _ st h=>wpAny_pyIter_listiter st h
theorem zix {P:Program} {w:World} {K:PySem.W.Frag} {tg:Expr} (a it:Addr):Turn P w K tg (Itt K a) [it] it (λi h=>h.IsTupleIter it a i) where
 mem:=by simp
 obj:=λi h st b hb=>by
  have e:b=it:=by simpa using hb
  subst e;obtain ⟨o,e,c,d⟩:=st
  exact ⟨o,e,λv z=>by rw [d] at z;cases z⟩
 keep:=λi h h' st k=>st.at λo e=>k it (by simp) o e
 item:=by
  intro X hP hw hK hc i pins s σ H E I hf st hg;subst hP hw hK;obtain ⟨xs,x,hq,hx⟩:=hg;obtain ⟨its,rv,p,hz⟩:=I.tuple hq;obtain ⟨u,hu,ru⟩:=rv.get hx;obtain ⟨f0,f1,f2,f3,f4,f5⟩:=hf it (by simp);refine wpAny_pyNext_tuple_item st (show s.heap.IsTuple a its.toArray from p) (x:=u) (by simpa using hu) λh' st' sb=>?_;have I1:Inv X pins σ H { s with heap:=h' }:=I.turned (t':=s.toks) (λb o hb e=>(sb.2 b hb).trans e) f0 f1 f3 f4 f5;obtain ⟨o,e,c,d⟩:=id st'
  exact ⟨u,rfl,zjk (s:={ s with heap:=h' }) e c d (by decide) ⟨x,H,I1,ru,⟨rfl,λys hy=>by rw [I.tuple_inj hy hq];exact hx⟩,st',λb hb=>(hf b hb).1⟩⟩
 done:=by
  intro X hP hw hK hc i pins s σ H E I hf st hg;subst hP hw hK;obtain ⟨xs,hq,hx⟩:=hg;obtain ⟨its,rv,p,hz⟩:=I.tuple hq;obtain ⟨f0,f1,f2,f3,f4,f5⟩:=hf it (by simp);have hl:=rv.length
  exact wpAny_pyNext_tuple_end (I.ok.hd hc) st (show s.heap.IsTuple a its.toArray from p) (by simp;omega) λh' eb=>⟨rfl,I.turned (t':=s.toks) (λb o hb e=>eb b o hb e) f0 f1 f3 f4 f5⟩
 self:=λ_ _ _ _ _ st h=>wpAny_pyIter_tupleiter st h
theorem ziO {P:Program} {w:World} {K:PySem.W.Frag} {tg:Expr} (it:Addr) (lo:Int) (n:Nat):Turn P w K tg (Itr lo n) [it] it (λi h=>IsRangeIter h it (lo+(i:Nat)*1) ((n:Int)-(i:Nat)) 1) where
 mem:=by simp
 obj:=λi h st b hb=>by
  have e:b=it:=by simpa using hb
  subst e
  exact ⟨_,st,λv z=>by
   have z':Data.fields _=Data.cell v:=z
   cases z'⟩
 keep:=λi h h' st k=>k it (by simp) _ st
 item:=by
  intro X hP hw hK hc i pins s σ H E I hf st hg;subst hP hw hK;obtain ⟨f0,f1,f2,f3,f4,f5⟩:=hf it (by simp);have W:=Walks.range (prog:=X.prog) (w:=X.w) (I.ok.hd hc) it lo 1 n;refine W.item i s _ _ hg st λv h' tk hv st' kk=>?_;obtain ⟨t,rfl⟩:=hv;have I1:Inv X pins σ H { s with heap:=h',toks:=tk }:=I.turned (λb o hb e=>kk b o (by simpa using hb) e) f0 f1 f3 f4 f5;refine ⟨_,rfl,zjk (s:={ s with heap:=h',toks:=tk }) (n:="range_iterator") st' rfl rfl (by decide) ⟨.int (lo+i),H,I1,⟨t,?_⟩,⟨rfl,rfl⟩,st',λb hb=>(hf b hb).1⟩⟩;rw [Int.mul_one]
 done:=by
  intro X hP hw hK hc i pins s σ H E I hf st hg;subst hP hw hK;obtain ⟨f0,f1,f2,f3,f4,f5⟩:=hf it (by simp)
  exact wpAny_pyNext_range_end (I.ok.hd hc) st (by have:n<=i:=hg;omega) λh' eb=>⟨rfl,I.turned (t':=s.toks) (λb o hb e=>eb b o hb e) f0 f1 f3 f4 f5⟩
 self:=λ_ _ _ _ _ st h=>wpAny_pyIter_rangeiter st h
section
variable {X:Cx} {tg:Expr}
theorem zmA {pins:List (Addr×Obj)} {σ:St} {H:Hp} {s:Shared} {R:It->Hp->Prop} {E:Value->Shared->Prop} {lo hi:Int} {t u v:Tok} {tk:Nat} (I:Inv X pins σ H s) (h1:-(2 ^ 62)<=lo) (h2:lo<2 ^ 62) (h3:-(2 ^ 62)<=hi) (h4:hi<2 ^ 62)
  (q:R (Itr lo (hi-lo).toNat) H):wpAny (model X.prog X.w) X.A (pyIter (.ref s.heap.objs.size)) (PIE X pins σ tg R) E { s with heap:=s.heap.push { cls:=.type "range",data:=.fields #[.int lo t,.int hi u,.int 1 v] },toks:=tk }:=by
 refine wpAny_pyIter_range (IsRange.new ..) (small_one h1 h2 h3 h4) ?_;have I1:Inv X pins σ H { s with heap:=s.heap.push { cls:=.type "range",data:=.fields #[.int lo t,.int hi u,.int 1 v] },toks:=tk }:=I.kept λb o e=>Heap.get?_push_of_some _ e
 refine ⟨(s.heap.push { cls:=.type "range",data:=.fields #[.int lo t,.int hi u,.int 1 v] }).objs.size,[(s.heap.push { cls:=.type "range",data:=.fields #[.int lo t,.int hi u,.int 1 v] }).objs.size],_,_,H,rfl,
  I1.kept (t':=tk) λb o e=>Heap.get?_push_of_some _ e,ziO _ lo (hi-lo).toNat,?_,λb hb=>?_,q⟩
 ·have e1:lo+((0:Nat):Int)*1=lo:=by simp
  have e2:(((hi-lo).toNat:Nat):Int)-((0:Nat):Int)=Builtin.Range.rangeSize lo hi 1:=by rw [rangeSize_one];split<;>omega
  show IsRangeIter _ _ (lo+((0:Nat):Int)*1) ((((hi-lo).toNat:Nat):Int)-((0:Nat):Int)) 1;rw [e1,e2];exact Heap.get?_push_size _ rfl
 ·have e:b=(s.heap.push { cls:=.type "range",data:=.fields #[.int lo t,.int hi u,.int 1 v] }).objs.size:=by simpa using hb
  subst e;exact I1.fpOk (Nat.le_refl _) (I1.hok.fresh (Nat.le_refl _))
noncomputable def zr5 (ta:TA):TI:=λσ H R=>ta σ H λvs H1=>∃ j:Int,vs=[.int j]/\-(2 ^ 62)<=j/\j<2 ^ 62/\R (Itr 0 j.toNat) H1
theorem zk6 {a:Expr} {ta:TA} {p pos:Pos} (hg:Gl X "range") (hm:X.mg "range"=none) (ha:PA X [a] ta) (hs:starEach [a] X.env=[(false,eval a X.env)]:=by rfl):PI X tg (.Call (.Name "range" p) [a] [] pos) (zr5 ta):=by
 intro pins s σ H R I h;refine Call_ (zhG I hg hm boot_range (PyProof.Rows.callWith_type1 (thn (ha pos pins s σ H _ I h) λus s1 q_=>?_) hs rfl));obtain ⟨vs,H1,I1,r1,q1⟩:=q_;obtain ⟨j,e,q1,q2,q⟩:=q1;subst e
 cases r1 with
 | cons r rr=>
  cases rr;obtain ⟨t,rfl⟩:=r;exact call_range_1 (zmA I1 (by omega) (by omega) q1 q2 (by simpa using q))
noncomputable def tFor (wi:TI) (g:TG) (tb:TS):TS:=λD σ H=>wi σ H λJ H1=>∃ W:Nat->Nat->St->Hp->Prop,(∃ m,W 0 m σ H1)/\∀ i m σ H,W i m σ H →
 (J.stop i H/\D.nx σ H)\/(J.go i H/\∃ N:St->Hp->Prop,(∀ σ' H',N σ' H'->∃ m',m'<m/\W (i+1) m' σ' H')/\∀ x H',J.yld i H x H'->g x σ H' λσ2 H2=>tb { D with nx:=N,ct:=N,bk:=D.nx } σ2 H2)
noncomputable def zgV (fp:List Addr) (h:Heap):List (Addr×Obj):=fp.filterMap λb=>(h.get? b).map λo=>(b,o)
theorem zbG {fp:List Addr} {h:Heap} {b:Addr} {o:Obj} (hb:b∈fp) (e:h.get? b=some o):(b,o)∈zgV fp h:=List.mem_filterMap.mpr ⟨b,hb,by rw [e];rfl⟩
theorem zkR {fp:List Addr} {h:Heap} {p:Addr×Obj} (hp:p∈zgV fp h):p.1∈fp/\h.get? p.1=some p.2:=by
 obtain ⟨b,hb,e⟩:=List.mem_filterMap.mp hp
 cases q:h.get? b with
 | none=>rw [q] at e;cases e
 | some o=>
  rw [q] at e;have e':(b,o)=p:=Option.some.inj e;subst e';exact ⟨hb,q⟩
theorem Inv.pinned {pins:List (Addr×Obj)} {σ:St} {H:Hp} {s:Shared} {fp:List Addr} (I:Inv X pins σ H s) (hf:∀ b∈fp,FpOk X pins H b) (ho:∀ b∈fp,∃ o,s.heap.get? b=some o/\∀ v,o.data≠.cell v):Inv X (pins++zgV fp s.heap) σ H s:=
 I.pins_of λp hp=>(List.mem_append.mp hp).elim (λz=>I.pin p (List.mem_append_right _ z)) λz=>by
  obtain ⟨hb,e⟩:=zkR z;obtain ⟨f0,f1,f2,_⟩:=hf p.1 hb;obtain ⟨o,e',d⟩:=ho p.1 hb
  rw [e] at e';cases e'
  exact ⟨e,f0,f1,f2,d⟩
theorem Inv.unpinned {pins pl:List (Addr×Obj)} {σ:St} {H:Hp} {s:Shared} (I:Inv X (pins++pl) σ H s):Inv X pins σ H s:=I.pins_of λp hp=>I.pin p (List.mem_append_right _ (List.mem_append_left _ hp))
theorem zrG {iter:Expr} {body:List Stmt} {wi:TI} {g:TG} {tb:TS} {pos:Pos} (hp:PassesOwn (model X.prog X.w) X.A X.env X.xe) (hc:X.calm=true) (hi:PI X tg iter wi) (hg:PG X tg g) (hb:PSs X body tb)
  (hs:∀ x,foldedSetIterable iter X.env x=pure x:=by intro _;rfl):PS X (.For tg iter body [] pos) (tFor wi g tb):=by
 intro pins s σ H D I h;refine wpAny_For (thn (hi pins s σ H _ I h) λv s1 h1=>thn h1 λitv s2 h2=>?_) hs;obtain ⟨it,fp,tn,J,H2,e,I2,T,st2,f2,W,⟨m0,w0⟩,turn⟩:=h2;subst e;have stat:∀ {H':Hp},(∀ b∈fp,H' b=none)->∀ b∈fp,FpOk X pins H' b:=λhn b hb=>⟨hn b hb,(f2 b hb).2⟩;refine codeAny_forLoop_any (λn s'=>∃ i σ' H',Inv X pins σ' H' s'/\tn i s'.heap/\(∀ b∈fp,H' b=none)/\W i n σ' H') ?_ m0 ⟨0,σ,H2,I2,st2,λb hb=>(f2 b hb).1,w0⟩
 rintro n s3 ⟨i,σ3,H3,I3,st3,fr3,w3⟩
 rcases turn i n σ3 H3 w3 with ⟨stop,qn⟩ | ⟨go,N,hN,step⟩
 ·refine wpAny_passesOwn hp (thn (T.done X rfl rfl rfl hc i pins s3 σ3 H3 X.xe I3 (stat fr3) st3 stop) λr s4 q_=>?_)
  obtain ⟨hr,I4⟩:=q_;subst hr;exact wpAny_execs_nil ⟨σ3,H3,I4,qn⟩
 ·refine wpAny_passesOwn hp (thn (T.item X rfl rfl rfl hc i pins s3 σ3 H3 X.xe I3 (stat fr3) st3 go) λr s4 q_=>?_)
  obtain ⟨u,hr,h4⟩:=q_;subst hr;refine wpAny_passesOwn hp (thn h4 λ_ s5 q_=>?_);obtain ⟨x,H5,I5,r5,y5,st5,fr5⟩:=q_;have I5':=I5.pinned (stat fr5) (T.obj _ _ st5);refine wpAny_passesOwn hp (thn (hg _ s5 σ3 H5 x u _ I5' r5 (step x H5 y5)) λ_ s6 q_=>?_);obtain ⟨σ6,H6,I6,q6⟩:=q_;refine wpAny_passesOwn hp (thn (hb _ s6 σ6 H6 _ I6 q6) λf s7 q7=>?_)
  have again:∀ {σ7:St} {H7:Hp},Inv X (pins++zgV fp s5.heap) σ7 H7 s7->N σ7 H7->∃ m,m<n/\∃ i σ' H',Inv X pins σ' H' s7/\tn i s7.heap/\(∀ b∈fp,H' b=none)/\W i m σ' H':=λ{σ7 H7} I7 n7=>by
   obtain ⟨m',hm,w7⟩:=hN σ7 H7 n7;refine ⟨m',hm,i+1,σ7,H7,I7.unpinned,T.keep _ _ _ st5 λb hb o e=>(I7.pin (b,o) (List.mem_append_right _ (List.mem_append_right _ (zbG hb e)))).1,λb hb=>?_,w7⟩;obtain ⟨o,e,d⟩:=T.obj _ _ st5 b hb;exact (I7.pin (b,o) (List.mem_append_right _ (List.mem_append_right _ (zbG hb e)))).2.1
  cases f with
  | next=>obtain ⟨σ7,H7,I7,n7⟩:=q7;exact again I7 n7
  | cont=>obtain ⟨σ7,H7,I7,n7⟩:=q7;exact again I7 n7
  | brk=>obtain ⟨σ7,H7,I7,q7⟩:=q7;exact ⟨σ7,H7,I7.unpinned,q7⟩
  | ret v=>obtain ⟨x7,σ7,H7,I7,r7,q7⟩:=q7;exact ⟨x7,σ7,H7,I7.unpinned,r7,q7⟩
end
noncomputable abbrev R2:=V->V->Hp->VK->Prop
noncomputable def OpR (X:Cx) (f:Value->Value->Sem Value) (r:R2):Prop:=
 ∀ (pins:List (Addr×Obj)) (s:Shared) (σ:St) (H:Hp) (x y:V) (v u:Value) (Q:VK),Inv X pins σ H s->RelV x v->RelV y u->r x y H Q →
  wpAny (model X.prog X.w) X.A (f v u) (EP X pins σ Q) X.xe s
noncomputable def zbj (X:Cx) (f:Value) (r:List V->Hp->VK->Prop):Prop:=
 ∀ (pins:List (Addr×Obj)) (s:Shared) (σ:St) (H:Hp) (xs:List V) (us:List Value) (Q:VK),Inv X pins σ H s->Vals xs us->r xs H Q →
  wpAny (model X.prog X.w) X.A (call f us) (EP X pins σ Q) X.xe s
noncomputable def TruR (X:Cx) (r:V->Hp->(Bool->Hp->Prop)->Prop):Prop:=
 ∀ (pins:List (Addr×Obj)) (s:Shared) (σ:St) (H:Hp) (x:V) (v:Value) (Q:Bool->Hp->Prop),Inv X pins σ H s->RelV x v->r x H Q →
  wpAny (model X.prog X.w) X.A (truthy v) (TP X pins σ Q) X.xe s
noncomputable def tOp (r:R2) (ta tb:TE):TE:=λσ H Q=>ta σ H λx H1=>tb σ H1 λy H2=>r x y H2 Q
noncomputable def rI (C:Int->Int->Prop) (g:Int->Int->V):R2:=λx y H Q=>∃ i j,x=.int i/\y=.int j/\C i j/\Q (g i j) H
noncomputable def rI0 (g:Int->Int->V):R2:=λx y H Q=>∃ i j,x=.int i/\y=.int j/\Q (g i j) H
section
variable {X:Cx} {a b c:Expr} {ta tb tc:TE} {pos:Pos}
theorem binT (ha:PE X a ta) (hb:PE X b tb) {pins:List (Addr×Obj)} {s:Shared} {σ:St} {H:Hp} {R:V->V->Hp->Prop} (I:Inv X pins σ H s)
  (h:ta σ H λx H1=>tb σ H1 λy H2=>R x y H2) {Q:Value->Shared->Prop} {f:Value->Value->Sem Value}
  (hf:∀ v u s2 x y H2,Inv X pins σ H2 s2->RelV x v->RelV y u->R x y H2->wpAny (model X.prog X.w) X.A (f v u) Q X.xe s2) :
  wpAny (model X.prog X.w) X.A (eval a X.env) (λv s₁=>wpAny (model X.prog X.w) X.A (eval b X.env) (λu s₂=>wpAny (model X.prog X.w) X.A (f v u) Q X.xe s₂) X.xe s₁) X.xe s:=by
 refine thn (ha pins s σ H _ I h) λv s1 q_=>?_;obtain ⟨x,H1,I1,r1,q1⟩:=q_;refine thn (hb pins s1 σ H1 _ I1 q1) λu s2 q_=>?_;obtain ⟨y,H2,I2,r2,q2⟩:=q_;exact hf v u s2 x y H2 I2 r1 r2 q2
theorem zsq {op:Operator} {r:R2} (ho:OpR X (binaryOp op) r) (ha:PE X a ta) (hb:PE X b tb):PE X (.BinOp a op b pos) (tOp r ta tb):=by
 intro pins s σ H Q I h;exact wpAny_BinOp (binT ha hb I h λv u s2 x y H2 I2 rx ry q=>ho pins s2 σ H2 x y v u Q I2 rx ry q)
theorem opI {f:Value->Value->Sem Value} {C:Int->Int->Prop} {g:Int->Int->Int}
  (rule:∀ (i j:Int) (t u:Tok) (s:Shared) (Q:Value->Shared->Prop) (E:Value->Shared->Prop),C i j->Q (.int (g i j) s.toks) { s with toks:=s.toks+1 }->wpAny (model X.prog X.w) X.A (f (.int i t) (.int j u)) Q E s) :
  OpR X f (rI C λi j=>.int (g i j)):=by
 intro pins s σ H x y v u Q I rx ry h;obtain ⟨i,j,rfl,rfl,hc,q⟩:=h;obtain ⟨t,rfl⟩:=rx;obtain ⟨t',rfl⟩:=ry;exact rule i j t t' s _ _ hc ⟨.int (g i j),H,I.tok _,⟨_,rfl⟩,q⟩
theorem opI0 {f:Value->Value->Sem Value} {g:Int->Int->Int}
  (rule:∀ (i j:Int) (t u:Tok) (s:Shared) (Q:Value->Shared->Prop) (E:Value->Shared->Prop),Q (.int (g i j) s.toks) { s with toks:=s.toks+1 }->wpAny (model X.prog X.w) X.A (f (.int i t) (.int j u)) Q E s) :
  OpR X f (rI0 λi j=>.int (g i j)):=by
 intro pins s σ H x y v u Q I rx ry h;obtain ⟨i,j,rfl,rfl,q⟩:=h;obtain ⟨t,rfl⟩:=rx;obtain ⟨t',rfl⟩:=ry;exact rule i j t t' s _ _ ⟨.int (g i j),H,I.tok _,⟨_,rfl⟩,q⟩
theorem opB0 {f:Value->Value->Sem Value} {g:Int->Int->Bool}
  (rule:∀ (i j:Int) (t u:Tok) (s:Shared) (Q:Value->Shared->Prop) (E:Value->Shared->Prop),Q (.bool (g i j)) s->wpAny (model X.prog X.w) X.A (f (.int i t) (.int j u)) Q E s) :
  OpR X f (rI0 λi j=>.bl (g i j)):=by
 intro pins s σ H x y v u Q I rx ry h;obtain ⟨i,j,rfl,rfl,q⟩:=h;obtain ⟨t,rfl⟩:=rx;obtain ⟨t',rfl⟩:=ry;exact rule i j t t' s _ _ ⟨.bl (g i j),H,I,rfl,q⟩
noncomputable def CPow (i j:Int):Prop:=0<=j/\j<=1000000/\i.natAbs<2 ^ 64
noncomputable def CMul (i j:Int):Prop:=(-(2 ^ 64)<i/\i<2 ^ 64)\/(-(2 ^ 64)<j/\j<2 ^ 64)
theorem CMul.ok {i j:Int} (h:CMul i j):IntMulOk i j:=by
 rcases h with ⟨h1,h2⟩ | ⟨h1,h2⟩
 ·exact .of_left (intBits_le_64 h1 h2)
 ·exact .of_right (intBits_le_64 h1 h2)
theorem zqA:OpR X (binaryOp .Add) (rI0 λi j=>.int (i+j)):=opI0 λ_ _ _ _ _ _ _ q=>add_int q
theorem zq3:OpR X (binaryOp .Sub) (rI0 λi j=>.int (i-j)):=opI0 λ_ _ _ _ _ _ _ q=>sub_int q
theorem zpR:OpR X (binaryOp .Mult) (rI CMul λi j=>.int (i*j)):=opI λ_ _ _ _ _ _ _ hc q=>mul_int q hc.ok
theorem zqQ:OpR X (binaryOp .Mod) (rI (λ_ j=>0<j) λi j=>.int (i % j)):=opI λi j _ _ _ _ _ hc q=>by
 have h1:(0:Int)<j:=hc
 exact mod_int' (by omega) (by rw [Int.fmod_eq_emod_of_nonneg i (by omega)];exact q)
theorem zp0:OpR X (binaryOp .Pow) (rI CPow λi j=>.int (i ^ j.toNat)):=opI λ_ _ _ _ _ _ _ hc q=>pow_int_small hc.1 hc.2.1 hc.2.2 q
theorem zp8:OpR X (binaryOp .BitAnd) (rI0 λi j=>.int (Builtin.bitAnd i j)):=opI0 λ_ _ _ _ _ _ _ q=>and_int q
theorem zsK:OpR X (binaryOp .BitOr) (rI0 λi j=>.int (Builtin.bitOr i j)):=opI0 λ_ _ _ _ _ _ _ q=>or_int q
end
theorem dec_str {i j:Str}:decide (V.str i=V.str j)=(i==j):=by
 rw [Bool.eq_iff_iff];simp
section
variable {X:Cx} {a b c:Expr} {ta tb tc:TE} {pos:Pos}
theorem zig {pins:List (Addr×Obj)} {σ:St} {H:Hp} {s:Shared} {Q:VK} {k k':Bool} (I:Inv X pins σ H s) (q:Q (.bl k) H) (e:k=k'):EP X pins σ Q (.bool k') s:=by
 subst e;exact ⟨.bl k,H,I,rfl,q⟩
theorem zr4:OpR X (compareOp .Lt) (rI0 λi j=>.bl (decide (i<j))):=opB0 λ_ _ _ _ _ _ _ q=>lt_int q
theorem zrP:OpR X (compareOp .LtE) (rI0 λi j=>.bl (decide (i<=j))):=opB0 λ_ _ _ _ _ _ _ q=>le_int q
theorem zsN:OpR X (compareOp .Gt) (rI0 λi j=>.bl (decide (j<i))):=opB0 λ_ _ _ _ _ _ _ q=>gt_int q
theorem zrY:OpR X (compareOp .GtE) (rI0 λi j=>.bl (decide (j<=i))):=opB0 λ_ _ _ _ _ _ _ q=>ge_int q
theorem zjX:OpR X (compareOp .In) (λx y H Q=>∃ i j,x=.str i/\y=.str j/\Q (.bl (!(Builtin.Str.occurrences j i 0 j.length 1).isEmpty)) H):=by
 intro pins s σ H x y v u Q I rx ry h;obtain ⟨i,j,rfl,rfl,q⟩:=h;obtain ⟨t,rfl⟩:=rx;obtain ⟨t',rfl⟩:=ry;exact in_str (zig I q rfl)
theorem zrK:OpR X (compareOp .Is) (λx y H Q=>y=.non/\Q (.bl (decide (x=.non))) H):=by
 intro pins s σ H x y v u Q I rx ry h;obtain ⟨rfl,q⟩:=h;cases ry;refine is_none_gen (zig I q ?_)
 cases x<;>first
  | (cases rx;rfl)
  | (obtain ⟨t,rfl⟩:=rx;rfl)
theorem zof:OpR X (compareOp .IsNot) (λx y H Q=>y=.non/\Q (.bl (!decide (x=.non))) H):=by
 intro pins s σ H x y v u Q I rx ry h;obtain ⟨rfl,q⟩:=h;cases ry;refine isnot_none_gen (zig I q ?_)
 cases x<;>first
  | (cases rx;rfl)
  | (obtain ⟨t,rfl⟩:=rx;rfl)
theorem zgj:OpR X (compareOp .NotIn) (λx y H Q=>∃ i j,x=.str i/\y=.str j/\Q (.bl (!(!(Builtin.Str.occurrences j i 0 j.length 1).isEmpty))) H):=by
 intro pins s σ H x y v u Q I rx ry h;obtain ⟨i,j,rfl,rfl,q⟩:=h;obtain ⟨t,rfl⟩:=rx;obtain ⟨t',rfl⟩:=ry;exact notIn_str (zig I q rfl)
theorem OpR.or {f:Value->Value->Sem Value} {r r':R2} (h:OpR X f r) (h':OpR X f r'):OpR X f (λx y H Q=>r x y H Q\/r' x y H Q):=by
 intro pins s σ H x y v u Q I rx ry q
 rcases q with q | q
 ·exact h pins s σ H x y v u Q I rx ry q
 ·exact h' pins s σ H x y v u Q I rx ry q
theorem zsX (b:Expr) {op:CmpOp} (h:op≠.In:=by decide) (h2:op≠.NotIn:=by decide):behindInMarks op b=false:=by
 have e1:(op==CmpOp.In)=false:=by cases op<;>first | rfl | exact absurd rfl h
 have e2:(op==CmpOp.NotIn)=false:=by cases op<;>first | rfl | exact absurd rfl h2
 cases b<;>simp [behindInMarks,e1,e2]
theorem zpr {op:CmpOp} {r:R2} (ho:OpR X (compareOp op) r) (ha:PE X a ta) (hb:PE X b tb) (hm:behindInMarks op b=false):PE X (.Compare a [op] [b] pos) (tOp r ta tb):=by
 intro pins s σ H Q I h;exact wpAny_Compare1 (binT ha hb I h λv u s2 x y H2 I2 rx ry q=>ho pins s2 σ H2 x y v u Q I2 rx ry q) hm
noncomputable def zso (t:TE):TT:=λσ H Q=>t σ H λx H'=>∃ k,x=.bl k/\Q k H'
theorem zpl {op:CmpOp} {r:R2} (ho:OpR X (compareOp op) r) (ha:PE X a ta) (hb:PE X b tb) (hm:behindInMarks op b=false):PT X (.Compare a [op] [b] pos) (zso (tOp r ta tb)):=by
 intro pins s σ H Q I h
 refine wpAny_isTrue_Compare1 (thn (ha pins s σ H _ I h) λv s1 ⟨x,H1,I1,r1,q1⟩=>thn (hb pins s1 σ H1 _ I1 q1) λu s2 ⟨y,H2,I2,r2,q2⟩=>
  thn (ho pins s2 σ H2 x y v u _ I2 r1 r2 q2) λc s3 ⟨z,H3,I3,r3,k,e,q3⟩=>?_) hm
 subst e;cases r3;exact wpAny_truthy_bool ⟨H3,I3,q3⟩
noncomputable def TruV (K:PySem.W.Frag) (x:V) (H:Hp) (k:Bool):Prop:=
 match x with
 | .non=>k=false
 | .bl b=>k=b
 | .int i=>k=(i != 0)
 | .str y=>y.length<=sizeLine/\k=((y.length:Int) != 0)
 | .byt y=>y.size<=sizeLine/\k=((y.size:Int) != 0)
 | .ref p=>(∃ xs,SqL K H p xs/\k=!xs.isEmpty)\/(∃ xs,SqT K H p xs/\k=!xs.isEmpty)\/∃ kvs,H p=some (.dK kvs)/\k=!kvs.isEmpty
 | _=>False
theorem ziK {κ:Type} {kvs:List (κ×V)} {vs:List (κ×Value)} (r:KV kvs vs):(!vs.isEmpty)=!kvs.isEmpty:=by
 cases r<;>rfl
theorem zbF {xs:List V} {its:List Value} (r:Vals xs its):(!its.toArray.isEmpty)=!xs.isEmpty:=by
 cases r<;>simp
theorem zdR:(sizeLine:Nat)<2 ^ 63:=by rw [sizeLine_eq];decide
theorem zpA:TruR X (λx H Q=>∃ k,TruV X.K x H k/\Q k H):=by
 intro pins s σ H x v Q I rx h;obtain ⟨k,e,q⟩:=h;have hl:=zdR;have hs:sizeLine=16777216:=sizeLine_eq
 cases x with
 | non=>
  cases rx;have e':k=false:=e;subst e';exact truthy_none ⟨H,I,q⟩
 | bl b=>
  cases rx;have e':k=b:=e;subst e';exact wpAny_truthy_bool ⟨H,I,q⟩
 | int i=>
  obtain ⟨t,rfl⟩:=rx;have e':k=(i != 0):=e;subst e';exact PySem.P.truthy_int ⟨H,I,q⟩
 | str y=>
  obtain ⟨t,rfl⟩:=rx;obtain ⟨hy,e'⟩:y.length<=sizeLine/\k=((y.length:Int) != 0):=e;subst e';exact PySem.P.truthy_str (by omega) ⟨H,I.tok _,q⟩
 | byt y=>
  obtain ⟨t,rfl⟩:=rx;obtain ⟨hy,e'⟩:y.size<=sizeLine/\k=((y.size:Int) != 0):=e;subst e';exact PySem.W.truthy_bytes (by omega) ⟨H,I.tok _,q⟩
 | ref p=>
  cases rx;have e':(∃ xs,SqL X.K H p xs/\k=!xs.isEmpty)\/(∃ xs,SqT X.K H p xs/\k=!xs.isEmpty)\/∃ kvs,H p=some (.dK kvs)/\k=!kvs.isEmpty:=e
  rcases e' with ⟨xs,hx,e'⟩ | ⟨xs,hx,e'⟩ | ⟨kvs,hx,e'⟩
  ·subst e'
   obtain ⟨its,r,pl,hz⟩:=I.list hx;have hlen:=r.length
   exact wpAny_truthy_list pl.isList (by simp only [List.size_toArray];omega) ⟨H,I.tok _,by rw [zbF r];exact q⟩
  ·subst e'
   obtain ⟨its,r,pl,hz⟩:=I.tuple hx;have hlen:=r.length
   exact truthy_tuple pl (by simp only [List.size_toArray];omega) ⟨H,I.tok _,by rw [zbF r];exact q⟩
  ·subst e'
   obtain ⟨hz,hS,vs,r,m⟩:kvs.length<=sizeLine/\(p==sysModules)=false/\∃ vs,KV kvs vs/\s.heap.DictOf (zkj X.prog X.w) p vs:=I.hok p _ hx;have hlen:kvs.length=vs.length:=Paired.length r
   exact wpAny_truthy_dict hS m (by omega) ⟨H,I.tok _,by rw [ziK r];exact q⟩
 | _=>exact (show False from e).elim
theorem zmM (ha:PE X a ta) (he:∀ whole,isTrue a X.env whole=(do let v<-whole;standAt a.pos;holding [v] (truthy v))) :
  PT X a (λσ H Q=>ta σ H λx H'=>∃ k,TruV X.K x H' k/\Q k H'):=by
 intro pins s σ H Q I h;exact isTrue_plain (thn (ha pins s σ H _ I h) λv s1 ⟨x,H1,I1,r1,q1⟩=>zpA pins s1 σ H1 x v Q I1 r1 q1) (he _)
theorem zi3:OpR X (binaryOp .Add) (λx y H Q=>∃ i j,x=.str i/\y=.str j/\i.length+j.length<=sizeLine/\Q (.str (i++j)) H):=by
 intro pins s σ H x y v u Q I rx ry h;obtain ⟨i,j,rfl,rfl,hz,q⟩:=h;obtain ⟨t,rfl⟩:=rx;obtain ⟨t',rfl⟩:=ry;exact add_str (λt' tk=>⟨.str (i++j),H,I.tok _,⟨_,rfl⟩,q⟩) hz
theorem zeI {x:V} {us:List Value} (r:Vals [x] us):∃ u,us=[u]/\RelV x u:=by
 cases r with
 | cons r1 r2=>cases r2;exact ⟨_,rfl,r1⟩
theorem zgg:zbj X (.type "int") (λxs H Q=>(∃ i,xs=[.int i]/\Q (.int i) H)\/∃ k,xs=[.bl k]/\Q (.int (if k then 1 else 0)) H):=by
 intro pins s σ H xs us Q I r h
 rcases h with ⟨i,rfl,q⟩ | ⟨k,rfl,q⟩
 ·obtain ⟨u,rfl,t,rfl⟩:=zeI r
  exact call_int_int ⟨.int i,H,I,⟨_,rfl⟩,q⟩
 ·obtain ⟨u,rfl,r1⟩:=zeI r
  cases r1;exact call_int_bool ⟨.int (if k then 1 else 0),H,I.tok _,⟨_,rfl⟩,q⟩
theorem zf6:zbj X (.type "str") (λxs H Q=>∃ i,xs=[.int i]/\i.natAbs.log2<1920/\Q (.str (toString i)) H):=by
 intro pins s σ H xs us Q I r h;obtain ⟨i,rfl,hz,q⟩:=h;obtain ⟨u,rfl,t,rfl⟩:=zeI r;exact PySem.P.str_of_int hz ⟨.str _,H,I.tok _,⟨_,rfl⟩,q⟩
noncomputable def LenV (K:PySem.W.Frag) (x:V) (H:Hp) (n:Nat):Prop:=
 match x with
 | .str y=>y.length<=sizeLine/\n=y.length
 | .byt y=>y.size<=sizeLine/\n=y.size
 | .ref p=>(∃ xs,SqL K H p xs/\n=xs.length)\/∃ xs,SqT K H p xs/\n=xs.length
 | _=>False
theorem zfF:zbj X (.builtin "len") (λxs H Q=>∃ x n,xs=[x]/\LenV X.K x H n/\Q (.int n) H):=by
 intro pins s σ H xs us Q I r h;obtain ⟨x,n,rfl,e,q⟩:=h;obtain ⟨u,rfl,rx⟩:=zeI r;have hl:=zdR;have hs:sizeLine=16777216:=sizeLine_eq
 cases x with
 | str y=>
  obtain ⟨t,rfl⟩:=rx;obtain ⟨hy,e'⟩:y.length<=sizeLine/\n=y.length:=e;subst e';exact len_str (by omega) ⟨.int _,H,I.tok _,⟨_,rfl⟩,q⟩
 | byt y=>
  obtain ⟨t,rfl⟩:=rx;obtain ⟨hy,e'⟩:y.size<=sizeLine/\n=y.size:=e;subst e';exact PySem.W.len_bytes (by omega) ⟨.int _,H,I.tok _,⟨_,rfl⟩,q⟩
 | ref p=>
  cases rx;have e':(∃ xs,SqL X.K H p xs/\n=xs.length)\/∃ xs,SqT X.K H p xs/\n=xs.length:=e
  rcases e' with ⟨xs,hx,e'⟩ | ⟨xs,hx,e'⟩
  ·subst e'
   obtain ⟨its,r',pl,hz⟩:=I.list hx;have hlen:=r'.length
   exact Calls.call_len_list pl.isList (by simp only [List.size_toArray];omega) ⟨.int xs.length,H,I.tok _,⟨_,by simp only [List.size_toArray];rw [hlen]⟩,q⟩
  ·subst e'
   obtain ⟨its,r',pl,hz⟩:=I.tuple hx;have hlen:=r'.length
   exact len_tuple pl (by simp only [List.size_toArray];omega) ⟨.int xs.length,H,I.tok _,⟨_,by simp only [List.size_toArray];rw [hlen]⟩,q⟩
 | _=>exact (show False from e).elim
end
section
variable {prog:Program} {w:World} {A:Around} {E:Value->Shared->Prop} {s:Shared} {K:PySem.W.Frag} {x dx C f:Addr} {mA:Str->Option Value} {name:Str} {v:Value}
end
section
variable {P:Program} {w:World} {H H':Hp} {h h':Heap} {a C dx:Addr} {fs fs':List (Str×V)}
end
structure Cls (K:PySem.W.Frag) (C:Addr):Prop where
 pg:PySem.W.plainGet K C Str.empty=true
 hd:PySem.W.hasDictIn K C=true
 po:PySem.W.plainOver K C=true
 sa:PySem.W.findIn K (.ref C) "__setattr__"=some (some (.builtin "object.__setattr__"))
theorem Cls.get {K:PySem.W.Frag} {C:Addr} (c:Cls K C) (f:Str):PySem.W.plainGet K C f=true:=c.pg
noncomputable def zki (K:PySem.W.Frag) (C:Addr) (f:Str):Prop:=PySem.W.findIn K (.ref C) f=some none
structure Meth (K:PySem.W.Frag) (C:Addr) (m:Str) (f:Addr):Prop where
 at_:PySem.W.findIn K (.ref C) m=some (some (.ref f))
 fn:PySem.W.isFn K (.ref f)=true
 kp:PySem.W.keepIn K (.ref f)=true
section
variable {X:Cx} {pins:List (Addr×Obj)} {σ:St} {H:Hp} {s:Shared} {a C dx:Addr} {fs:List (Str×V)} {f:Str} {v:V} {A:Around} {E:Value->Shared->Prop}
theorem Inv.made (I:Inv X pins σ H s):Inv X pins σ (upd (upd H s.heap.objs.size (.own (s.heap.objs.size+1))) (s.heap.objs.size+1) (.ins C s.heap.objs.size []))
  { s with heap:=(s.heap.push PySem.W.emptyDict).push (PySem.W.instObj C s.heap.objs.size) }:=by
 have e1:(s.heap.push PySem.W.emptyDict).get? s.heap.objs.size=some PySem.W.emptyDict:=Heap.get?_push_size s.heap rfl
 have e2:((s.heap.push PySem.W.emptyDict).push (PySem.W.instObj C s.heap.objs.size)).get? (s.heap.objs.size+1)=some (PySem.W.instObj C s.heap.objs.size):=by
  have:=Heap.get?_push_size (s.heap.push PySem.W.emptyDict) (o:=PySem.W.instObj C s.heap.objs.size) rfl
  rwa [Heap.size_push] at this
 have e3:(s.heap.push PySem.W.emptyDict).Ns s.heap.objs.size (λ_=>none):=⟨PySem.W.emptyDict,#[],_,e1,rfl,(λe he=>absurd he (by simp)),λ_=>rfl⟩;have I1:=I.laid (a:=s.heap.objs.size) (o:=.own (s.heap.objs.size+1)) (h':=s.heap.push PySem.W.emptyDict) (t':=s.toks) (λb u q=>Heap.get?_push_of_some _ q) (Nat.le_refl _) ⟨_,e1⟩;refine I1.laid (a:=s.heap.objs.size+1) (o:=.ins C s.heap.objs.size []) (t':=s.toks) (λb u q=>Heap.get?_push_of_some _ q) (Nat.le_of_eq (Heap.size_push _ _)) ?_;have ne:s.heap.objs.size≠s.heap.objs.size+1:=Nat.ne_of_lt (Nat.lt_succ_self _);refine ⟨by rw [zao ne,zaj],Nat.zero_le _,ne,e2,λ_=>none,(Heap.Ns1.of_empty e3).at λo q=>Heap.get?_push_of_some _ q,λ_=>True.intro,λy hy=>absurd rfl hy⟩
end
section
variable {X:Cx} {o e value:Expr} {f:Str} {pos pos' tpos:Pos} {ta tv:TE}
end
section
variable {X:Cx} {pins:List (Addr×Obj)} {σ:St} {H:Hp} {s:Shared} {A:Around} {E:Value->Shared->Prop} {Q:Value->Shared->Prop} {c:Value} {b:Bool}
end
structure Room (k:Nat) (A:Around):Prop where
 hd:A.handled=none
 dp:A.depth+3*k+5<recursionLimit
 un:A.units+16*k+200<cLine
theorem Room.mono {j k:Nat} {A:Around} (r:Room k A) (h:j<=k):Room j A:=⟨r.hd,by have:=r.dp;omega,by have:=r.un;omega⟩
theorem Room.deeper {k:Nat} {A:Around} (r:Room (k+1) A) (env:Env):Room k (A.deeper env):=
 ⟨r.hd,by have:=r.dp;show A.depth+1+3*k+5<_;omega,by have:=r.un;show A.units+3+16*k+200<_;omega⟩
theorem Room.in1 {k:Nat} {A:Around} (r:Room (k+1) A):Room k A.in1:=
 ⟨r.hd,by have:=r.dp;show A.depth+3*k+5<_;omega,by have:=r.un;show A.units+1+16*k+200<_;omega⟩
theorem Room.depth {k:Nat} {A:Around} (r:Room k A):A.depth<recursionLimit:=by have:=r.dp;omega
theorem Room.units {k:Nat} {A:Around} (r:Room k A):A.units+64<cLine:=by have:=r.un;omega
noncomputable def tNil:TA:=λ_ H Q=>Q [] H
noncomputable def zsf (ta:TE) (tr:TA):TA:=λσ H Q=>ta σ H λx H1=>tr σ H1 λxs H2=>Q (x::xs) H2
section
variable {X:Cx} {e:Expr} {es:List Expr} {te:TE} {t:TA} {pos:Pos}
theorem zbP:PA X [] tNil:=λ_ _ _ _ H Q I h=>Calls.spliced_nil ⟨[],H,I,.nil,h⟩
theorem zaH (ha:PE X e te) (hr:PA X es t) (hs:starEach (e::es) X.env=(false,eval e X.env)::starEach es X.env:=by rfl):PA X (e::es) (zsf te t):=by
 intro pos pins s σ H Q I h;rw [hs];show wpAny _ _ (spliced ((false,eval e X.env)::backTo pos (starEach es X.env))) _ _ s;refine Calls.spliced_cons (thn (ha pins s σ H _ I h) λu s1 q_=>?_);obtain ⟨x,H1,I1,r1,q1⟩:=q_;exact thn (hr pos pins s1 σ H1 _ I1 q1) λus s2 ⟨xs,H2,I2,r2,q2⟩=>⟨x::xs,H2,I2,.cons r1 r2,q2⟩
noncomputable def tTup (t:TA):TE:=λσ H Q=>t σ H λxs H1=>xs.length<=sizeLine/\∀ p,H1 p=none->Q (.ref p) (upd H1 p (.tup xs))
noncomputable def tLst (t:TA):TE:=λσ H Q=>t σ H λxs H1=>xs.length<=sizeLine/\∀ p,H1 p=none->Q (.ref p) (upd H1 p (.lst xs))
theorem zrD {x1} (h:PA X es t):PE X (.Tuple es x1 pos) (tTup t):=by
 intro pins s σ H Q I hq
 refine wpAny_Tuple_spliced (thn (h pos pins s σ H _ I hq) λus s1 ⟨xs,H1,I1,r,z,q⟩=>⟨by rw [<-r.length];exact z,?_⟩)
 have hf:H1 s1.heap.objs.size=none:=I1.hok.fresh (Nat.le_refl _);refine ⟨.ref s1.heap.objs.size,upd H1 s1.heap.objs.size (.tup xs),I1.laid (t':=s1.toks) (λb u e=>Heap.get?_push_of_some _ e) (Nat.le_refl _) ?_,rfl,q _ hf⟩;exact ⟨z,us,r,zbm.new _ _⟩
theorem zpS (h:PA X es t):PE X (.List es pos) (tLst t):=by
 intro pins s σ H Q I hq
 refine wpAny_List_spliced (thn (h pos pins s σ H _ I hq) λus s1 ⟨xs,H1,I1,r,z,q⟩=>⟨by rw [<-r.length];exact z,?_⟩)
 have hf:H1 s1.heap.objs.size=none:=I1.hok.fresh (Nat.le_refl _);refine ⟨.ref s1.heap.objs.size,upd H1 s1.heap.objs.size (.lst xs),I1.laid (t':=s1.toks) (λb u e=>Heap.get?_push_of_some _ e) (Nat.le_refl _) ?_,rfl,q _ hf⟩;exact ⟨z,us,0,r,Heap.get?_push_size _ rfl⟩
end
noncomputable abbrev Sp:=List V->Hp->VK->XK->Prop
noncomputable abbrev CXT:=List Env->Hp->Shared->XK->Value->Shared->Prop
structure Env0 (P:Program) (w:World) (K:PySem.W.Frag) (mg:Str->Option Value) (base:Heap) (A:Around) (outer:List Env) (s:Shared) (H:Hp):Prop where
 frames:A.frames=some outer
 mod:Mod K mg base
 bs:∀ b o,base.get? b=some o->s.heap.get? b=some o/\H b=none
 bsz:base.objs.size<=s.heap.objs.size
 funs:s.heap.FunFrames base outer
 frf:∀ b∈frs outer,H b=none
 hok:HOk P w H s.heap
 bare:AllBare s.gens
noncomputable def CE (outer:List Env) (P:Program) (w:World) (H:Hp) (s:Shared) (Q:VK) (u:Value) (s':Shared):Prop:=
 ∃ v H',s'.os=s.os/\AllBare s'.gens/\Un (frs outer) [] H H' s.heap s'.heap/\HOk P w H' s'.heap/\RelV v u/\Q v H'
noncomputable def CR (CX:CXT) (outer:List Env) (P:Program) (w:World) (H:Hp) (s:Shared) (Q:VK) (E:XK) (r:Result) (s':Shared):Prop:=
 match r with
 | .ok (.ret u)=>CE outer P w H s Q u s'
 | .ok _=>False
 | .error e=>CX outer H s E e s'
structure FnOk (P:Program) (w:World) (K:PySem.W.Frag) (mg:Str->Option Value) (base:Heap) (CX:CXT) (k:Nat) (f:Addr) (fd:FuncData) (ps:List Str) (sp:Sp):Prop where
 len:∀ vs H Q E,sp vs H Q E->vs.length=ps.length
 run:∀ (A:Around) (outer:List Env) (s:Shared) (H:Hp) (args:Args) (us:List Value) (vs:List V) (Q:VK) (E:XK),Room k A->Env0 P w K mg base A outer s H->BindsTo s fd args (ps.zip us)->Vals vs us->sp vs H Q E →
  codeAny (model P w) A (.call (.ref f) args) (CR CX outer P w H s Q E) s
theorem FnOk.mono {P:Program} {w:World} {K:PySem.W.Frag} {mg:Str->Option Value} {base:Heap} {CX:CXT} {j k:Nat} {f:Addr} {fd:FuncData} {ps:List Str} {sp:Sp} (F:FnOk P w K mg base CX j f fd ps sp) (h:j<=k) :
  FnOk P w K mg base CX k f fd ps sp:=⟨F.len,λA outer s H args us vs Q E hr=>F.run A outer s H args us vs Q E (hr.mono h)⟩
theorem FnOk.imp {P:Program} {w:World} {K:PySem.W.Frag} {mg:Str->Option Value} {base:Heap} {CX:CXT} {k:Nat} {f:Addr} {fd:FuncData} {ps:List Str} {sp sp':Sp} (F:FnOk P w K mg base CX k f fd ps sp)
  (h:∀ vs H Q E,sp' vs H Q E->sp vs H Q E):FnOk P w K mg base CX k f fd ps sp':=
 ⟨λvs H Q E q=>F.len vs H Q E (h _ _ _ _ q),λA outer s H args us vs Q E hr he hb hv hs=>F.run A outer s H args us vs Q E hr he hb hv (h _ _ _ _ hs)⟩
theorem Env0.in1 {P:Program} {w:World} {K:PySem.W.Frag} {mg:Str->Option Value} {base:Heap} {A:Around} {outer:List Env} {s:Shared} {H:Hp} (e:Env0 P w K mg base A outer s H) :
  Env0 P w K mg base A.in1 outer s H:=⟨e.frames,e.mod,e.bs,e.bsz,e.funs,e.frf,e.hok,e.bare⟩
section
variable {X:Cx} {pins:List (Addr×Obj)} {σ:St} {H:Hp} {s s':Shared}
theorem Inv.env0 (I:Inv X pins σ H s):Env0 X.prog X.w X.K X.mg X.base X.A X.stack s H:=
 ⟨I.ok.frames,I.ok.mod,I.bs,Nat.le_trans I.ok.bsz I.sz,I.stack,I.stkFree,I.hok,I.bare⟩
theorem Inv.after {Q:VK} {u:Value} (I:Inv X pins σ H s) (h:CE X.stack X.prog X.w H s Q u s'):EP X pins σ Q u s':=by
 obtain ⟨v,H',os,bare,un,hok,r,q⟩:=h;obtain ⟨hh,g,d,t,os'⟩:=s';obtain rfl:os'=s.os:=os;exact ⟨v,H',I.call (h':=hh) (g':=g) (d':=d) (t':=t) (ch:=[]) un hok bare (λb z=>absurd z (by simp)),r,q⟩
end
noncomputable def zsT (sp:Sp) (dvs:List V) (E:XK) (t:TA):TE:=λσ H Q=>t σ H λvs H1=>sp (vs++dvs) H1 Q E
noncomputable def zgS (K:PySem.W.Frag) (fd:FuncData) (ps:List Str) (ds:List Value):Prop:=
 ∀ (s:Shared) (us:List Value),K.In s.heap->(us++ds).length=ps.length->BindsTo s fd ⟨us,[]⟩ (ps.zip (us++ds))
theorem zgS.all {K:PySem.W.Frag} {fd:FuncData} {ps:List Str} (h:∀ us:List Value,us.length=ps.length->bindArgs fd ⟨us,[]⟩=pure (ps.zip us)):zgS K fd ps []:=λs us _ hl=>by
 rw [List.append_nil] at hl ⊢;exact .of_eq (h us hl)
noncomputable def zks (CX:CXT) (X:Cx) (E:XK):Prop:=∀ (pins:List (Addr×Obj)) (σ:St) (H:Hp) (s:Shared) (e:Value) (s':Shared),Inv X pins σ H s->CX X.stack H s E e s'->X.xe e s'
section
variable {X:Cx} {CX:CXT} {k:Nat} {f C:Addr} {fd:FuncData} {ps:List Str} {sp:Sp} {dvs:List V} {ds:List Value} {E:XK} {x m:Str} {p pos apos:Pos} {e o:Expr} {es:List Expr} {ta:TE} {t:TA}
theorem zrs {pins:List (Addr×Obj)} {σ:St} {H:Hp} {s:Shared} {Q:VK} {us:List Value} {vs:List V} (F:FnOk X.prog X.w X.K X.mg X.base CX k f fd ps sp) (hr:Room k X.A) (hb:zgS X.K fd ps ds) (hd:Vals dvs ds) (hx:zks CX X E)
  (I:Inv X pins σ H s) (r:Vals vs us) (h:sp (vs++dvs) H Q E):wpAny (model X.prog X.w) X.A (call (.ref f) us) (EP X pins σ Q) X.xe s:=by
 have r2:Vals (vs++dvs) (us++ds):=r.append hd
 have hl:(us++ds).length=ps.length:=by rw [<-r2.length];exact F.len _ _ _ _ h
 refine wpAny_call (codeAny_mono (F.run X.A X.stack s H ⟨us,[]⟩ (us++ds) (vs++dvs) Q E hr I.env0 (hb s us I.kIn hl) r2 h) λr s' hq=>?_)
 cases r with
 | error e=>exact hx pins σ H s e s' I hq
 | ok fl=>
  cases fl with
  | ret u=>exact I.after hq
  | next=>exact False.elim hq
  | brk=>exact False.elim hq
  | cont=>exact False.elim hq
theorem zkn (F:FnOk X.prog X.w X.K X.mg X.base CX k f fd ps sp) (hr:Room k X.A) (hg:Gl X x) (hm:X.mg x=some (.ref f)) (hk:PySem.W.keepIn X.K (.ref f)=true) (hb:zgS X.K fd ps ds) (hd:Vals dvs ds) (hx:zks CX X E)
  (ha:PA X (e::es) t) (hdb:(x==("__debug__":Str))=false:=by decide) (he:starEach (e::es) X.env=(false,eval e X.env)::starEach es X.env:=by rfl) (hpl:(backTo pos (starEach es X.env)).any (·.1)=false:=by rfl) :
  PE X (.Call (.Name x p) (e::es) [] pos) (zsT sp dvs E t):=by
 intro pins s σ H Q I h;refine wpAny_Call_Name_kw (zlf I hg hm ?_ hdb);refine PySem.W.callWith_K (h₀:=X.base) I.ok.mod.kin hk (thn (ha pos pins s σ H _ I h) λus s1 ⟨vs,H1,I1,r,q⟩=>⟨I1.kIn,?_⟩) he hpl;exact zrs F hr hb hd hx I1 r q
structure Mk (K:PySem.W.Frag) (C f:Addr):Prop where
 makes:PySem.W.makesIn K C=true
 init:PySem.W.findIn K (.ref C) "__init__"=some (some (.ref f))
 fn:PySem.W.isFn K (.ref f)=true
 kp:PySem.W.keepIn K (.ref C)=true
end
section
variable {X:Cx} {CX:CXT} {k:Nat} {f C:Addr} {fd:FuncData} {ps ks:List Str} {sp:Sp} {E:XK} {x m:Str} {p pos apos kpos:Pos} {e o:Expr} {es:List Expr} {kws:List Keyword} {te ta:TE} {t tk:TA} {nm:Option Str}
variable {g:List Value->List Value->List Value} {gV:List V->List V->List V}
end
structure zdx (N P:List Str) (sc:Scope):Prop where
 kind:sc.kind=.function
 co:sc.isCoroutine=false
 gen:sc.isGenerator=false
 nd:N.Nodup
 pre:N.take P.length=P
 par:∀ x∈P,sc.names.lookup x=some .local\/sc.names.lookup x=some .cell
 nofree:∀ y∈sc.names,y.2≠.free
theorem zgi {kindOf:Str->Option NameKind} {x:Str}:∀ {binds:List (Str×Value)} {m:Str->Option Value},(∀ v,(x,v) ∉ binds)->bindL kindOf binds m x=m x
  | [],_,_=>rfl
  | (n, v)::r,m,h=>by
    unfold bindL;rw [zgi λw hw=>h w (List.mem_cons_of_mem _ hw)]
    split
    · have:x≠n:=by rintro rfl;exact h v List.mem_cons_self
      simp [this]
    · rfl
theorem zge {kindOf:Str->Option NameKind} {x:Str}:∀ {binds:List (Str×Value)} {m:Str->Option Value},(∀ v,(x,v) ∉ binds)->bindC kindOf binds m x=m x
  | [],_,_=>rfl
  | (n, v)::r,m,h=>by
    unfold bindC;rw [zge λw hw=>h w (List.mem_cons_of_mem _ hw)]
    split
    · rfl
    · have:x≠n:=by rintro rfl;exact h v List.mem_cons_self
      simp [this]
theorem zf5 {kindOf:Str->Option NameKind} {x:Str} {v:Value}:∀ {P:List Str} {vs:List Value} {i:Nat} {m:Str->Option Value},P.Nodup->P[i]?=some x->vs[i]?=some v->kindOf x=some .local →
  bindL kindOf (P.zip vs) m x=some v
 | [],_,_,_,_,h,_,_=>by simp at h
 | _::_,[],_,_,_,_,h,_=>by simp at h
 | p::P,w::vs,0,m,nd,h1,h2,hk=>by
  simp at h1 h2;subst h1;subst h2
  show bindL kindOf ((p,w)::P.zip vs) m p=_;unfold bindL;rw [zgi λv hv=>(List.nodup_cons.mp nd).1 (List.of_mem_zip hv).1,if_pos hk];simp
 | p::P,w::vs,i+1,m,nd,h1,h2,hk=>by
  show bindL kindOf ((p,w)::P.zip vs) m x=_;unfold bindL;exact zf5 (i:=i) (List.nodup_cons.mp nd).2 (by simpa using h1) (by simpa using h2) hk
theorem zgh {kindOf:Str->Option NameKind} {x:Str} {v:Value}:∀ {P:List Str} {vs:List Value} {i:Nat} {m:Str->Option Value},P.Nodup->P[i]?=some x->vs[i]?=some v->kindOf x≠some .local →
  bindC kindOf (P.zip vs) m x=some v
 | [],_,_,_,_,h,_,_=>by simp at h
 | _::_,[],_,_,_,_,h,_=>by simp at h
 | p::P,w::vs,0,m,nd,h1,h2,hk=>by
  simp at h1 h2;subst h1;subst h2
  show bindC kindOf ((p,w)::P.zip vs) m p=_;unfold bindC;rw [zge λv hv=>(List.nodup_cons.mp nd).1 (List.of_mem_zip hv).1,if_neg hk];simp
 | p::P,w::vs,i+1,m,nd,h1,h2,hk=>by
  show bindC kindOf ((p,w)::P.zip vs) m x=_;unfold bindC;exact zgh (i:=i) (List.nodup_cons.mp nd).2 (by simpa using h1) (by simpa using h2) hk
noncomputable def start (N:List Str) (vs:List V):St:=vs.map some++List.replicate (N.length-vs.length) none
noncomputable def cxOf (CX:CXT) (P:Program) (w:World) (K:PySem.W.Frag) (mg:Str->Option Value) (base:Heap) (N:List Str) (qual:Str) (scope:Scope) (f:Addr) (cd:Value) (A:Around) (outer:List Env) (s:Shared) (H:Hp) (E:XK):Cx where
 prog:=P
 w:=w
 K:=K
 mg:=mg
 base:=base
 A:=A.deeper (envOfC qual scope s.heap.objs.size f cd)
 N:=N
 s₀:=s
 H₀:=H
 env:=envOfC qual scope s.heap.objs.size f cd
 outer:=outer
 stack:=envOfC qual scope s.heap.objs.size f cd::outer
 ex:=[]
 calm:=true
 fn:=λ_=>true
 pn:=[]
 xe:=λe s'=>wpAny (model P w) (A.deeper (envOfC qual scope s.heap.objs.size f cd)) (leaving (envOfC qual scope s.heap.objs.size f cd) e) (λ_ s''=>CX outer H s E e s'') (λe' s''=>CX outer H s E e' s'') s'
theorem zia {sc:Scope} {n:Nat} {x:Str} (h:sc.names.lookup x=some .cell):∃ c,(cellsFrom n sc.names []).lookup x=some c:=by
 have q:=PySem.W.cellsFrom_some sc.names n [] (.inl h);exact Option.isSome_iff_exists.mp q
theorem zjj {CX:CXT} {P:Program} {w:World} {K:PySem.W.Frag} {mg:Str->Option Value} {base:Heap} {N ps:List Str} {qual:Str} {scope:Scope} {f:Addr} {cd:Value} {A:Around} {outer:List Env} {s s1:Shared} {H:Hp} {E:XK} {us:List Value} {vs:List V}
  (S:zdx N ps scope) (hd:A.handled=none) (e0:Env0 P w K mg base A outer s H) (hl:vs.length=ps.length) (r:Vals vs us)
  (x:InCallC s s.heap.objs.size (bindL (envOfC qual scope s.heap.objs.size f cd).kindOf (ps.zip us) λ_=>none) (cellsFrom (s.heap.objs.size+1) scope.names []) (bindC (envOfC qual scope s.heap.objs.size f cd).kindOf (ps.zip us) λ_=>none) s1) :
  Inv (cxOf CX P w K mg base N qual scope f cd A outer s H E) [] (start N vs) H s1:=by
 have hpl:ps.length<=N.length:=by have:=congrArg List.length S.pre;rw [List.length_take] at this;omega
 obtain ⟨h1,tk,rfl,hk⟩:=x.done;have noA:∀ b:Addr,b ∉ (cxOf CX P w K mg base N qual scope f cd A outer s H E).ex:=λb z=>absurd (show b∈([]:List Addr) from z) (by simp)
 refine ⟨⟨e0.mod,S.kind,rfl,rfl,Nat.le_refl _,λy z c h1 h2=>?_,λy hy=>?_,λy c _ h=>?_,λ_=>hd,Around.frames_deeper e0.frames,.inr ⟨rfl,rfl⟩,λb z=>absurd z (noA b),e0.bs,e0.bsz,λb _ _=>noA b,λb z=>absurd z (noA b),e0.funs,e0.frf⟩,
  rfl,e0.bare,Un.kept hk,⟨_,x.toInCall.ns,λi y v h1 h2 h3=>?_⟩,λy c h=>⟨_,x.cell y c h⟩,e0.hok.fresh (Nat.le_refl _),λy c h=>?_,λp hp=>absurd (show p∈([]:List (Addr×Obj)) from hp) (by simp),e0.hok.kept hk,?_⟩
 ·exact name_of_addr x.apart (PySem.mem_of_lookup h1) (PySem.mem_of_lookup h2)
 ·have hy:scope.names.lookup y=some .cell\/scope.names.lookup y=some .free:=hy
  rcases hy with hy | hy
  ·exact zia hy
  ·exact absurd rfl (S.nofree _ (PySem.mem_of_lookup hy))
 ·exact Nat.le_of_lt (x.above y c (PySem.mem_of_lookup h))
 ·have hi:i<vs.length:=by
   unfold start at h2
   by_cases hi:i<vs.length
   ·exact hi
   ·rw [List.getElem?_append_right (by simpa using hi)] at h2
    rw [List.getElem?_replicate] at h2
    split at h2<;>cases h2
  have ha:vs[i]?=some v:=by
   unfold start at h2;rw [List.getElem?_append_left (by simpa using hi),List.getElem?_map] at h2
   cases e:vs[i]? with
   | none=>rw [e] at h2;cases h2
   | some a=>rw [e] at h2;cases h2;rfl
  obtain ⟨u,hu,rv⟩:=r.get ha
  have hp:ps[i]?=some y:=by
   rw [<-S.pre,List.getElem?_take_of_lt (by omega)];exact h1
  have ndP:ps.Nodup:=by rw [<-S.pre];exact S.nd.sublist (List.take_sublist _ _)
  refine ⟨u,rv,?_⟩
  rcases S.par y (List.mem_of_getElem? hp) with k | k
  ·exact .inl ⟨k,zf5 ndP hp hu k⟩
  ·obtain ⟨c,e⟩:=zia (n:=s.heap.objs.size+1) k
   refine .inr ⟨.inl k,c,e,?_⟩;have q:=x.cell y c e
   rw [zgh ndP hp hu (by show scope.names.lookup y≠_;rw [k];decide)] at q
   exact q
 ·exact e0.hok.fresh (Nat.le_of_lt (x.above y c (PySem.mem_of_lookup h)))
 ·unfold start
  show _=N.length;rw [List.length_append,List.length_map,List.length_replicate];omega
theorem zsv {CX:CXT} {P:Program} {w:World} {K:PySem.W.Frag} {mg:Str->Option Value} {base:Heap} {k:Nat} {f:Addr} {name qual:Str} {params:Arguments} {body:List Stmt} {scope:Scope} {dV kV doc pm cdv ct oc:Value} {an od:Option Addr}
  {osl:Array (Option Value)} {N ps:List Str} {sp:Sp} (lk:K.lookup f=some ⟨oc,od,.func (PySem.W.fnOf name qual params body scope dV kV doc pm an cdv ct),osl⟩) (hcd:PySem.W.codeIn K cdv qual=true) (S:zdx N ps scope)
  (len:∀ vs H Q E,sp vs H Q E->vs.length=ps.length)
  (hbody:∀ (A:Around) (outer:List Env) (s:Shared) (H:Hp) (vs:List V) (Q:VK) (E:XK),Room k (A.deeper (envOfC qual scope s.heap.objs.size f cdv))->sp vs H Q E →
   ∃ t,PSs (cxOf CX P w K mg base N qual scope f cdv A outer s H E) body t/\t { nx:=λ_ H'=>Q .non H',rt:=Q } (start N vs) H) :
  FnOk P w K mg base CX (k+1) f (PySem.W.fnOf name qual params body scope dV kV doc pm an cdv ct) ps sp:=by
 refine ⟨len,λA outer s H args us vs Q E hr e0 hb r hsp=>?_⟩;have hl:=len _ _ _ _ hsp;have KX:K.In s.heap:=e0.mod.kin.keeps λb o e=>(e0.bs b o e).1;have lim:s.heap.NoLimit:=e0.mod.nolimit.keeps λb o e=>(e0.bs b o e).1
 have hkind:∀ y∈ps.zip us,scope.names.lookup y.1=some .local\/(scope.names.lookup y.1=some .cell/\((cellsFrom (s.heap.objs.size+1) scope.names []).lookup y.1).isSome=true):=λ⟨n,v⟩ hy=>by
  rcases S.par n (List.of_mem_zip hy).1 with q | q
  ·exact .inl q
  ·exact .inr ⟨q,PySem.W.cellsFrom_some _ _ _ (.inl q)⟩
 refine codeAny_call_function hr.depth (KX _ _ lk) rfl S.co S.gen rfl (PySem.W.codeRec_of KX hcd) (hb _ _ _ _ ?_);refine wpAny_newFunctionEnv_cells S.kind hkind λenv he s1 x=>?_;subst he;refine ⟨lim.keeps x.toInCall.keep,codeAny_func ?_⟩;obtain ⟨t,ht,hq⟩:=hbody A outer s H vs Q E (hr.deeper _) hsp;have I:Inv (cxOf CX P w K mg base N qual scope f cdv A outer s H E) [] (start N vs) H s1:=zjj S hr.hd e0 hl r x;refine wpAny_mono (ht [] s1 (start N vs) H _ I hq) (λfl s' hs=>?_) λe s' hs=>hs
 have fin:∀ {σ':St} {H':Hp} {v:V} {u:Value},Inv (cxOf CX P w K mg base N qual scope f cdv A outer s H E) [] σ' H' s'->RelV v u->Q v H'->CE outer P w H s Q u s':=
  fun {σ' H' v u} J rv q=>⟨v,H',J.os,J.bare,J.base,J.hok,rv,q⟩
 cases fl with
 | ret u=>
  obtain ⟨v,σ',H',J,rv,q⟩:=hs;exact fin J rv q
 | next=>
  obtain ⟨σ',H',J,q⟩:=hs;exact fin (v:=V.non) (u:=Value.none) J rfl q
 | brk=>
  obtain ⟨_,_,_,q⟩:=hs;exact False.elim q
 | cont=>
  obtain ⟨_,_,_,q⟩:=hs;exact False.elim q
section
variable {X:Cx} {x:Str} {p pos:Pos} {e:Expr} {es:List Expr} {t:TA} {id T:String} {r:List V->Hp->VK->Prop}
noncomputable def tCB (r:List V->Hp->VK->Prop) (t:TA):TE:=λσ H Q=>t σ H λvs H1=>r vs H1 Q
theorem zco (hc:zbj X (.builtin id) r) (hg:Gl X x) (hm:X.mg x=none) (hv:bootBuiltins x=some (.builtin id)) (ha:PA X (e::es) t) (hn:x ≠ "__name__":=by decide) (hdb:(x==("__debug__":Str))=false:=by decide)
  (he:starEach (e::es) X.env=(false,eval e X.env)::starEach es X.env:=by rfl) (hpl:(backTo pos (starEach es X.env)).any (·.1)=false:=by rfl):PE X (.Call (.Name x p) (e::es) [] pos) (tCB r t):=by
 intro pins s σ H Q I h;refine wpAny_Call_Name_kw (zhG I hg hm hv ?_ hn hdb);exact PyProof.Rows.callWith_builtin1 (thn (ha pos pins s σ H _ I h) λus s1 ⟨vs,H1,I1,r1,q1⟩=>hc pins s1 σ H1 vs us Q I1 r1 q1) he hpl
theorem zbB (hc:zbj X (.type T) r) (hg:Gl X x) (hm:X.mg x=none) (hv:bootBuiltins x=some (.type T)) (ha:PA X (e::es) t) (hn:x ≠ "__name__":=by decide) (hdb:(x==("__debug__":Str))=false:=by decide)
  (he:starEach (e::es) X.env=(false,eval e X.env)::starEach es X.env:=by rfl) (hpl:(backTo pos (starEach es X.env)).any (·.1)=false:=by rfl):PE X (.Call (.Name x p) (e::es) [] pos) (tCB r t):=by
 intro pins s σ H Q I h;refine wpAny_Call_Name_kw (zhG I hg hm hv ?_ hn hdb);exact PyProof.Rows.callWith_type1 (thn (ha pos pins s σ H _ I h) λus s1 ⟨vs,H1,I1,r1,q1⟩=>hc pins s1 σ H1 vs us Q I1 r1 q1) he hpl
end
end L2
namespace HT
open PySem PyProof.Rows
section
open PySem.SeqAt
open PySem.AutoSeq1 (wpAny_loadPart')
open PySem.MeetsSeq PySem.MeetsSeq2 PySem.MeetsSeq3
end
section
variable {prog:Program} {w:World} {A:Around} {E:Value->Shared->Prop} {s:Shared}
theorem cat_tup {t b:Addr} {vs ws:List Value} {Q:Value->Shared->Prop} (ht:IsTup s.heap t vs.toArray) (hb:IsTup s.heap b ws.toArray) (hv:vs≠[])
  (h1:ws=[]->Q (.ref t) s) (h2:ws≠[]->Q (.ref s.heap.objs.size) { s with heap:=s.heap.push { cls:=.type "tuple",data:=.seq (vs++ws).toArray } })
  (hsz:vs.length+ws.length<=sizeLine):wpAny (model prog w) A (binaryOp .Add (.ref t) (.ref b)) Q E s:=by
 obtain ⟨⟨cls,dd,data,sl⟩,ho,hc,n,hd⟩:=id ht;obtain ⟨⟨cls2,dd2,data2,sl2⟩,ho2,hc2,n2,hd2⟩:=id hb;simp only at hc hd hc2 hd2;subst hc hd hc2 hd2
 have e:vs.toArray++ws.toArray=(vs++ws).toArray:=by simp
 by_cases hw:ws=[]
 ·exact concat_meets ⟨_,ho,rfl⟩ ⟨_,ho2,rfl⟩ noFill_tuple_add seq_tuple_add PySem.F.slot_tuple_add PySem.F.entry_tuple_add (PySem.F.args_tuple_add_2 _ _)
   (tuple_addW1 t b vs.toArray ws.toArray n n2 dd dd2 sl sl2 (by simpa using hv) (by simp [hw])) ⟨ho,ho2,h1 hw⟩
 ·refine concat_meets ⟨_,ho,rfl⟩ ⟨_,ho2,rfl⟩ noFill_tuple_add seq_tuple_add PySem.F.slot_tuple_add PySem.F.entry_tuple_add (PySem.F.args_tuple_add_2 _ _)
   (tuple_addW2 t b vs.toArray ws.toArray n n2 dd dd2 sl sl2 (by simpa using hv) (by simpa using hw) (by rw [List.size_toArray,List.size_toArray];exact hsz)) ⟨ho,ho2,?_⟩
  rw [e];exact h2 hw
noncomputable def sIx (n d:Nat):Option Int->Nat
 | none=>d
 | some v=>if v<0 then (v+(n:Int)).toNat else min v.toNat n
theorem sIx_le (n d:Nat) (hd:d<=n) (o:Option Int):sIx n d o<=n:=by
 cases o with
 | none=>exact hd
 | some v=>
  show (if v<0 then (v+(n:Int)).toNat else min v.toNat n)<=n
  by_cases hv:v<0
  ·rw [if_pos hv];omega
  ·rw [if_neg hv];exact Nat.min_le_right _ _
theorem zkC (v:Int) (n d:Nat):(if v<0 then max (v+(n:Int)) 0 else min v (n:Int))=((sIx n d (some v):Nat):Int):=by
 show (if v<0 then max (v+(n:Int)) 0 else min v (n:Int))=(((if v<0 then (v+(n:Int)).toNat else min v.toNat n):Nat):Int)
 by_cases hv:v<0
 ·simp only [if_pos hv];omega
 ·simp only [if_neg hv];omega
theorem zi5 (lo hi:Option Int) (n:Nat):Builtin.Slice.sliceAdjust lo hi 1 (n:Int)=(((sIx n 0 lo:Nat):Int),((sIx n n hi:Nat):Int)):=by
 have h1:¬ ((1:Int)<0):=by omega
 unfold Builtin.Slice.sliceAdjust;simp only [h1,if_false];refine Prod.ext ?_ ?_
 ·cases lo with
  | none=>rfl
  | some v=>exact zkC v n 0
 ·cases hi with
  | none=>rfl
  | some v=>exact zkC v n n
theorem zi6 (i j:Nat):Builtin.Slice.slicePlaces (i:Int) (j:Int) 1=j-i:=by
 unfold Builtin.Slice.slicePlaces
 have h1:(1:Int)>0:=by omega
 simp only [h1,if_true,Int.ediv_one]
 split<;>omega
theorem zez {v:Value} {o:Option Int} {Q:Option Int->Shared->Prop} (p:IsPart v o) (h:Q o s):wpAny (model prog w) A (Builtin.Slice.slicePartIndex v) Q E s:=by
 cases p with
 | none=>exact slicePart_none h
 | int i t=>exact slicePart_int h
theorem zbi {sl:Addr} {vl vu:Value} {lo hi:Option Int} {n:Nat} {Q:Int×Int×Nat->Shared->Prop} (hs:s.heap.IsSliceOf sl vl vu .none) (pl:IsPart vl lo) (pu:IsPart vu hi)
    (h:Q (((sIx n 0 lo:Nat):Int),1,sIx n n hi-sIx n 0 lo) s):wpAny (model prog w) A (Builtin.Slice.sliceApplied (.ref sl) (pure (n:Int))) Q E s:=by
  obtain ⟨os,hos,hcs,hds⟩:=id hs;unfold Builtin.Slice.sliceApplied Builtin.Slice.sliceFields;refine wpAny_bind (wpAny_bind (wpAny_field hos hds (x:=vl) rfl (wpAny_bind (wpAny_field hos hds (x:=vu) rfl (wpAny_bind (wpAny_field hos hds (x:=.none) rfl (wpAny_pure ?_)))))));refine wpAny_bind (slicePart_none ?_);show wpAny _ _ (if ((1:Int)==0)=true then _ else _) _ _ s;rw [if_neg (by decide)];refine wpAny_bind (zez pl (wpAny_bind (zez pu (wpAny_bind (wpAny_pure ?_)))));show wpAny _ _ (match Builtin.Slice.sliceAdjust lo hi 1 (n:Int) with | (lo,hi)=>pure (lo,(1:Int),Builtin.Slice.slicePlaces lo hi 1)) _ _ s;rw [zi5 lo hi n];show wpAny _ _ (pure (((sIx n 0 lo:Nat):Int),(1:Int),Builtin.Slice.slicePlaces ((sIx n 0 lo:Nat):Int) ((sIx n n hi:Nat):Int) 1)) _ _ s;rw [zi6];exact wpAny_pure h
theorem zmN (xs:Array Value) (i k:Nat):((List.range k).filterMap λ(m:Nat)=>xs[((i:Int)+(m:Int)*1).toNat]?).toArray=((xs.toList.drop i).take k).toArray:=by
 have e:(λ(m:Nat)=>xs[((i:Int)+(m:Int)*1).toNat]?)=λm=>xs[i+m]?:=by
  funext m
  have:((i:Int)+(m:Int)*1).toNat=i+m:=by omega
  rw [this]
 rw [e]
 have:=pick_run xs i k
 rw [List.filterMap_map] at this;have e2:((λx=>xs[x]?)∘λx=>i+x)=λm=>xs[i+m]?:=rfl;rw [e2] at this;rw [this]
theorem getItem_tuple_cut {t sl:Addr} {items:Array Value} {vl vu:Value} {lo hi:Option Int} {Q:Value->Shared->Prop} (ht:IsTup s.heap t items) (hs:s.heap.IsSliceOf sl vl vu .none) (pl:IsPart vl lo) (pu:IsPart vu hi)
  (hw:¬ (sIx items.size 0 lo=0/\sIx items.size items.size hi=items.size))
  (h:Q (.ref s.heap.objs.size) { s with heap:=s.heap.push { cls:=.type "tuple",data:=.seq ((items.toList.drop (sIx items.size 0 lo)).take (sIx items.size items.size hi-sIx items.size 0 lo)).toArray } })
  (hsz:items.size<=sizeLine):wpAny (model prog w) A (getItem (.ref t) (.ref sl)) Q E s:=by
 have htake:sizeOk (.seq ((items.toList.drop (sIx items.size 0 lo)).take (sIx items.size items.size hi-sIx items.size 0 lo)).toArray):=by
  show ((items.toList.drop (sIx items.size 0 lo)).take (sIx items.size items.size hi-sIx items.size 0 lo)).toArray.size<=sizeLine;rw [List.size_toArray,List.length_take,List.length_drop,Array.length_toList];omega
 have hj:sIx items.size items.size hi<=items.size:=sIx_le _ _ (Nat.le_refl _) hi;obtain ⟨os,hos,hcs,hds⟩:=id hs;have hTs:s.TypeIs (.ref sl) "slice":=⟨os,hos,hcs⟩;unfold getItem
 try with_reducible refine wpAny_holding ?_
 first | refine wpAny_bind (wpAny_pure ?_) | skip
 refine wpAny_bind (wpAny_sequenceKey ht.typeIs (by decide) ?_)
 refine wpAny_bind (wpAny_callSpecial?_slot (name:=Str.ofString "__getitem__") ht.typeIs PyProof.Rows.slot_tuple_getitem
  (wpAny_call_entry PyProof.Rows.slot_tuple_getitem ht.typeIs entry_tuple_getitem ?_ (args_tuple_getitem _ _)))
 show wpAny _ _ (Builtin.Tuple.tupleItemsOf (.ref t) >>= _) _ _ s;refine wpAny_bind (tupleItemsOf_ ht ?_);refine wpAny_bind (wpAny_typeOf hTs ?_);rw [if_pos (by decide)];refine wpAny_bind (zbi hs pl pu ?_)
 have hno:¬ ((((sIx items.size 0 lo:Nat):Int)==0&&(1:Int)==1&&(sIx items.size items.size hi-sIx items.size 0 lo)==items.size)=true):=by
  intro q;rw [Bool.and_eq_true,Bool.and_eq_true] at q;have q1:((sIx items.size 0 lo:Nat):Int)=0:=eq_of_beq q.1.1;have q2:sIx items.size items.size hi-sIx items.size 0 lo=items.size:=eq_of_beq q.2;exact hw ⟨by omega,by omega⟩
 show wpAny _ _ (if (((sIx items.size 0 lo:Nat):Int)==0&&(1:Int)==1&&(sIx items.size items.size hi-sIx items.size 0 lo)==items.size)=true then _ else _) _ _ s;rw [if_neg hno,zmN]
 first
  | exact wpAny_bind (m:=Builtin.Tuple.tupleExact _) (wpAny_newObj_type (wpAny_pure ⟨_,rfl,wpAny_pure h⟩) htake)
  | exact wpAny_bind (m:=Builtin.Tuple.tupleExact _) (wpAny_newObj_type (wpAny_bind (wpAny_pure (wpAny_pure ⟨_,rfl,wpAny_pure h⟩))) htake)
  | exact wpAny_bind (wpAny_bind (m:=Builtin.Tuple.tupleExact _) (wpAny_newObj_type (wpAny_pure (wpAny_pure ⟨_,rfl,wpAny_pure h⟩)) htake))
  | exact wpAny_bind (wpAny_bind (m:=Builtin.Tuple.tupleExact _) (wpAny_newObj_type (wpAny_pure ⟨_,rfl,wpAny_pure h⟩) htake))
end
end HT
namespace L2
open PySem PySem.Spec PyProof.Rows
noncomputable abbrev TO:=St->Hp->(Option Int->Hp->Prop)->Prop
noncomputable def PO (X:Cx) (e:Option Expr) (t:TO):Prop:=
 ∀ (pins:List (Addr×Obj)) (s:Shared) (σ:St) (H:Hp) (Q:Option Int->Hp->Prop),Inv X pins σ H s->t σ H Q →
  wpAny (model X.prog X.w) X.A (evalPart e X.env) (λu s'=>∃ o H',Inv X pins σ H' s'/\IsPart u o/\Q o H') X.xe s
noncomputable def zoS:TO:=λ_ H Q=>Q none H
section
variable {X:Cx} {e:Expr} {te:TE} {lo hi:Option Expr} {tl th:TO} {pos p2:Pos}
theorem zn6:PO X none zoS:=by
 intro pins s σ H Q I h;rw [evalPart_none];exact wpAny_pure ⟨none,H,I,.none,h⟩
noncomputable def SlR (X:Cx) (r:V->Option Int->Option Int->Hp->VK->Prop):Prop:=
 ∀ (pins:List (Addr×Obj)) (s:Shared) (σ:St) (H:Hp) (x:V) (v vl vu:Value) (lo hi:Option Int) (sl:Addr) (Q:VK),Inv X pins σ H s->RelV x v->s.heap.IsSliceOf sl vl vu .none->IsPart vl lo->IsPart vu hi->r x lo hi H Q →
  ∃ T id,typeLookup (.type T) "__getitem__"=pure (some (.builtin id))/\s.TypeIs v T/\wpAny (model X.prog X.w) X.A (getItem v (.ref sl)) (EP X pins σ Q) X.xe s
theorem SlR.or {r r':V->Option Int->Option Int->Hp->VK->Prop} (h:SlR X r) (h':SlR X r'):SlR X (λx lo hi H Q=>r x lo hi H Q\/r' x lo hi H Q):=by
 intro pins s σ H x v vl vu lo hi sl Q I rx hs pl pu q
 rcases q with q | q
 ·exact h pins s σ H x v vl vu lo hi sl Q I rx hs pl pu q
 ·exact h' pins s σ H x v vl vu lo hi sl Q I rx hs pl pu q
noncomputable def tSl (r:V->Option Int->Option Int->Hp->VK->Prop) (te:TE) (tl th:TO):TE:=λσ H Q=>te σ H λx H1=>tl σ H1 λl H2=>th σ H2 λu H3=>r x l u H3 Q
theorem zmL {r:V->Option Int->Option Int->Hp->VK->Prop} (hr:SlR X r) (he:PE X e te) (hl:PO X lo tl) (hu:PO X hi th):PE X (.Subscript e (.Slice lo hi none p2) pos) (tSl r te tl th):=by
 intro pins s σ H Q I h;refine Subscript_ (thn (he pins s σ H _ I h) λv s1 q_=>?_);obtain ⟨x,H1,I1,r1,q1⟩:=q_;refine wpAny_Slice (thn (hl pins s1 σ H1 _ I1 q1) λvl s2 ⟨l,H2,I2,pl,q2⟩=>thn (hu pins s2 σ H2 _ I2 q2) λvu s3 q_=>?_);obtain ⟨u,H3,I3,pu,q3⟩:=q_;rw [evalPart_none];refine wpAny_pure ?_;have I4:Inv X pins σ H3 { s3 with heap:=s3.heap.push { cls:=.type "slice",data:=.fields #[vl,vu,.none] } }:=I3.kept (t':=s3.toks) λb ob q=>Heap.get?_push_of_some _ q;obtain ⟨T,id,hT,ht,hg⟩:=hr pins { s3 with heap:=s3.heap.push { cls:=.type "slice",data:=.fields #[vl,vu,.none] } } σ H3 x v vl vu l u s3.heap.objs.size Q I4 r1 (Heap.IsSliceOf.new ..) pl pu q3;show wpAny (model X.prog X.w) X.A (subscriptTail e (.Slice lo hi none p2) v (.ref s3.heap.objs.size)) (EP X pins σ Q) X.xe { s3 with heap:=s3.heap.push { cls:=.type "slice",data:=.fields #[vl,vu,.none] } };exact tail_any (ops:=[.ref s3.heap.objs.size,v]) ht hT hg (by with_unfolding_all rfl)
noncomputable def cutV (xs:List V) (lo hi:Option Int):List V:=(xs.drop (HT.sIx xs.length 0 lo)).take (HT.sIx xs.length xs.length hi-HT.sIx xs.length 0 lo)
theorem zdt (xs:List V) (lo hi:Option Int):(cutV xs lo hi).length<=xs.length:=by
 unfold cutV;rw [List.length_take,List.length_drop];omega
noncomputable def rSlT (K:PySem.W.Frag):V->Option Int->Option Int->Hp->VK->Prop:=λx lo hi H Q=>∃ a xs,x=.ref a/\SqT K H a xs ∧
 ¬ (HT.sIx xs.length 0 lo=0/\HT.sIx xs.length xs.length hi=xs.length)/\∀ p,H p=none->Q (.ref p) (upd H p (.tup (cutV xs lo hi)))
theorem zp9:SlR X (rSlT X.K):=by
 intro pins s σ H x v vl vu lo hi sl Q I rx hs pl pu h;obtain ⟨a,xs,rfl,hx,hw,q⟩:=h;cases rx;obtain ⟨its,r,ht,hz⟩:=I.tuple hx
 have hlen:its.toArray.size=xs.length:=by rw [List.size_toArray];exact r.length.symm
 refine ⟨"tuple",_,PyProof.Rows.slot_tuple_getitem.lookup,ht.typeIs,?_⟩
 refine HT.getItem_tuple_cut ht hs pl pu (by rw [hlen];exact hw) ?_ (by rw [hlen];exact hz)
 rw [hlen];refine ⟨.ref s.heap.objs.size,_,I.laid (t':=s.toks) (o:=.tup (cutV xs lo hi)) (λb ob q=>Heap.get?_push_of_some _ q) (Nat.le_refl _) ?_,rfl,q _ (I.hok.fresh (Nat.le_refl _))⟩;exact ⟨Nat.le_trans (zdt xs lo hi) hz,_,(r.drop (HT.sIx xs.length 0 lo)).take (HT.sIx xs.length xs.length hi-HT.sIx xs.length 0 lo),zbm.new _ _⟩
noncomputable def zss (K:PySem.W.Frag):R2:=λx y H Q=>∃ a b xs ys,x=.ref a/\y=.ref b/\SqT K H a xs/\SqT K H b ys/\xs≠[]/\xs.length+ys.length<=sizeLine ∧
 (ys=[]->Q (.ref a) H)/\(ys≠[]->∀ p,H p=none->Q (.ref p) (upd H p (.tup (xs++ys))))
theorem Vals.nil_iff {xs:List V} {us:List Value} (r:Vals xs us):us=[]↔xs=[]:=by
 cases r with
 | nil=>simp
 | cons _ _=>simp
theorem zox:OpR X (binaryOp .Add) (zss X.K):=by
 intro pins s σ H x y v u Q I rx ry h;obtain ⟨a,b,xs,ys,rfl,rfl,ha,hb,hx,hz,q1,q2⟩:=h;cases rx;cases ry;obtain ⟨its,r1,p1,_⟩:=I.tuple ha;obtain ⟨its2,r2,p2,_⟩:=I.tuple hb
 refine HT.cat_tup p1 p2 (λz=>hx (r1.nil_iff.mp z)) (λz=>⟨.ref a,H,I,rfl,q1 (r2.nil_iff.mp z)⟩) (λz=>?_) (by rw [<-r1.length,<-r2.length];exact hz)
 refine ⟨.ref s.heap.objs.size,_,I.laid (t':=s.toks) (o:=.tup (xs++ys)) (λb ob q=>Heap.get?_push_of_some _ q) (Nat.le_refl _) ?_,rfl,q2 (λw=>z (r2.nil_iff.mpr w)) _ (I.hok.fresh (Nat.le_refl _))⟩
 exact ⟨by rw [List.length_append];exact hz,_,r1.append r2,zbm.new _ _⟩
end
noncomputable def ixN (n:Nat) (i:Int):Option Nat:=if 0<=i then (if i<n then some i.toNat else none) else if -(n:Int)<=i then some (i+n).toNat else none
noncomputable def atI {α:Type} (xs:List α) (i:Int):Option α:=(ixN xs.length i).bind λj=>xs[j]?
theorem zjz {n:Nat} {i:Int} {j:Nat} (h:ixN n i=some j):seqIndex? i n=some j/\j<n/\-(n:Int)<=i/\i<n:=by
 unfold ixN at h
 by_cases h0:0<=i
 ·rw [if_pos h0] at h
  by_cases h1:i<n
  ·rw [if_pos h1] at h
   have e:i.toNat=j:=Option.some.inj h;exact ⟨by rw [seqIndex_of h0 h1,e],by omega,by omega,h1⟩
  ·rw [if_neg h1] at h;cases h
 ·rw [if_neg h0] at h
  by_cases h1:-(n:Int)<=i
  ·rw [if_pos h1] at h
   have e:(i+n).toNat=j:=Option.some.inj h;exact ⟨by rw [seqIndex_neg (by omega) h1,e],by omega,h1,by omega⟩
  ·rw [if_neg h1] at h;cases h
theorem zg9 {α:Type} {xs:List α} {i:Int} {v:α} (h:atI xs i=some v):∃ j,seqIndex? i xs.length=some j/\xs[j]?=some v/\j<xs.length/\-(xs.length:Int)<=i/\i<xs.length:=by
 unfold atI at h
 cases e:ixN xs.length i with
 | none=>rw [e] at h;cases h
 | some j=>
  rw [e] at h;obtain ⟨h1,h2,h3,h4⟩:=zjz e;exact ⟨j,h1,h,h2,h3,h4⟩
noncomputable def zg5 (b:Expr):Prop:=∀ o i,subscripted b false o i=operate [o,i] (getItem o i)
noncomputable def IxR (X:Cx) (r:R2):Prop:=
 ∀ (value slice:Expr) (pins:List (Addr×Obj)) (s:Shared) (σ:St) (H:Hp) (x y:V) (v u:Value) (Q:VK),Inv X pins σ H s->RelV x v->RelV y u->r x y H Q →
  subscripted slice false v u=operate [v,u] (getItem v u)->wpAny (model X.prog X.w) X.A (subscriptTail value slice v u) (EP X pins σ Q) X.xe s
noncomputable def MtR (X:Cx) (id:String) (r:V->List V->Hp->VK->Prop):Prop:=
 ∀ (pins:List (Addr×Obj)) (s:Shared) (σ:St) (H:Hp) (x:V) (xs:List V) (v:Value) (us:List Value) (Q:VK),Inv X pins σ H s->RelV x v->Vals xs us->r x xs H Q →
  wpAny (model X.prog X.w) X.A (call (.builtin id) (v::us)) (EP X pins σ Q) X.xe s
section
variable {X:Cx} {a b:Expr} {ta tb:TE} {pos:Pos}
theorem IxR.or {r r':R2} (h:IxR X r) (h':IxR X r'):IxR X (λx y H Q=>r x y H Q\/r' x y H Q):=by
 intro value slice pins s σ H x y v u Q I rx ry q hs
 rcases q with q | q
 ·exact h value slice pins s σ H x y v u Q I rx ry q hs
 ·exact h' value slice pins s σ H x y v u Q I rx ry q hs
theorem MtR.or {id:String} {r r':V->List V->Hp->VK->Prop} (h:MtR X id r) (h':MtR X id r'):MtR X id (λx xs H Q=>r x xs H Q\/r' x xs H Q):=by
 intro pins s σ H x xs v us Q I rx rs q
 rcases q with q | q
 ·exact h pins s σ H x xs v us Q I rx rs q
 ·exact h' pins s σ H x xs v us Q I rx rs q
theorem zsa {r:R2} (hr:IxR X r) (ha:PE X a ta) (hb:PE X b tb) (hs:zg5 b):PE X (.Subscript a b pos) (tOp r ta tb):=by
 intro pins s σ H Q I h;exact Subscript_ (binT ha hb I h λv u s2 x y H2 I2 rx ry q=>hr a b pins s2 σ H2 x y v u Q I2 rx ry q (hs _ _))
noncomputable def rIxL (K:PySem.W.Frag):R2:=λx y H Q=>∃ p xs i v,x=.ref p/\y=.int i/\SqL K H p xs/\atI xs i=some v/\Q v H
noncomputable def rIxT (K:PySem.W.Frag):R2:=λx y H Q=>∃ p xs i v,x=.ref p/\y=.int i/\SqT K H p xs/\atI xs i=some v/\Q v H
noncomputable def rIxS:R2:=λx y H Q=>∃ z i c,x=.str z/\y=.int i/\z.length<=sizeLine/\atI z.cps.toList i=some c/\Q (.str ⟨#[c]⟩) H
theorem zn2:IxR X (rIxL X.K):=by
 intro value slice pins s σ H x y v u Q I rx ry h hs;obtain ⟨p,xs,i,z,rfl,rfl,hq,he,q⟩:=h;cases rx;obtain ⟨t,rfl⟩:=ry;obtain ⟨its,r,pl,hz⟩:=I.list hq;obtain ⟨j,h1,h2,h3,h4,h5⟩:=zg9 he;obtain ⟨w,ew,rw'⟩:=r.get h2;have hl:=r.length;have hn:=zdR;have fin:EP X pins σ Q w s:=⟨z,H,I,rw',q⟩
 by_cases h0:0<=i
 ·have hj:i.toNat=j:=by
   rw [seqIndex_of h0 h5] at h1;exact Option.some.inj h1
  exact item_listR pl.isList h0 (by omega) (by rw [hj];simpa using ew) fin hs
 ·have hj:(i+(its.toArray.size:Int)).toNat=j:=by
   rw [seqIndex_neg (by omega) h4] at h1;rw [List.size_toArray,<-hl];exact Option.some.inj h1
  exact subscriptTail_builtinR (x:=w) pl.isList.typeIs slot_list_getitem.lookup
   (wpAny_getItem_list_neg (Q:=λr s'=>r=w/\EP X pins σ Q r s') pl.isList (by omega) (by rw [List.size_toArray]<;>omega) (by omega) (by rw [hj];simpa using ew) ⟨rfl,fin⟩) hs
theorem zrd:IxR X (rIxT X.K):=by
 intro value slice pins s σ H x y v u Q I rx ry h hs;obtain ⟨p,xs,i,z,rfl,rfl,hq,he,q⟩:=h;cases rx;obtain ⟨t,rfl⟩:=ry;obtain ⟨its,r,pl,hz⟩:=I.tuple hq;obtain ⟨j,h1,h2,h3,h4,h5⟩:=zg9 he;obtain ⟨w,ew,rw'⟩:=r.get h2;have hl:=r.length;have hn:=zdR;have fin:EP X pins σ Q w s:=⟨z,H,I,rw',q⟩
 exact subscriptTail_builtinR (x:=w) pl.typeIs slot_tuple_getitem.lookup
  (getItem_tuple (j:=j) (Q:=λr s'=>r=w/\EP X pins σ Q r s') pl (by omega) (by omega) (by rw [List.size_toArray,<-hl];exact h1) (by simpa using ew) ⟨rfl,fin⟩) hs
theorem zqE:IxR X rIxS:=by
 intro value slice pins s σ H x y v u Q I rx ry h hs;obtain ⟨z,i,c,rfl,rfl,hz,he,q⟩:=h;obtain ⟨t,rfl⟩:=rx;obtain ⟨t',rfl⟩:=ry;obtain ⟨j,h1,h2,h3,h4,h5⟩:=zg9 he
 have hl:z.cps.toList.length=z.length:=by simp [Str.length]
 rw [hl] at h1 h4 h5;have hn:=zdR
 exact tail_any (typeIs_str s z t) slot_str_getitem.lookup (getItem_str (c:=c) (by
  have e1:decide (i < -(2 ^ 63:Int))=false:=decide_eq_false (by omega);have e2:decide (i ≥ 2 ^ 63)=false:=decide_eq_false (by omega)
  rw [e1,e2,Bool.or_false]) (by rw [h1];simpa using h2) ⟨.str ⟨#[c]⟩,H,I.tok _,⟨_,rfl⟩,q⟩) hs
theorem ziL (its:List Value) (n j:Nat) (u:Value):Obj.mapSeq (·.setIfInBounds j u) { cls:=.type "list",data:=.seq its.toArray n }={ cls:=.type "list",data:=.seq (its.set j u).toArray n }:=by
 simp [Obj.mapSeq]
theorem Inv.lst {pins:List (Addr×Obj)} {σ:St} {H:Hp} {s:Shared} {p:Addr} {xs:List V} (I:Inv X pins σ H s) (h:H p=some (.lst xs)) :
  ∃ (its:List Value) (n:Nat),Vals xs its/\s.heap.get? p=some { cls:=.type "list",data:=.seq its.toArray n }/\xs.length<=sizeLine:=by
 obtain ⟨z,its,n,r,e⟩:=I.hok p _ h;exact ⟨its,n,r,e,z⟩
theorem Inv.lstUpd {pins:List (Addr×Obj)} {σ:St} {H:Hp} {s:Shared} {p:Addr} {xs ys:List V} {its its':List Value} {n n':Nat} {f:Obj->Obj} (I:Inv X pins σ H s) (h:H p=some (.lst xs))
  (ho:s.heap.get? p=some { cls:=.type "list",data:=.seq its.toArray n }) (hf:f { cls:=.type "list",data:=.seq its.toArray n }={ cls:=.type "list",data:=.seq its'.toArray n' }) (r:Vals ys its') (hz:ys.length<=sizeLine) (t:Nat) :
  Inv X pins σ (upd H p (.lst ys)) { s with heap:=s.heap.update p f,toks:=t }:=by
 have e:(s.heap.update p f).get? p=some { cls:=.type "list",data:=.seq its'.toArray n' }:=by
  rw [Heap.get?_update_self f ho (by rw [hf]<;>rfl),hf]
 refine I.write (x:=p) (e:=p) (by rw [h];trivial) (.inl rfl) (λb u hb q=>(Heap.get?_update_other _ _ (Ne.symm hb)).trans q) ⟨_,e⟩ ?_
 exact ⟨hz,its',n',r,e⟩
noncomputable def zsI:V->V->V->Hp->(Hp->Prop)->Prop:=λo i v H Q=>∃ p xs k j,o=.ref p/\i=.int k/\H p=some (.lst xs)/\ixN xs.length k=some j/\Q (upd H p (.lst (xs.set j v)))
theorem zme:PSet X zsI:=by
 intro pins s σ H o i v ov iv u Q I ro ri rv h;obtain ⟨p,xs,k,j,rfl,rfl,hp,hj,q⟩:=h;cases ro;obtain ⟨t,rfl⟩:=ri;obtain ⟨its,n,r,ho,hz⟩:=I.lst hp;obtain ⟨h1,h2,h3,h4⟩:=zjz hj;have hl:=r.length;have hn:=zdR
 have I':Inv X pins σ (upd H p (.lst (xs.set j v))) { s with heap:=s.heap.update p (Obj.mapSeq (·.setIfInBounds j u)) }:=
  I.lstUpd hp ho (ziL its n j u) (r.set rv j) (by rw [List.length_set];exact hz) s.toks
 by_cases h0:0<=k
 ·have hk:k.toNat=j:=by
   rw [seqIndex_of h0 h4] at h1;exact Option.some.inj h1
  exact PySem.W.ki_setAt ho h0 (by omega) (by rw [List.size_toArray,<-hl];exact h4) (by rw [hk];exact ⟨_,I',q⟩)
 ·have hk:(k+(its.toArray.size:Int)).toNat=j:=by
   rw [seqIndex_neg (by omega) h3] at h1;rw [List.size_toArray,<-hl];exact Option.some.inj h1
  exact PySem.W.ki_setBack ho (by omega) (by rw [List.size_toArray,<-hl];exact h3) (by omega) (by rw [hk];exact ⟨_,I',q⟩)
theorem zf1 (lo hi:Option Int) (n:Nat):(sliceBounds lo hi none n).1=((HT.sIx n 0 lo:Nat):Int)/\(sliceBounds lo hi none n).2.1=((HT.sIx n n hi:Nat):Int)/\(sliceBounds lo hi none n).2.2=1:=by
 refine ⟨?_,?_,rfl⟩
 ·cases lo with
  | none=>simp [sliceBounds,HT.sIx]
  | some i=>
   simp only [sliceBounds,HT.sIx,Option.getD_none,show (1:Int)>0 by decide,if_true]
   by_cases h:i<0
   ·simp only [h,if_true]<;>omega
   ·simp only [h,if_false]<;>omega
 ·cases hi with
  | none=>simp [sliceBounds,HT.sIx]
  | some i=>
   simp only [sliceBounds,HT.sIx,Option.getD_none,show (1:Int)>0 by decide,if_true]
   by_cases h:i<0
   ·simp only [h,if_true]<;>omega
   ·simp only [h,if_false]<;>omega
theorem zft (its:List Value) (lo hi:Option Int):slicePick its.toArray lo hi none=((its.drop (HT.sIx its.length 0 lo)).take (HT.sIx its.length its.length hi-HT.sIx its.length 0 lo)).toArray:=by
 obtain ⟨h1,h2,h3⟩:=zf1 lo hi its.toArray.size;unfold slicePick;rw [h1,h2,h3]
 simp only [sliceRange_one,pick_run,List.size_toArray]<;>rfl
noncomputable def rSlL (K:PySem.W.Frag):V->Option Int->Option Int->Hp->VK->Prop:=λx lo hi H Q=>∃ a xs,x=.ref a/\SqL K H a xs/\∀ p,H p=none->Q (.ref p) (upd H p (.lst (cutV xs lo hi)))
theorem zog:SlR X (rSlL X.K):=by
 intro pins s σ H x v vl vu lo hi sl Q I rx hs pl pu h;obtain ⟨a,xs,rfl,hx,q⟩:=h;cases rx;obtain ⟨its,r,ht,hz⟩:=I.list hx;have hlen:=r.length;refine ⟨"list",_,slot_list_getitem.lookup,ht.isList.typeIs,?_⟩
 refine wpAny_getItem_list_slice ht.isList hs pl pu .none (by simp) ?_ (by rw [List.size_toArray]<;>omega)
 rw [zft,<-hlen];refine ⟨.ref s.heap.objs.size,_,I.laid (t':=s.toks) (o:=.lst (cutV xs lo hi)) (λb ob q=>Heap.get?_push_of_some _ q) (Nat.le_refl _) ?_,rfl,q _ (I.hok.fresh (Nat.le_refl _))⟩;exact ⟨Nat.le_trans (zdt xs lo hi) hz,_,0,(r.drop (HT.sIx xs.length 0 lo)).take (HT.sIx xs.length xs.length hi-HT.sIx xs.length 0 lo),Heap.get?_push_size _ rfl⟩
theorem zbj.or {f:Value} {r r':List V->Hp->VK->Prop} (h:zbj X f r) (h':zbj X f r'):zbj X f (λxs H Q=>r xs H Q\/r' xs H Q):=by
 intro pins s σ H xs us Q I rs q
 rcases q with q | q
 ·exact h pins s σ H xs us Q I rs q
 ·exact h' pins s σ H xs us Q I rs q
theorem zgw:zbj X (.type "list") (λxs H Q=>∃ p ys,xs=[.ref p]/\(SqL X.K H p ys\/SqT X.K H p ys)/\∀ l,H l=none->Q (.ref l) (upd H l (.lst ys))):=by
 intro pins s σ H xs us Q I r h;obtain ⟨p,ys,rfl,hq,q⟩:=h;obtain ⟨u,rfl,rx⟩:=zeI r;cases rx
 have fin:∀ (its:List Value),Vals ys its->ys.length<=sizeLine->∀ (h':Heap) (c':Nat),(∀ b o',s.heap.get? b=some o'->h'.get? b=some o') →
   h'.get? s.heap.objs.size=some { cls:=.type "list",dict:=none,data:=.seq its.toArray c',slots:=#[] }->EP X pins σ Q (.ref s.heap.objs.size) { s with heap:=h' }:=λits r' hz h' c' kp e=>
  ⟨.ref s.heap.objs.size,_,I.laid (t':=s.toks) kp (Nat.le_refl _) (show zaR X.prog X.w _ h' _ (.lst ys) from ⟨hz,its,c',r',e⟩),rfl,q _ (I.hok.fresh (Nat.le_refl _))⟩
 rcases hq with hq | hq
 ·obtain ⟨its,r',pl,hz⟩:=I.list hq
  have hlen:=r'.length;obtain ⟨o,ho,hc,n,hd⟩:=pl.isList
  exact call_list_seq p (.inl rfl) ho hc hd (λh' c' kp e=>fin its r' hz h' c' kp e) (by simp only [List.size_toArray]<;>omega)
 ·obtain ⟨its,r',pl,hz⟩:=I.tuple hq
  have hlen:=r'.length;obtain ⟨o,ho,hc,n,hd⟩:=pl
  exact call_list_seq p (.inr rfl) ho hc hd (λh' c' kp e=>fin its r' hz h' c' kp e) (by simp only [List.size_toArray]<;>omega)
theorem zcg:zbj X (.type "tuple") (λxs H Q=>∃ p ys,xs=[.ref p]/\((SqL X.K H p ys/\∀ l,H l=none->Q (.ref l) (upd H l (.tup ys)))\/(SqT X.K H p ys/\Q (.ref p) H))):=by
 intro pins s σ H xs us Q I r h;obtain ⟨p,ys,rfl,h⟩:=h;obtain ⟨u,rfl,rx⟩:=zeI r;cases rx
 rcases h with ⟨hq,q⟩ | ⟨hq,q⟩
 ·obtain ⟨its,r',pl,hz⟩:=I.list hq
  have hlen:=r'.length
  refine call_tuple_list pl.isList (λh' kp=>?_) (by simp only [List.size_toArray]<;>omega)
  have I1:Inv X pins σ H { s with heap:=h' }:=I.kept (t':=s.toks) kp
  have I2:Inv X pins σ (upd H h'.objs.size (.tup ys)) { s with heap:=h'.push { cls:=.type "tuple",data:=.seq its.toArray } }:=
   I1.laid (t':=s.toks) (λb o e=>Heap.get?_push_of_some _ e) (Nat.le_refl _) (show zaR X.prog X.w _ _ _ (.tup ys) from ⟨hz,its,r',zbm.new _ _⟩)
  exact ⟨.ref h'.objs.size,_,I2,rfl,q _ (I1.hok.fresh (Nat.le_refl _))⟩
 ·obtain ⟨its,r',pl,hz⟩:=I.tuple hq
  exact call_tuple_same pl ⟨.ref p,H,I,rfl,q⟩
noncomputable def tyV (K:PySem.W.Frag) (T:String) (x:V) (H:Hp):Prop:=match x with
 | .str _=>T="str"
 | .int _=>T="int"
 | .ref p=>(T="list"/\∃ xs,SqL K H p xs)\/(T="tuple"/\∃ xs,SqT K H p xs) ∨
   (T="dict"/\((∃ kvs,H p=some (.dK kvs))\/∃ kvs,Rd H p (.dT kvs)))\/(T="set"/\∃ S n,H p=some (.set S n))
 | _=>False
theorem znm {pins:List (Addr×Obj)} {σ:St} {H:Hp} {s:Shared} {T:String} {x:V} {v:Value} (I:Inv X pins σ H s) (r:RelV x v) (ty:tyV X.K T x H) :
  s.TypeIs v T/\∀ a,v=.ref a->∃ ob,s.heap.get? a=some ob/\ob.dict=none:=by
 cases x with
 | str z=>
  obtain ⟨t,rfl⟩:=r
  cases (show T="str" from ty)
  exact ⟨typeIs_str s z t,λ_ e=>nomatch e⟩
 | int i=>
  obtain ⟨t,rfl⟩:=r
  cases (show T="int" from ty)
  exact ⟨typeIs_int s i t,λ_ e=>nomatch e⟩
 | ref p=>
  cases r
  rcases ty with ⟨rfl,xs,hq⟩ | ⟨rfl,xs,hq⟩ | ⟨rfl,hk⟩ | ⟨rfl,S,n,hk⟩
  ·obtain ⟨its,_,pl,_⟩:=I.list hq
   refine ⟨pl.isList.typeIs,λa e=>?_⟩;cases e;obtain ⟨o,n,e,c,hd,_⟩:=pl;exact ⟨o,e,hd⟩
  ·obtain ⟨its,_,⟨o,e,c,_⟩,_⟩:=I.tuple hq
   refine ⟨⟨o,e,c⟩,λa e2=>?_⟩;cases e2;exact ⟨o,e,I.tupleB hq o e⟩
  ·have z:∃ o,s.heap.get? p=some o/\o.ExactDict:=by
    rcases hk with ⟨kvs,hk⟩ | ⟨kvs,hk⟩
    ·obtain ⟨_,_,_,_,o,_,_,e,ex,_⟩:=I.hok p _ hk
     exact ⟨o,e,ex⟩
    ·obtain ⟨_,_,_,_,o,_,_,e,ex,_⟩:=(show zaR X.prog X.w H s.heap p (.dT kvs) from hk.ok I.hok)
     exact ⟨o,e,ex⟩
   obtain ⟨o,e,ex⟩:=z;refine ⟨⟨o,e,ex.1⟩,λa e2=>?_⟩;cases e2;exact ⟨o,e,ex.2.1⟩
  ·obtain ⟨o,_,_,_,e,ex,_⟩:=I.hok p _ hk
   refine ⟨⟨o,e,ex.1⟩,λa e2=>?_⟩;cases e2;exact ⟨o,e,ex.2.1⟩
 | _=>exact False.elim ty
noncomputable def tBM0 (K:PySem.W.Frag) (T:String) (r:V->List V->Hp->VK->Prop) (to:TE):TE:=λσ H Q=>to σ H λx H1=>tyV K T x H1/\r x [] H1 Q
noncomputable def tBM (K:PySem.W.Frag) (T:String) (r:V->List V->Hp->VK->Prop) (to:TE) (t:TA):TE:=λσ H Q=>to σ H λx H1=>tyV K T x H1/\t σ H1 λxs H2=>r x xs H2 Q
variable {o e:Expr} {es:List Expr} {to:TE} {t:TA} {name:Str} {apos cpos:Pos} {T id:String} {r:V->List V->Hp->VK->Prop}
theorem znh (pa:PlainAttrs T) (slot:Slot T name id) (hty:typeOf (.builtin id)=pure (.type "method_descriptor")) (hm:MtR X id r) (ho:PE X o to)
  (hbase:attributeBase o name X.env (eval o X.env)=eval o X.env:=by rfl) (hline:(apos.endLine==cpos.line)=true:=by rfl):PE X (.Call (.Attribute o name apos) [] [] cpos) (tBM0 X.K T r to):=by
 intro pins s σ H Q I h;refine wpAny_Call_method0_late hbase hline (thn (ho pins s σ H _ I h) λv s1 q_=>?_);obtain ⟨x,H1,I1,r1,ty,q1⟩:=q_;obtain ⟨h1,h2⟩:=znm I1 r1 ty;exact ⟨T,id,pa,slot,hty,h1,h2,Calls.callWith_builtin rfl (PySem.evalArgs_none (hm pins s1 σ H1 x [] v [] Q I1 r1 .nil q1))⟩
theorem zjv (pa:PlainAttrs T) (slot:Slot T name id) (hty:typeOf (.builtin id)=pure (.type "method_descriptor")) (hm:MtR X id r) (ho:PE X o to) (ha:PA X (e::es) t)
  (hbase:attributeBase o name X.env (eval o X.env)=eval o X.env:=by rfl)
  (hfew:((backTo cpos (starEach (e::es) X.env)).all (λx=>!x.1)&&(backToKw cpos (keywordEach [] X.env)).all (λx=>x.1.isSome)
   && decide ((e::es).length+([]:List Keyword).length+(if ([]:List Keyword).isEmpty then 0 else 1)<30))=true:=by rfl)
  (hline:(apos.endLine==cpos.line)=true:=by rfl) (hs:starEach (e::es) X.env=(false,eval e X.env)::starEach es X.env:=by rfl) (hplain:(backTo cpos (starEach es X.env)).any (·.1)=false:=by rfl) :
  PE X (.Call (.Attribute o name apos) (e::es) [] cpos) (tBM X.K T r to t):=by
 intro pins s σ H Q I h;refine wpAny_Call_method_late hbase hfew hline rfl (thn (ho pins s σ H _ I h) λv s1 q_=>?_);obtain ⟨x,H1,I1,r1,ty,q1⟩:=q_;obtain ⟨h1,h2⟩:=znm I1 r1 ty;refine ⟨T,id,pa,slot,hty,h1,h2,?_⟩;have hA:=ha cpos pins s1 σ H1 _ I1 q1;rw [hs] at hA ⊢
 refine Calls.callWith_builtin (by show (false||(backTo cpos (starEach es X.env)).any (·.1))=false;rw [hplain]<;>rfl) (Calls.evalArgs_plain ?_)
 exact thn hA λus s2 ⟨vs,H2,I2,r2,q2⟩=>hm pins s2 σ H2 x vs v us Q I2 r1 r2 q2
/- xs.append(e),list.index on a module's tuple .. are MtR facts of 06m -/
end
noncomputable def MtM (X:Cx) (id:String) (r:V->List V->Hp->VK->Prop):Prop:=
 ∀ (pins:List (Addr×Obj)) (s:Shared) (σ:St) (H:Hp) (x:V) (xs:List V) (v:Value) (us:List Value) (Q:VK),Inv X pins σ H s->RelV x v->Vals xs us->r x xs H Q →
  wpAny (model X.prog X.w) X.A (call (.builtin id) (v::us)) (EP X pins σ Q) X.xe s
theorem Vals.one:∀ {x:V} {us:List Value},Vals [x] us->∃ u,us=[u]/\RelV x u
 | _,_,.cons r .nil=>⟨_,rfl,r⟩
theorem Vals.two {x y:V} {us:List Value} (h:Vals [x,y] us):∃ u v,us=[u,v]/\RelV x u/\RelV y v:=by
 cases h with
 | cons r t=>obtain ⟨_,rfl,q⟩:=Vals.one t;exact ⟨_,_,rfl,r,q⟩
theorem Vals.zero:∀ {us:List Value},Vals [] us->us=[]
 | _,.nil=>rfl
theorem Vals.dropLast {xs:List V} {us:List Value} (h:Vals xs us):Vals xs.dropLast us.dropLast:=by
 induction h with
 | nil=>exact .nil
 | cons r t ih=>
  cases t with
  | nil=>exact .nil
  | cons q t'=>exact .cons r ih
theorem Vals.eraseIdx:∀ {xs:List V} {us:List Value} (i:Nat),Vals xs us->Vals (xs.eraseIdx i) (us.eraseIdx i)
 | _,_,_,.nil=>.nil
 | _,_,0,.cons _ t=>t
 | _,_,i+1,.cons r t=>.cons r (Vals.eraseIdx i t)
theorem Vals.rep {xs:List V} {us:List Value} (h:Vals xs us):∀ k:Nat,Vals (List.replicate k xs).flatten (List.replicate k us).flatten
 | 0=>.nil
 | k+1=>by
  rw [List.replicate_succ,List.replicate_succ,List.flatten_cons,List.flatten_cons];exact Vals.append h (Vals.rep h k)
section
variable {X:Cx} {pins:List (Addr×Obj)} {σ:St} {H:Hp} {s:Shared} {l b:Addr} {xs ys zs:List V}
theorem Inv.lset {its its':List Value} {n:Nat} {f:Array Value->Array Value} {t':Nat} (I:Inv X pins σ H s) (hH:H l=some (.lst xs))
  (e:s.heap.get? l=some { cls:=.type "list",data:=.seq its.toArray n }) (hf:f its.toArray=its'.toArray) (hv:Vals ys its') (hz:ys.length<=sizeLine) :
  Inv X pins σ (upd H l (.lst ys)) { s with heap:=s.heap.update l (Obj.mapSeq f),toks:=t' }:=by
 have q:=PySem.IsL.update e f;rw [hf] at q
 refine I.write (x:=l) (e:=l) (by rw [hH];exact trivial) (.inl rfl) (λb' u hb hu=>(Heap.get?_update_other s.heap (Obj.mapSeq f) (Ne.symm hb)).trans hu) ⟨_,q⟩ ?_
 exact ⟨hz,its',_,hv,q⟩
theorem Inv.lnew {its:List Value} {t':Nat} (I:Inv X pins σ H s) (hv:Vals ys its) (hz:ys.length<=sizeLine) :
  Inv X pins σ (upd H s.heap.objs.size (.lst ys)) { s with heap:=s.heap.push { cls:=.type "list",data:=.seq its.toArray },toks:=t' }:=
 I.laid (λ_ _ q=>Heap.get?_push_of_some _ q) (Nat.le_refl _) ⟨hz,its,0,hv,Heap.get?_push_size _ rfl⟩
theorem Inv.fresh (I:Inv X pins σ H s):H s.heap.objs.size=none:=I.hok.fresh (Nat.le_refl _)
theorem Inv.lstM (I:Inv X pins σ H s) (hH:H l=some (.lst xs)):xs.length<=sizeLine/\∃ (its:List Value) (n:Nat),Vals xs its/\xs.length=its.length/\s.heap.get? l=some { cls:=.type "list",data:=.seq its.toArray n }:=by
 obtain ⟨z,its,n,r,e⟩:=I.hok l _ hH;exact ⟨z,its,n,r,r.length,e⟩
end
section
variable {X:Cx}
noncomputable def zoa:V->List V->Hp->VK->Prop:=λx vs H Q=>∃ l xs y,x=.ref l/\vs=[y]/\H l=some (.lst xs)/\xs.length<sizeLine/\Q .non (upd H l (.lst (xs++[y])))
theorem zjh:MtM X "list.append" zoa:=by
 intro pins s σ H x vs v us Q I rx rv h;obtain ⟨l,xs,y,rfl,rfl,hH,hz,q⟩:=h;cases rx;obtain ⟨u,rfl,ru⟩:=rv.one;obtain ⟨z,its,n,r,hl,e⟩:=I.lstM hH
 refine call_meets F.slot_list_append ⟨_,e,rfl⟩ F.entry_list_append (F.args_list_append_2 _ _) (PySem.list_append l its.toArray n u (by rw [List.size_toArray];omega)) ⟨e,?_⟩
 refine ⟨.non,_,I.lset (its':=its++[u]) hH e (by simp) (r.append (.cons ru .nil)) ?_,rfl,q⟩;rw [List.length_append,List.length_singleton];omega
noncomputable def zpX:V->List V->Hp->VK->Prop:=λx vs H Q=>∃ l xs,x=.ref l/\vs=[]/\H l=some (.lst xs)/\Q .non (upd H l (.lst []))
theorem zmH:MtM X "list.clear" zpX:=by
 intro pins s σ H x vs v us Q I rx rv h;obtain ⟨l,xs,rfl,rfl,hH,q⟩:=h;cases rx;have hus:=rv.zero;subst hus;obtain ⟨z,its,n,r,hl,e⟩:=I.lstM hH
 refine call_meets F.slot_list_clear ⟨_,e,rfl⟩ F.entry_list_clear (F.args_list_clear_1 _) (AutoSeq1.list_clear_list_0 l its.toArray n (by rw [List.size_toArray];omega)) ⟨e,?_⟩
 exact ⟨.non,_,I.lset (its':=[]) (ys:=[]) hH e rfl .nil (Nat.zero_le _),rfl,q⟩
end
section
variable {prog:Program} {w:World} {A:Around} {E:Value->Shared->Prop} {s:Shared}
end
section
variable {X:Cx}
end
end L2
namespace Att
open PySem PySem.W PySem.Calls PyProof.Rows
theorem zdo {P:Params} {h:Heap}:∀ (ns:List Int) (vs:List Value),WellAll P h vs (ns.map WData.int)->IntsAre vs ns:=by
 intro ns
 induction ns with
 | nil=>
  intro vs w;rw [List.map_nil] at w;cases w;exact .nil
 | cons n ns ih=>
  intro vs w;rw [List.map_cons] at w
  cases w with
  | cons a b=>
   cases a;exact .cons _ _ (ih _ b)
theorem zkK {l:OpenLaw} {n:Nat} (hn:l.most=some n) {P:Params} {h:Heap} {args:List WData} {vals:List Value}
  (hpre:l.row.toRowW.claim.pre args=true) (hwl:WellAll P h vals args) :
  ∃ a vs ns,vals=[Value.ref a]/\args=[WData.list (ns.map WData.int)]/\h.get? a=some { cls:=.type "list",data:=.seq vs.toArray }/\IntsAre vs ns/\ns.length<=n:=by
 have hsh:WShape.hasAll [] args [.list .int]=true:=(pre_splitW hpre).1;have hc:l.pre.holds [] { args:=args }=true:=(pre_splitW hpre).2;obtain ⟨d,r,rfl,h1,h2⟩:=hasAllW_cons hsh;obtain rfl:=hasAllW_nil h2;obtain ⟨xs,rfl,h3⟩:=hasW_list h1;obtain ⟨ns,rfl⟩:=items_int h3
 have hlen:ns.length<=n:=by
  unfold OpenLaw.pre at hc
  have h4:(WTm.not (.lt (.lit (.int (n:Int))) (.len (.arg 0)))).holds [] { args:=[.list (ns.map .int)] }=true:=by
   have h4:=(holds_andW hc).1;rw [hn] at h4;exact h4
  have h5:=condW_of h4 (w_not (w_lt w_lit (w_len_list (w_arg rfl))));rw [List.length_map] at h5;refine Nat.le_of_not_lt λq=>?_
  have q':(n:Int)<((ns.length:Nat):Int):=by omega
  first
   | (rw [decide_eq_true q'] at h5;exact absurd h5 (by decide))
   | (simp at h5;omega)
 cases hwl with
 | cons w1 w2=>
  cases w2
  cases w1 with
  | list ho hall=>exact ⟨_,_,ns,rfl,rfl,ho,zdo ns _ hall,hlen⟩
theorem zlo (l:OpenLaw) (args:List WData):l.row.toRowW.claim.post args (.bool true) args=true:=
 postW_of (r:=l.row.toRowW) (X:=(true==true))
  (show WShape.has [] (.bool true) .bool=true by first | rfl | decide | simp [WShape.has,WShape.arms,WShape.armsAll])
  (show (WTm.eq .res (.lit (.bool true))).value [] { args:=args,res:=some (.bool true),after:=args }=some (.bool (true==true)) from w_eq_bool (w_res rfl) w_lit) rfl
theorem attach_call {l:OpenLaw} {n:Nat} {q:Program} {loose:List Str} {XP:(Str->Option Value)->Heap->Prop} {YP:World->Heap->Prop} {d:DefRec}
  (hn:l.most=some n) (hdf:d.params.defaults=[])
  (call:∀ (w:World) (s₀ s₁:Shared) (mg mb:Str->Option Value) (fa:Addr) (o:Obj) (pm cd doc:Value) (a:Addr) (vs:List Value) (ns:List Int),
   Ground q loose [] XP w s₀ mg mb s₁.heap->YP w s₁.heap →
   s₁.heap.get? fa=some o->o.data=.func (docDef d.name d.params d.body d.scope pm cd doc)->s₁.heap.CodeRec cd d.name->mg d.name=some (.ref fa) →
   s₁.heap.get? a=some { cls:=.type "list",data:=.seq vs.toArray }->IntsAre vs ns->ns.length<=n->s₁.gens=#[] →
   codeAny (model l.prog w) callerA (.call (.ref fa) ⟨[.ref a],[]⟩) (λr s'=>r=.ok (.ret (.bool true))/\OldK s₁.heap s'.heap/\s'.os=s₁.os/\AllBare s'.gens) s₁) :
  WalkO q loose XP YP l.row.toRowW d [] (λf vs=>PySem.call f vs):=by
 intro w s₀ s₁ mg mb G Y fa o pm cd doc dV kV ho hd hcd hD hmg hg args vals as hpre hlay hrd hwl hlo;obtain rfl:dV=.none:=Dflts.none hD hdf;obtain rfl:kV=.none:=Dflts.noKw hD;obtain ⟨a,vs,ns,rfl,rfl,hobj,hints,hlen⟩:=zkK hn hpre hwl;refine enter_call (codeAny_mono (call w s₀ s₁ mg mb fa o pm cd doc a vs ns G Y ho (fd_plain hd) hcd hmg hobj hints hlen hg) λr s' hq=>?_);obtain ⟨rfl,h2,h3,h4⟩:=hq;exact ⟨.inl ⟨.bool true,.bool true,[],rfl,λ_=>rfl,.bool true,zlo l _,λ_=>⟨List.Pairwise.nil,λ_ hm=>(nomatch hm)⟩⟩,h2,h3,h4⟩
section
variable {prog:Program} {w:World} {A:Around} {E:Value->Shared->Prop} {s:Shared} {K:Frag}
noncomputable def zsW (h:Heap) (L d:Addr):List (Addr×Obj):=(List.range h.objs.size).filterMap λa=>if a=L\/a=d then none else (h.get? a).map λo=>(a,o)
end
end Att
namespace L2
open PySem PySem.Spec PyProof.Rows
theorem zfI:∀ {vs:List Value} {ns:List Int},IntsAre vs ns->Vals (ns.map V.int) vs
 | _,_,.nil=>.nil
 | _,_,.cons n t h=>.cons ⟨t,rfl⟩ (zfI h)
noncomputable def Only (H:Hp):Prop:=∀ b,H b=none\/∃ o xs,H b=some (.frz o (.lst xs))
theorem law_call {P:Program} {w:World} {K:PySem.W.Frag} {mg mb:Str->Option Value} {CX:CXT} {k:Nat} {fa a:Addr} {fd:FuncData} {x:Str} {sp:Sp} {s₁:Shared} {vs:List Value} {ns:List Int}
  (KX:K.In s₁.heap) (hns:s₁.heap.Ns mainGlobals mg) (hb:s₁.heap.Ns builtinsNs mb) (hbb:∀ x:Str,x ≠ "__name__"->mb x=bootBuiltins x) (hlim:s₁.heap.NoLimit) (hg:s₁.gens=#[])
  (ha:s₁.heap.get? a=some { cls:=.type "list",data:=.seq vs.toArray }) (hi:IntsAre vs ns) (hl:ns.length<=sizeLine) (hr:Room k callerA)
  (F:∀ base:Heap,K.In base->base.Ns mainGlobals mg->FnOk P w K mg base CX k fa fd [x] sp) (hbind:∀ (s:Shared) (u:Value),BindsTo s fd ⟨[u],[]⟩ [(x,u)])
  (hsp:∀ H:Hp,Only H->SqL K H a (ns.map V.int)->sp [.ref a] H (λv _=>v=.bl true) λ_ _ _=>False)
  (hCX:∀ H e s',CX [] H s₁ (λ_ _ _=>False) e s'->False) :
  codeAny (model P w) callerA (.call (.ref fa) ⟨[.ref a],[]⟩) (λr s'=>r=.ok (.ret (.bool true))/\OldK s₁.heap s'.heap/\s'.os=s₁.os/\AllBare s'.gens) s₁:=by
 have rv:=zfI hi;have lenV:=hi.length
 have core:∀ H:Hp,Only H->SqL K H a (ns.map V.int)->HOk P w H s₁.heap->(∀ b,H b≠none->b=a)->(H a≠none->K.lookup a=none) →
   codeAny (model P w) callerA (.call (.ref fa) ⟨[.ref a],[]⟩) (λr s'=>r=.ok (.ret (.bool true))/\OldK s₁.heap s'.heap/\s'.os=s₁.os/\AllBare s'.gens) s₁:=by
  intro H hO hS hok hA hK;have base_of:∀ {b:Addr} {o:Obj},s₁.heap.get? b=some o->H b=none->(hidT s₁.heap H).get? b=some o:=λe n=>zl8 e n
  have noA:∀ {b:Addr} {o:Obj} {es:Array DictEntry} {ep:Nat},s₁.heap.get? b=some o->o.data=.dict es ep->H b=none:=λ{b o es ep} e d=>by
   cases q:H b with
   | none=>rfl
   | some u=>
    have e':b=a:=hA b (by rw [q];simp)
    subst e'
    rw [ha] at e;cases e
    have d':Data.seq vs.toArray _=Data.dict es ep:=d;cases d'
  have nsK:∀ {b:Addr} {m:Str->Option Value},s₁.heap.Ns b m->(hidT s₁.heap H).Ns b m:=λ{b m} ⟨o,es,ep,e,d,r⟩=>⟨o,es,ep,base_of e (noA e d),d,r⟩
  have hKb:K.In (hidT s₁.heap H):=λb o e=>base_of (KX b o e) (by
   cases q:H b with
   | none=>rfl
   | some u=>
    have e':b=a:=hA b (by rw [q];simp)
    subst e'
    rw [hK (by rw [q];simp)] at e;cases e)
  have hM:Mod K mg (hidT s₁.heap H):=⟨hKb,nsK hns,⟨mb,nsK hb,hbb⟩,let ⟨mc,h1,h2⟩:=hlim;⟨mc,nsK h1,h2⟩⟩
  have e0:Env0 P w K mg (hidT s₁.heap H) callerA [] s₁ H:=⟨rfl,hM,λb o e=>zol e,Nat.le_of_eq (zke _ _),trivial,λb hb=>absurd (show b∈([]:List Addr) from hb) (by simp),hok,.of_eq hg⟩;refine codeAny_mono ((F _ hKb (nsK hns)).run callerA [] s₁ H ⟨[.ref a],[]⟩ [.ref a] [.ref a] _ _ hr e0 (hbind s₁ (.ref a)) (.cons rfl .nil) (hsp H hO hS)) λr s' h=>?_
  cases r with
  | error e=>exact (hCX H e s' h).elim
  | ok fl=>
   cases fl with
   | next=>exact False.elim h
   | brk=>exact False.elim h
   | cont=>exact False.elim h
   | ret u=>
    obtain ⟨v,H',os,bare,un,hok',r',q⟩:=h;have q':v=.bl true:=q;subst q';obtain rfl:u=Value.bool true:=r';refine ⟨rfl,OldK.of_keep λb o e=>?_,os,bare⟩
    cases q:H b with
    | none=>exact un.keep b o e q (by intro z;exact absurd (show b∈([]:List Addr) from z) (by simp)) (by simp)
    | some u=>
     rcases hO b with z | ⟨ob,xs,z⟩
     ·rw [q] at z;cases z
     ·have z2:=un.frzs b ob _ z
      obtain ⟨e1,_⟩:=hok b _ z;obtain ⟨e2,_⟩:=hok' b _ z2
      rw [e] at e1;cases e1
      exact e2
 cases hk:K.lookup a with
 | some o=>
  have e:=KX a o hk;rw [ha] at e;cases e
  refine core (λ_=>none) (λ_=>.inl rfl) (.inr ⟨_,vs.toArray,_,hk,rfl,rfl,rfl,by rw [List.size_toArray,lenV];exact hl,by simpa using rv⟩) (λb u z=>by have z':(none:Option HO)=some u:=z;cases z') (λb z=>absurd rfl z) λz=>absurd rfl z
 | none=>
  refine core (λb=>if b=a then some (.frz { cls:=.type "list",data:=.seq vs.toArray } (.lst (ns.map V.int))) else none) (λb=>?_) (.inl (.inr ⟨{ cls:=.type "list",data:=.seq vs.toArray },if_pos rfl⟩)) (λb u z=>?_) (λb z=>?_) λ_=>hk
  ·by_cases hb:b=a
   ·exact .inr ⟨_,_,if_pos hb⟩
   ·exact .inl (if_neg hb)
  ·by_cases hb:b=a
   ·have z':=(if_pos hb).symm.trans z
    cases z';subst hb
    exact ⟨ha,by rw [List.length_map];exact hl,vs,_,rv,ha⟩
   ·have z':=(if_neg hb).symm.trans z
    cases z'
  ·by_cases hb:b=a
   ·exact hb
   ·exact absurd (if_neg hb) z
noncomputable abbrev KOf {K:PySem.W.Frag} {h:Heap} (_:K.In h):PySem.W.Frag:=K
theorem walk_of {l:PySem.W.OpenLaw} {n k:Nat} {q:Program} {loose:List Str} {XP:(Str->Option Value)->Heap->Prop} {YP:World->Heap->Prop} {d:DefRec} {K:Params->PySem.W.Frag} {CX:World->CXT} {sp:World->Sp} {x:Str}
  (hn:l.most=some n) (hn2:n<=sizeLine) (hdf:d.params.defaults=[]) (hr:Room k callerA)
  (hY:∀ (w:World) (h:Heap),YP w h->(K w.params).In h)
  (F : ∀ (w:World) (mg:Str->Option Value) (fa:Addr) (h:Heap),(K w.params).In h->h.Ns mainGlobals mg->mg d.name=some (.ref fa) →
   ∃ fd:FuncData,(∀ (s:Shared) (u:Value),BindsTo s fd ⟨[u],[]⟩ [(x,u)]) ∧
    ∀ base:Heap,(K w.params).In base->base.Ns mainGlobals mg->FnOk l.prog w (K w.params) mg base (CX w) k fa fd [x] (sp w))
  (hsp:∀ (w:World) (H:Hp) (a:Addr) (ns:List Int),ns.length<=n->Only H->SqL (K w.params) H a (ns.map V.int)->sp w [.ref a] H (λv _=>v=.bl true) λ_ _ _=>False)
  (hCX:∀ (w:World) (H:Hp) (s:Shared) (e:Value) (s':Shared),CX w [] H s (λ_ _ _=>False) e s'->False) :
  PySem.W.WalkO q loose XP YP l.row.toRowW d [] (λf vs=>PySem.call f vs):=by
 refine Att.attach_call hn hdf λw s₀ s₁ mg mb fa o pm cd doc a vs ns G Y ho hd hcd hmg hobj hints hlen hg=>?_;have KX:=hY w _ Y;obtain ⟨fd,hb,hF⟩:=F w mg fa _ KX G.T.g hmg;exact law_call KX G.T.g G.T.b G.T.builtins G.T.nolimit hg hobj hints (Nat.le_trans hlen hn2) hr hF hb (λH hO hS=>hsp w H a ns hlen hO hS) λH e s'=>hCX w H s₁ e s'
end L2
/- THE LAST THEOREM (shape;LID,My.* are yours):
   My.Adr: a structure of the addresses that your layer names (classes,functions);My.Txt K t: a structure (Prop) of the equations over K;
   My.txt_mk:{K} {implicit addresses ..} (e1:nsIn K mainGlobals "law"=some (some (.ref f))) (e2:K.lookup f=some ⟨oc,od,.func (fnOf "law" "law" params body scope dV kV doc pm an cdv ct),sl⟩) (e3:codeIn K cdv "law"=true) ..:∃ t,My.Txt K t
set_option maxRecDepth 100000 in
set_option maxHeartbeats 0 in
theorem PySem.Challenge.cw_LID_holds : PySem.Challenge.rw_LID.Holds := by
 w_on;o_law;k_head;(case hw=>w_witness2)
 k_fill
 refine L2.walk_of (l:=PySem.Challenge.rw_LID) (n:=63) (k:=40) (x:="script") (CX:=λw=>..) (sp:=λ_=>My.sp_law) rfl (by decide) rfl ⟨rfl,by decide,by decide⟩ (λw h Y=>PySem.W.kIn_of Y) ?F ?S ?C
 case F=>
  intro w mg fa h KX G hmg
  have T:∃ t,My.Txt (L2.KOf KX) t:=by
   dsimp only [L2.KOf]                          -- K must stand as «<heap const> w.params» for k_is
   refine' My.txt_mk ?e1 ?e2 ?e3 ..
   (case e1=>PySem.W.k_is)                    -- in the order: a name->its address->its object->its parts
   (case e2=>PySem.W.k_is)
   ..
  obtain ⟨t,T⟩:=T;have e0:=hmg.symm.trans (PySem.W.mg_of KX G T.law)
  cases e0                                       -- fa is the law's own address
  exact ⟨_,λs u=>.of_eq rfl,λbase kb nb=>My.law_fn T kb nb⟩     -- if «.of_eq rfl» comes too early: refine' ⟨_,?b,λbase kb nb=>My.law_fn T kb nb⟩;exact λs u=>.of_eq rfl
 case S=>exact λw H a ns hl hO hS=>..
 case C=>exact ..
(the tactic k_is has no namespace: write k_is) -/
namespace L2
open PySem PySem.Spec PyProof.Rows
noncomputable def zdE (s:Stmt):Arguments:=match s with
 | .FunctionDef _ a _ _ _ _ _ _ _ _=>a
 | _=>{ posonlyargs:=[],args:=[],vararg:=none,kwonlyargs:=[],kw_defaults:=[],kwarg:=none,defaults:=[] }
noncomputable def za9 (s:Stmt):List Stmt:=match s with
 | .FunctionDef _ _ b _ _ _ _ _ _ _=>b
 | _=>[]
noncomputable def zam (s:Stmt):Scope:=match s with
 | .FunctionDef _ _ _ _ _ _ sc _ _ _=>sc
 | _=>{ kind:=.function,names:=[],isGenerator:=false,isCoroutine:=false }
noncomputable abbrev CX0:CXT:=λ_ _ _ _ _ _=>False
noncomputable abbrev E0:XK:=λ_ _ _=>False
theorem zqR {X:Cx}:zks CX0 X E0:=λ_ _ _ _ _ _ _ h=>h.elim
section
variable {P:Program} {w:World} {K:PySem.W.Frag} {mg:Str->Option Value} {base:Heap}
end
section
variable {X:Cx}
end
end L2
namespace IT
open PySem PySem.Spec L2
noncomputable def LsR (K:PySem.W.Frag) (A:Addr->Prop) (H:Hp) (a:Addr) (vs:List V):Prop:=
 (¬ A a/\Rd H a (.lst vs))\/∃ (o:Obj) (its:Array Value) (n:Nat),K.lookup a=some o/\o.cls=.type "list"/\o.dict=none/\o.data=.seq its n/\its.size<=sizeLine/\Vals vs its.toList
theorem LsR.sq (q:LsR K A H a vs):SqL K H a vs:=q.imp (λz=>z.2) (λz=>z)
mutual
noncomputable def RepD (K:PySem.W.Frag) (A:Addr->Prop) (H:Hp):D->V->Prop
 | .non,v=>v=.non
 | .bl b,v=>v=.bl b
 | .int i,v=>v=.int i
 | .str x,v=>v=.str (zaa x)
 | .tup xs,v=>∃ a vs,v=.ref a/\SqT K H a vs/\RepDs K A H xs vs
 | .lst xs,v=>∃ a vs,v=.ref a/\LsR K A H a vs/\RepDs K A H xs vs
noncomputable def RepDs (K:PySem.W.Frag) (A:Addr->Prop) (H:Hp):List D->List V->Prop
 | [],vs=>vs=[]
 | x::xs,vs=>∃ v r,vs=v::r/\RepD K A H x v/\RepDs K A H xs r
end
section
variable {K:PySem.W.Frag} {A A':Addr->Prop} {H H':Hp}
mutual
theorem RepD.mono (ht:∀ a u,Rd H a (.tup u)->Rd H' a (.tup u)) (hl:∀ a u,¬ A a->Rd H a (.lst u)->¬ A' a/\Rd H' a (.lst u)):∀ (x:D) (v:V),RepD K A H x v->RepD K A' H' x v
 | .non,_,h | .bl _,_,h | .int _,_,h | .str _,_,h=>by
  first
  | (simp only [RepD] at h ⊢;exact h)
 | .tup xs,v,h=>by
  simp only [RepD] at h ⊢;obtain ⟨a,vs,e,q,r⟩:=h;exact ⟨a,vs,e,q.imp (ht a vs) (λz=>z),RepDs.mono ht hl xs vs r⟩
 | .lst xs,v,h=>by
  simp only [RepD] at h ⊢;obtain ⟨a,vs,e,q,r⟩:=h;exact ⟨a,vs,e,q.imp (λz=>hl a vs z.1 z.2) (λz=>z),RepDs.mono ht hl xs vs r⟩
theorem RepDs.mono (ht:∀ a u,Rd H a (.tup u)->Rd H' a (.tup u)) (hl:∀ a u,¬ A a->Rd H a (.lst u)->¬ A' a/\Rd H' a (.lst u)):∀ (x:List D) (v:List V),RepDs K A H x v->RepDs K A' H' x v
 | [],_,h=>by simp only [RepDs] at h ⊢;exact h
 | x::xs,vs,h=>by
  simp only [RepDs] at h ⊢;obtain ⟨v,r,e,h1,h2⟩:=h;exact ⟨v,r,e,RepD.mono ht hl x v h1,RepDs.mono ht hl xs r h2⟩
end
end
section
variable {K:PySem.W.Frag} {A:Addr->Prop} {H:Hp}
theorem RepDs.length:∀ {xs:List D} {vs:List V},RepDs K A H xs vs->xs.length=vs.length
 | [],vs,h=>by simp only [RepDs] at h;subst h;rfl
 | x::xs,vs,h=>by
  simp only [RepDs] at h;obtain ⟨v,r,rfl,_,h2⟩:=h;simp only [List.length_cons,h2.length]
theorem RepDs.get:∀ {xs:List D} {vs:List V} {i:Nat} {x:D},RepDs K A H xs vs->xs[i]?=some x->∃ v,vs[i]?=some v/\RepD K A H x v
 | [],vs,i,x,h,e=>by simp at e
 | y::xs,vs,i,x,h,e=>by
  simp only [RepDs] at h;obtain ⟨v,r,rfl,h1,h2⟩:=h
  cases i with
  | zero=>simp at e;subst e;exact ⟨v,rfl,h1⟩
  | succ i=>simp at e;simpa using h2.get e
theorem RepDs.get':∀ {xs:List D} {vs:List V} {i:Nat} {v:V},RepDs K A H xs vs->vs[i]?=some v->∃ x,xs[i]?=some x/\RepD K A H x v
 | [],vs,i,v,h,e=>by simp only [RepDs] at h;subst h;simp at e
 | y::xs,vs,i,v,h,e=>by
  simp only [RepDs] at h;obtain ⟨w,r,rfl,h1,h2⟩:=h
  cases i with
  | zero=>simp at e;subst e;exact ⟨y,rfl,h1⟩
  | succ i=>simp at e;simpa using h2.get' e
theorem RepDs.app:∀ {xs ys:List D} {vs us:List V},RepDs K A H xs vs->RepDs K A H ys us->RepDs K A H (xs++ys) (vs++us)
 | [],ys,vs,us,h,h'=>by simp only [RepDs] at h;subst h;simpa using h'
 | x::xs,ys,vs,us,h,h'=>by
  simp only [RepDs] at h;obtain ⟨v,r,rfl,h1,h2⟩:=h;simp only [List.cons_append,RepDs];exact ⟨v,r++us,rfl,h1,h2.app h'⟩
theorem RepDs.nil:RepDs K A H [] []:=by simp only [RepDs]
theorem RepDs.cons (h:RepD K A H x v) (h':RepDs K A H xs vs):RepDs K A H (x::xs) (v::vs):=by
 simp only [RepDs];exact ⟨v,vs,rfl,h,h'⟩
theorem RepDs.one (h:RepD K A H x v):RepDs K A H [x] [v]:=.cons h .nil
theorem RepDs.take:∀ {xs:List D} {vs:List V} (n:Nat),RepDs K A H xs vs->RepDs K A H (xs.take n) (vs.take n)
 | [],vs,n,h=>by simp only [RepDs] at h;subst h;simpa using RepDs.nil
 | x::xs,vs,n,h=>by
  simp only [RepDs] at h;obtain ⟨v,r,rfl,h1,h2⟩:=h
  cases n with
  | zero=>simpa using RepDs.nil
  | succ n=>simpa using RepDs.cons h1 (h2.take n)
theorem RepDs.drop:∀ {xs:List D} {vs:List V} (n:Nat),RepDs K A H xs vs->RepDs K A H (xs.drop n) (vs.drop n)
 | [],vs,n,h=>by simp only [RepDs] at h;subst h;simpa using RepDs.nil
 | x::xs,vs,n,h=>by
  simp only [RepDs] at h;obtain ⟨v,r,rfl,h1,h2⟩:=h
  cases n with
  | zero=>simpa using RepDs.cons h1 h2
  | succ n=>simpa using h2.drop n
theorem RepDs.set (hx:RepD K A H x v):∀ {xs:List D} {vs:List V} (n:Nat),RepDs K A H xs vs->RepDs K A H (xs.set n x) (vs.set n v)
 | [],vs,n,h=>by simp only [RepDs] at h;subst h;simpa using RepDs.nil
 | y::xs,vs,n,h=>by
  simp only [RepDs] at h;obtain ⟨w,r,rfl,h1,h2⟩:=h
  cases n with
  | zero=>simpa using RepDs.cons hx h2
  | succ n=>simpa using RepDs.cons h1 (h2.set hx n)
end
noncomputable def Ob.mut:Ob->Bool
 | .lst _=>true
 | .ins _ _=>true
 | .dic _=>true
 | _=>false
noncomputable def Live (μ:List Addr) (h:Sto) (a:Addr):Prop:=∃ (i:Nat) (o:Ob),μ[i]?=some a/\h[i]?=some o/\o.mut=true
noncomputable def RepR (K:PySem.W.Frag) (μ:List Addr) (h:Sto) (H:Hp):R->V->Prop
 | .d x,v=>RepD K (Live μ h) H x v
 | .loc l,v=>∃ a,μ[l]?=some a/\v=.ref a
noncomputable def RepO (K:PySem.W.Frag) (μ:List Addr) (h:Sto) (H:Hp) (a:Addr):Ob->Prop
 | .lst xs=>∃ vs,H a=some (.lst vs)/\RepDs K (Live μ h) H xs vs
 | .fro xs=>∃ vs,H a=some (.lst vs)/\RepDs K (Live μ h) H xs vs
 | .ols ls=>∃ vs,H a=some (.lst vs)/\Paired (λ(l:Nat) (v:V)=>∃ b,μ[l]?=some b/\v=.ref b) ls vs
 | .ins c fs=>∃ C dx fs',(PySem.W.nsIn K mainGlobals c=some (some (.ref C))/\Cls K C/\∀ p∈fs,zki K C p.1)/\H a=some (.ins C dx fs')/\Paired (λ(p:Str×R) (q:Str×V)=>p.1=q.1/\RepR K μ h H p.2 q.2) fs fs'
 | .dic kvs=>∃ xs:List (D×Addr×V),H a=some (.dT xs)/\Paired (λ(p:D×D) (q:D×Addr×V)=>p.1=q.1/\(zaq p.1=true/\RepD K (Live μ h) H p.1 (.ref q.2.1))/\RepD K (Live μ h) H p.2 q.2.2) kvs xs
 | .dfr kvs=>∃ (ob:Obj) (xs:List (D×Addr×V)),H a=some (.frz ob (.dT xs))/\Paired (λ(p:D×D) (q:D×Addr×V)=>p.1=q.1/\(zaq p.1=true/\RepD K (Live μ h) H p.1 (.ref q.2.1))/\RepD K (Live μ h) H p.2 q.2.2) kvs xs
structure Rep (K:PySem.W.Frag) (μ:List Addr) (h:Sto) (H:Hp):Prop where
 len:μ.length=h.length
 nd:μ.Nodup
 obj:∀ (i:Nat) (a:Addr) (o:Ob),μ[i]?=some a->h[i]?=some o->RepO K μ h H a o
structure Stp (μ:List Addr) (h:Sto) (H:Hp) (μ':List Addr) (h':Sto) (H':Hp):Prop where
 pre:∀ (i:Nat) (a:Addr),μ[i]?=some a->μ'[i]?=some a
 keep:∀ a o,¬ Live μ h a->H a=some o->H' a=some o
 live:∀ a,Live μ' h' a->Live μ h a\/H a=none
section
variable {K:PySem.W.Frag} {μ μ' μ2:List Addr} {h h' h2:Sto} {H H' H2:Hp}
theorem RepO.isL (q:RepO K μ h H a o) (l:o.isL=true):∃ vs,H a=some (.lst vs)/\RepDs K (Live μ h) H o.items vs:=by
 cases o with
 | lst xs=>exact q
 | fro xs=>exact q
 | ins _ _=>cases l
 | ols _=>cases l
 | dic _=>cases l
 | dfr _=>cases l
theorem RepO.some (q:RepO K μ h H a o):∃ u,H a=some u:=by
 cases o with
 | lst xs=>obtain ⟨vs,e,_⟩:=q;exact ⟨_,e⟩
 | fro xs=>obtain ⟨vs,e,_⟩:=q;exact ⟨_,e⟩
 | ins _ _=>obtain ⟨C,dx,fs,_,e,_⟩:=q;exact ⟨_,e⟩
 | ols _=>obtain ⟨vs,e,_⟩:=q;exact ⟨_,e⟩
 | dic _=>obtain ⟨xs,e,_⟩:=q;exact ⟨_,e⟩
 | dfr _=>obtain ⟨ob,xs,e,_⟩:=q;exact ⟨_,e⟩
theorem Rep.liveAt (r:Rep K μ h H) (l:Live μ h a):∃ u,H a=some u/\((∃ vs,u=.lst vs)\/(∃ C dx fs,u=.ins C dx fs)\/∃ kvs,u=.dT kvs):=by
 obtain ⟨i,o,e1,e2,m⟩:=l;have q:=r.obj i a _ e1 e2
 cases o with
 | lst xs=>obtain ⟨vs,e,_⟩:=q;exact ⟨_,e,.inl ⟨vs,rfl⟩⟩
 | fro xs=>cases m
 | ins _ _=>obtain ⟨C,dx,fs,_,e,_⟩:=q;exact ⟨_,e,.inr (.inl ⟨C,dx,fs,rfl⟩)⟩
 | ols _=>cases m
 | dic _=>obtain ⟨xs,e,_⟩:=q;exact ⟨_,e,.inr (.inr ⟨xs,rfl⟩)⟩
 | dfr _=>cases m
theorem Rep.notLive (r:Rep K μ h H) (e:H a=some o) (n:∀ vs,o≠.lst vs) (n2:∀ C dx fs,o≠.ins C dx fs:=by intro _ _ _ z;cases z) (n3:∀ kvs,o≠.dT kvs:=by intro _ z;cases z):¬ Live μ h a:=λl=>by
 obtain ⟨u,q,z⟩:=r.liveAt l;rw [e] at q;cases q
 rcases z with ⟨vs,z⟩ | ⟨C,dx,fs,z⟩ | ⟨kvs,z⟩
 ·exact n vs z
 ·exact n2 C dx fs z
 ·exact n3 kvs z
theorem Stp.refl:Stp μ h H μ h H:=⟨λ_ _ e=>e,λ_ _ _ e=>e,λ_ l=>.inl l⟩
theorem Stp.trans (s:Stp μ h H μ' h' H') (t:Stp μ' h' H' μ2 h2 H2):Stp μ h H μ2 h2 H2:=by
 have nl:∀ a o,¬ Live μ h a->H a=some o->¬ Live μ' h' a:=λa o n e l=>by
  rcases s.live a l with z | z
  ·exact n z
  ·rw [e] at z;cases z
 refine ⟨λi a e=>t.pre i a (s.pre i a e),λa o n e=>t.keep a o (nl a o n e) (s.keep a o n e),λa l=>?_⟩
 rcases t.live a l with z | z
 ·exact s.live a z
 ·by_cases n:Live μ h a
  ·exact .inl n
  ·cases e:H a with
   | none=>exact .inr rfl
   | some o=>rw [s.keep a o n e] at z;cases z
theorem Stp.rdT (s:Stp μ h H μ' h' H') (r:Rep K μ h H) (a:Addr) (u:List V) (q:Rd H a (.tup u)):Rd H' a (.tup u):=by
 rcases q with e | ⟨o,e⟩
 ·exact .inl (s.keep a _ (r.notLive e (by intro vs z;cases z)) e)
 ·exact .inr ⟨o,s.keep a _ (r.notLive e (by intro vs z;cases z)) e⟩
theorem Stp.rdL (s:Stp μ h H μ' h' H') (a:Addr) (u:List V) (n:¬ Live μ h a) (q:Rd H a (.lst u)):¬ Live μ' h' a/\Rd H' a (.lst u):=by
 have nl:∀ o,H a=some o->¬ Live μ' h' a:=λo e l=>by
  rcases s.live a l with z | z
  ·exact n z
  ·rw [e] at z;cases z
 rcases q with e | ⟨o,e⟩
 ·exact ⟨nl _ e,.inl (s.keep a _ n e)⟩
 ·exact ⟨nl _ e,.inr ⟨o,s.keep a _ n e⟩⟩
theorem Stp.lsR (s:Stp μ h H μ' h' H') (q:LsR K (Live μ h) H a u):LsR K (Live μ' h') H' a u:=q.imp (λz=>s.rdL a u z.1 z.2) (λz=>z)
theorem RepD.stp (s:Stp μ h H μ' h' H') (r:Rep K μ h H) (q:RepD K (Live μ h) H x v):RepD K (Live μ' h') H' x v:=RepD.mono (s.rdT r) s.rdL x v q
theorem RepDs.stp (s:Stp μ h H μ' h' H') (r:Rep K μ h H) (q:RepDs K (Live μ h) H x v):RepDs K (Live μ' h') H' x v:=RepDs.mono (s.rdT r) s.rdL x v q
theorem RepR.stp (s:Stp μ h H μ' h' H') (r:Rep K μ h H) (q:RepR K μ h H x v):RepR K μ' h' H' x v:=by
 cases x with
 | d x=>exact RepD.stp s r q
 | loc l=>obtain ⟨a,e,z⟩:=q;exact ⟨a,s.pre l a e,z⟩
theorem RepO.stp (s:Stp μ h H μ' h' H') (r:Rep K μ h H) (e:H' a=H a) (q:RepO K μ h H a o):RepO K μ' h' H' a o:=by
 cases o with
 | lst xs=>obtain ⟨vs,e1,z⟩:=q;exact ⟨vs,e.trans e1,RepDs.stp s r z⟩
 | fro xs=>obtain ⟨vs,e1,z⟩:=q;exact ⟨vs,e.trans e1,RepDs.stp s r z⟩
 | ols ls=>obtain ⟨vs,e1,z⟩:=q;exact ⟨vs,e.trans e1,L2.Paired.mapP z λl v ⟨b,eb,ev⟩=>⟨b,s.pre l b eb,ev⟩⟩
 | dfr kvs=>obtain ⟨ob,xs,e1,z⟩:=q;exact ⟨ob,xs,e.trans e1,L2.Paired.mapP z λp q ⟨ep,ek,ev⟩=>⟨ep,⟨ek.1,RepD.stp s r ek.2⟩,RepD.stp s r ev⟩⟩
 | dic kvs=>obtain ⟨xs,e1,z⟩:=q;exact ⟨xs,e.trans e1,L2.Paired.mapP z λp q ⟨ep,ek,ev⟩=>⟨ep,⟨ek.1,RepD.stp s r ek.2⟩,RepD.stp s r ev⟩⟩
 | ins c fs=>obtain ⟨C,dx,fs',ec,e1,z⟩:=q;exact ⟨C,dx,fs',ec,e.trans e1,L2.Paired.mapP z λp q ⟨ep,eq⟩=>⟨ep,RepR.stp s r eq⟩⟩
theorem Stp.fresh (n:H p=none):Stp μ h H μ h (upd H p o):=
 ⟨λ_ _ e=>e,λa o' _ e=>by rw [zao (zap e n)];exact e,λ_ l=>.inl l⟩
theorem Rep.ne_fresh (r:Rep K μ h H) {i:Nat} (n:H p=none) (e1:μ[i]?=some a) (e2:h[i]?=some o):a≠p:=by
 obtain ⟨u,q⟩:=(r.obj i a o e1 e2).some;exact zap q n
theorem Rep.fresh {o:HO} (r:Rep K μ h H) (n:H p=none):Rep K μ h (upd H p o):=
 ⟨r.len,r.nd,λi a ob e1 e2=>RepO.stp (Stp.fresh n) r (zao (r.ne_fresh n e1 e2)) (r.obj i a ob e1 e2)⟩
theorem zij (hl:μ.length=h.length):Live (μ++[p]) (h++[o]) a↔Live μ h a\/(a=p/\o.mut=true):=by
 constructor
 ·rintro ⟨i,o',e1,e2,e3⟩
  by_cases hi:i<μ.length
  ·rw [List.getElem?_append_left hi] at e1
   rw [List.getElem?_append_left (by omega)] at e2;exact .inl ⟨i,o',e1,e2,e3⟩
  ·rw [List.getElem?_append_right (by omega)] at e1 e2
   have hz:i-μ.length=0:=by
    cases hk:i-μ.length with
    | zero=>rfl
    | succ k=>rw [hk] at e1;simp at e1
   rw [hz] at e1;rw [<-hl,hz] at e2;simp at e1 e2;subst e1 e2;exact .inr ⟨rfl,e3⟩
 ·rintro (⟨i,o',e1,e2,e3⟩ | ⟨rfl,e3⟩)
  ·obtain ⟨h1,_⟩:=List.getElem?_eq_some_iff.mp e1
   exact ⟨i,o',by rw [List.getElem?_append_left h1];exact e1,by rw [List.getElem?_append_left (by omega)];exact e2,e3⟩
  ·exact ⟨μ.length,o,by simp,by rw [hl];simp,e3⟩
theorem Stp.allocO (r:Rep K μ h H) (n:H p=none):Stp μ h H (μ++[p]) (h++[ob]) (upd H p o):=
  ⟨fun i a e=>by rw [List.getElem?_append_left (List.getElem?_eq_some_iff.mp e).1];exact e,λa o' _ e=>by rw [zao (zap e n)];exact e,
   fun a l=>by
    rcases (zij r.len).mp l with z | ⟨rfl,_⟩
    · exact .inl z
    · exact .inr n⟩
theorem Stp.alloc (r:Rep K μ h H) (n:H p=none):Stp μ h H (μ++[p]) (h++[.lst xs]) (upd H p o):=Stp.allocO r n
theorem Rep.allocO {o:Ob} (r:Rep K μ h H) (n:H p=none) (q:RepO K (μ++[p]) (h++[o]) (upd H p u) p o):Rep K (μ++[p]) (h++[o]) (upd H p u):=by
 have st:Stp μ h H (μ++[p]) (h++[o]) (upd H p u):=Stp.allocO r n;refine ⟨by simp [r.len],?_,λi a ob e1 e2=>?_⟩
 ·rw [List.nodup_append]
  refine ⟨r.nd,by simp,λa ha b hb=>?_⟩;simp at hb;subst hb
  rintro rfl
  obtain ⟨i,hi,e⟩:=List.getElem_of_mem ha
  have hi':i<h.length:=by rw [<-r.len];exact hi
  exact r.ne_fresh n (by rw [List.getElem?_eq_getElem hi,e]) (List.getElem?_eq_getElem hi') rfl
 ·by_cases hi:i<μ.length
  ·rw [List.getElem?_append_left hi] at e1
   rw [List.getElem?_append_left (by have:=r.len;omega)] at e2
   exact RepO.stp st r (zao (r.ne_fresh n e1 e2)) (r.obj i a ob e1 e2)
  ·rw [List.getElem?_append_right (by omega)] at e1
   have hz:i-μ.length=0:=by
    cases hk:i-μ.length with
    | zero=>rfl
    | succ k=>rw [hk] at e1;simp at e1
   rw [hz] at e1;simp at e1;subst e1
   have hi2:i=h.length:=by have:=r.len;have:=(List.getElem?_eq_some_iff.mp e2).1;simp at this;omega
   subst hi2;simp at e2;subst e2;exact q
theorem Rep.alloc (r:Rep K μ h H) (n:H p=none) (q:RepDs K (Live μ h) H xs vs):Rep K (μ++[p]) (h++[.lst xs]) (upd H p (.lst vs)):=
 r.allocO n ⟨vs,zaj,RepDs.stp (Stp.allocO r n) r q⟩
end
end IT
namespace IT
open PySem PySem.Spec L2
noncomputable def RdD (K:PySem.W.Frag) (A:Addr->Prop) (H:Hp) (x:D) (v:V):Prop:=match x with
 | .lst xs=>∃ a vs,v=.ref a/\SqL K H a vs/\RepDs K A H xs vs
 | x=>RepD K A H x v
section
variable {K:PySem.W.Frag} {μ μ':List Addr} {h h':Sto} {H H':Hp}
theorem RdD.of {A:Addr->Prop} (q:RepD K A H x v):RdD K A H x v:=by
 cases x with
 | lst xs=>
  simp only [RepD] at q;obtain ⟨a,vs,e,r,z⟩:=q;exact ⟨a,vs,e,r.sq,z⟩
 | _=>exact q
theorem zew (e:rd (.loc l) h=some (d,h')):∃ o,h[l]?=some o/\o.isL=true/\d=.lst o.items/\h'=h:=by
 simp only [rd] at e
 cases ho:h[l]? with
 | none=>rw [ho] at e;cases e
 | some o=>
  rw [ho] at e;simp only at e
  split at e
  ·rename_i il
   simp only [Option.some.injEq,Prod.mk.injEq] at e;exact ⟨o,rfl,il,e.1.symm,e.2.symm⟩
  ·cases e
theorem zeB (e:zdZ x h=some (u,h')):∃ l o,x=.loc l/\h[l]?=some o/\o.isL=true/\h'=h:=by
 cases x with
 | d _=>cases e
 | loc l=>
  simp only [zdZ] at e
  cases ho:h[l]? with
  | none=>rw [ho] at e;cases e
  | some o=>
   rw [ho] at e;simp only at e
   split at e
   ·rename_i il
    simp only [Option.some.injEq,Prod.mk.injEq] at e;exact ⟨l,o,rfl,ho,il,e.2.symm⟩
   ·cases e
theorem za2 {r:R} (R0:Rep K μ h H) (q:RepR K μ h H r v) (e:rd r h=some (d,h')):h'=h/\RdD K (Live μ h) H d v:=by
 cases r with
 | d x=>
  simp only [rd,ok,Option.some.injEq,Prod.mk.injEq] at e;obtain ⟨rfl,rfl⟩:=e;exact ⟨rfl,RdD.of q⟩
 | loc l=>
  obtain ⟨a,ea,rfl⟩:=q;simp only [rd] at e
  cases ho:h[l]? with
  | none=>rw [ho] at e;cases e
  | some o=>
   rw [ho] at e;simp only at e
   split at e
   ·rename_i il
    simp only [Option.some.injEq,Prod.mk.injEq] at e;obtain ⟨rfl,rfl⟩:=e;obtain ⟨vs,q1,q2⟩:=(R0.obj l a o ea ho).isL il;exact ⟨rfl,a,vs,rfl,.inl (.inl q1),q2⟩
   ·cases e
theorem ze8 {l:List Addr} (hn:l.Nodup) {i j:Nat} (h1:l[i]?=some a) (h2:l[j]?=some a):i=j:=by
 obtain ⟨p1,e1⟩:=List.getElem?_eq_some_iff.mp h1;obtain ⟨p2,e2⟩:=List.getElem?_eq_some_iff.mp h2;exact (List.getElem_inj hn).mp (e1.trans e2.symm)
theorem zp2 (R0:Rep K μ h H) (ho:h[l]?=some o) (il:o.isL=true):Stp μ h H μ (h.set l (.fro o.items)) H/\Rep K μ (h.set l (.fro o.items)) H:=by
 have hl:l<h.length:=(List.getElem?_eq_some_iff.mp ho).1
 have lv:∀ a,Live μ (h.set l (.fro o.items)) a->Live μ h a:=by
  rintro a ⟨i,xs,e1,e2,e3⟩
  by_cases hi:i=l
  ·subst hi
   rw [List.getElem?_set_self hl] at e2;cases e2;cases e3
  ·rw [List.getElem?_set_ne (Ne.symm hi)] at e2
   exact ⟨i,xs,e1,e2,e3⟩
 have st:Stp μ h H μ (h.set l (.fro o.items)) H:=⟨λ_ _ e=>e,λ_ _ _ e=>e,λa z=>.inl (lv a z)⟩;refine ⟨st,by simp [R0.len],R0.nd,λi a ob e1 e2=>?_⟩
 by_cases hi:i=l
 ·subst hi
  rw [List.getElem?_set_self hl] at e2;cases e2;obtain ⟨vs,q1,q2⟩:=(R0.obj i a o e1 ho).isL il;exact ⟨vs,q1,RepDs.stp st R0 q2⟩
 ·rw [List.getElem?_set_ne (Ne.symm hi)] at e2
  exact RepO.stp st R0 rfl (R0.obj i a ob e1 e2)
theorem zje {r:R} {v:V} (R0:Rep K μ h H) (q:RepR K μ h H r v) (e:fz r h=some (d,h')):Stp μ h H μ h' H/\Rep K μ h' H/\RepD K (Live μ h') H d v:=by
 cases r with
 | d x=>
  simp only [fz,ok,Option.some.injEq,Prod.mk.injEq] at e;obtain ⟨rfl,rfl⟩:=e;exact ⟨Stp.refl,R0,q⟩
 | loc l=>
  obtain ⟨a,ea,rfl⟩:=q;simp only [fz] at e
  cases ho:h[l]? with
  | none=>rw [ho] at e;cases e
  | some o=>
   rw [ho] at e;simp only at e
   split at e
   ·rename_i il
    simp only [Option.some.injEq,Prod.mk.injEq] at e;obtain ⟨rfl,rfl⟩:=e;obtain ⟨st,R1⟩:=zp2 R0 ho il;have hl:l<h.length:=(List.getElem?_eq_some_iff.mp ho).1;obtain ⟨vs,q1,q2⟩:=(R0.obj l a o ea ho).isL il;refine ⟨st,R1,?_⟩;simp only [RepD];refine ⟨a,vs,rfl,.inl ⟨?_,.inl q1⟩,RepDs.stp st R0 q2⟩
    rintro ⟨i,xs,e1,e2,e3⟩
    have:=ze8 R0.nd e1 ea
    subst this;rw [List.getElem?_set_self hl] at e2;cases e2;cases e3
   ·cases e
theorem znk {l:Nat} {a:Addr} (R0:Rep K μ h H) (ea:μ[l]?=some a) (ho:h[l]?=some o) (hm:o.mut=true)
  (q:Stp μ h H μ (h.set l o') (upd H a u)->RepO K μ (h.set l o') (upd H a u) a o'):Stp μ h H μ (h.set l o') (upd H a u)/\Rep K μ (h.set l o') (upd H a u):=by
 have hl:l<h.length:=(List.getElem?_eq_some_iff.mp ho).1;have hla:Live μ h a:=⟨l,o,ea,ho,hm⟩
 have lv:∀ b,Live μ (h.set l o') b->Live μ h b:=by
  rintro b ⟨i,zs,e1,e2,e3⟩
  by_cases hi:i=l
  ·subst hi
   exact ⟨i,o,e1,ho,hm⟩
  ·rw [List.getElem?_set_ne (Ne.symm hi)] at e2
   exact ⟨i,zs,e1,e2,e3⟩
 have st:Stp μ h H μ (h.set l o') (upd H a u):=
  ⟨λ_ _ e=>e,λb o n e=>by rw [zao (λz=>n (by rw [z];exact hla))];exact e,λb z=>.inl (lv b z)⟩
 refine ⟨st,by simp [R0.len],R0.nd,λi b ob e1 e2=>?_⟩
 by_cases hi:i=l
 ·subst hi
  rw [ea] at e1;cases e1
  rw [List.getElem?_set_self hl] at e2;cases e2;exact q st
 ·rw [List.getElem?_set_ne (Ne.symm hi)] at e2
  exact RepO.stp st R0 (zao (λz:b=a=>hi (ze8 R0.nd e1 (by rw [z];exact ea)))) (R0.obj i b ob e1 e2)
theorem write (R0:Rep K μ h H) (ea:μ[l]?=some a) (ho:h[l]?=some (.lst xs)) (q:RepDs K (Live μ h) H ys ws) :
  Stp μ h H μ (h.set l (.lst ys)) (upd H a (.lst ws))/\Rep K μ (h.set l (.lst ys)) (upd H a (.lst ws)):=
 znk R0 ea ho rfl λst=>⟨ws,zaj,RepDs.stp st R0 q⟩
end
theorem zab {α β:Type} {x:M α} {f:α->M β} {h:Sto} {r:β×Sto}:bnd x f h=some r↔∃ a h1,x h=some (a,h1)/\f a h1=some r:=by
 unfold bnd
 cases e:x h with
 | none=>simp
 | some p=>
  obtain ⟨a,h1⟩:=p
  exact ⟨λq=>⟨a,h1,rfl,q⟩,λ⟨a',h1',e',q⟩=>by cases e';exact q⟩
theorem zac {α:Type} {a b:α} {h h':Sto}:ok a h=some (b,h')↔a=b/\h=h':=by simp [ok]
theorem zas {α:Type} {o:Option α} {b:α} {h h':Sto}:opt o h=some (b,h')↔o=some b/\h=h':=by
 unfold opt
 cases o with
 | none=>simp
 | some a=>simp
structure RepE (K:PySem.W.Frag) (μ:List Addr) (h:Sto) (H:Hp) (env:IT.Env) (σ:St):Prop where
 len:env.length=σ.length
 get:∀ (i:Nat) (r:R),env[i]?=some (some r)->∃ v,σ[i]?=some (some v)/\RepR K μ h H r v
inductive zaY (K:PySem.W.Frag) (μ:List Addr) (h:Sto) (H:Hp):List R->List V->Prop where
 | nil:zaY K μ h H [] []
 | cons {r:R} {v:V} {rs:List R} {vs:List V}:RepR K μ h H r v->zaY K μ h H rs vs->zaY K μ h H (r::rs) (v::vs)
section
variable {K:PySem.W.Frag} {μ μ':List Addr} {h h':Sto} {H H':Hp}
theorem RepE.stp (s:Stp μ h H μ' h' H') (R0:Rep K μ h H) {env:IT.Env} (q:RepE K μ h H env σ):RepE K μ' h' H' env σ:=
 ⟨q.len,λi r e=>let ⟨v,e',z⟩:=q.get i r e;⟨v,e',z.stp s R0⟩⟩
theorem zaY.stp (s:Stp μ h H μ' h' H') (R0:Rep K μ h H) {rs:List R} (q:zaY K μ h H rs vs):zaY K μ' h' H' rs vs:=by
 induction q with
 | nil=>exact .nil
 | cons a _ ih=>exact .cons (a.stp s R0) ih
theorem zaY.length {rs:List R} (q:zaY K μ h H rs vs):rs.length=vs.length:=by
 induction q with
 | nil=>rfl
 | cons _ _ ih=>simp [ih]
theorem RepE.set (q:RepE K μ h H env σ) (i:Nat) (z:RepR K μ h H r v):RepE K μ h H (env.set i (some r)) (σ.set i (some v)):=by
 refine ⟨by simp [q.len],λj r' e=>?_⟩
 by_cases hj:j=i
 ·subst hj
  have hl:j<env.length:=by
   have:=(List.getElem?_eq_some_iff.mp e).1
   simpa using this
  rw [List.getElem?_set_self hl] at e;cases e
  exact ⟨v,by rw [List.getElem?_set_self (by rw [<-q.len];exact hl)],z⟩
 ·rw [List.getElem?_set_ne (Ne.symm hj)] at e ⊢
  exact q.get j r' e
theorem zk0:∀ {rs:List R} {vs:List V} {ds:List D} {h h':Sto},Rep K μ h H->zaY K μ h H rs vs->rds rs h=some (ds,h')->h'=h/\Paired (RdD K (Live μ h) H) ds vs
 | [],_,ds,h,h',R0,.nil,e=>by
  simp only [rds,zac] at e;obtain ⟨rfl,rfl⟩:=e;exact ⟨rfl,.nil⟩
 | r::rs,_,ds,h,h',R0,.cons q qs,e=>by
  simp only [rds,zab,zac] at e;obtain ⟨d,h1,e1,ds',h2,e2,rfl,rfl⟩:=e;obtain ⟨rfl,z⟩:=za2 R0 q e1;obtain ⟨rfl,zs⟩:=zk0 R0 qs e2;exact ⟨rfl,.cons z zs⟩
theorem zjd:∀ {rs:List R} {vs:List V} {ds:List D} {h h':Sto},Rep K μ h H->zaY K μ h H rs vs->fzs rs h=some (ds,h')->Stp μ h H μ h' H/\Rep K μ h' H/\RepDs K (Live μ h') H ds vs
 | [],_,ds,h,h',R0,.nil,e=>by
  simp only [fzs,zac] at e;obtain ⟨rfl,rfl⟩:=e;exact ⟨Stp.refl,R0,.nil⟩
 | r::rs,_,ds,h,h',R0,.cons q qs,e=>by
  simp only [fzs,zab,zac] at e;obtain ⟨d,h1,e1,ds',h2,e2,rfl,rfl⟩:=e;obtain ⟨s1,R1,z⟩:=zje R0 q e1;obtain ⟨s2,R2,zs⟩:=zjd R1 (qs.stp s1 R0) e2;exact ⟨s1.trans s2,R2,.cons (z.stp s2 R1) zs⟩
end
inductive Post {α β:Type} (K:PySem.W.Frag) (μ:List Addr) (h:Sto) (H:Hp) (Rel:List Addr->Sto->Hp->α->β->Prop) (m:Option (α×Sto)) (Q:β->Hp->Prop):Prop where
 | mk (r:α) (h':Sto) (e:m=some (r,h')) (k:∀ μ' H' v,Stp μ h H μ' h' H'->Rep K μ' h' H'->Rel μ' h' H' r v->Q v H')
inductive tE (K:PySem.W.Frag) (f:IT.Env->M R) (σ:St) (H:Hp) (Q:VK):Prop where
 | mk (μ:List Addr) (h:Sto) (env:IT.Env) (R0:Rep K μ h H) (re:RepE K μ h H env σ) (p:Post K μ h H (RepR K) (f env h) Q)
inductive tTv (K:PySem.W.Frag) (f:IT.Env->M Bool) (σ:St) (H:Hp) (Q:Bool->Hp->Prop):Prop where
 | mk (μ:List Addr) (h:Sto) (env:IT.Env) (R0:Rep K μ h H) (re:RepE K μ h H env σ) (p:Post K μ h H (λ_ _ _ a b=>a=b) (f env h) Q)
inductive tAs (K:PySem.W.Frag) (f:IT.Env->M (List R)) (σ:St) (H:Hp) (Q:List V->Hp->Prop):Prop where
 | mk (μ:List Addr) (h:Sto) (env:IT.Env) (R0:Rep K μ h H) (re:RepE K μ h H env σ) (p:Post K μ h H (zaY K) (f env h) Q)
inductive tLs (K:PySem.W.Frag) (f:IT.Env->M (List D)) (σ:St) (H:Hp) (Q:VK):Prop where
 | mk (μ:List Addr) (h:Sto) (env:IT.Env) (R0:Rep K μ h H) (re:RepE K μ h H env σ) (xs:List D) (h':Sto) (e:f env h=some (xs,h')) (k:∀ μ' H' a vs,Stp μ h H μ' h' H'->Rep K μ' h' H'->RepDs K (Live μ' h') H' xs vs->H' a=none->Q (.ref a) (upd H' a (.lst vs)))
noncomputable abbrev IE (X:Cx) (e:Expr) (f:IT.Env->M R):Prop:=PE X e (tE X.K f)
noncomputable abbrev IT' (X:Cx) (e:Expr) (f:IT.Env->M Bool):Prop:=PT X e (tTv X.K f)
noncomputable abbrev IA (X:Cx) (es:List Expr) (f:IT.Env->M (List R)):Prop:=PA X es (tAs X.K f)
noncomputable abbrev IL (X:Cx) (e:Expr) (f:IT.Env->M (List D)):Prop:=PE X e (tLs X.K f)
theorem PE.imp {X:Cx} (h:PE X e t) (i:∀ σ H Q,t' σ H Q->t σ H Q):PE X e t':=λpins s σ H Q I q=>h pins s σ H Q I (i σ H Q q)
theorem PT.imp {X:Cx} (h:PT X e t) (i:∀ σ H Q,t' σ H Q->t σ H Q):PT X e t':=λpins s σ H Q I q=>h pins s σ H Q I (i σ H Q q)
theorem PA.imp {X:Cx} (h:PA X e t) (i:∀ σ H Q,t' σ H Q->t σ H Q):PA X e t':=λpos pins s σ H Q I q=>h pos pins s σ H Q I (i σ H Q q)
section
variable {X:Cx} {e a b c:Expr} {es:List Expr} {pos:Pos} {f g k:IT.Env->M R} {ft gt:IT.Env->M Bool}
theorem zgN {v:V} (h:PE X e (tC v)) (hd:∀ A H,RepD X.K A H d v):IE X e (λ_=>ok (.d d)):=by
 refine PE.imp h λσ H Q q0=>?_;obtain ⟨μ,h,env,R0,re,r,h',e,k⟩:=q0;obtain ⟨rfl,rfl⟩:=zac.mp e;exact k μ H v Stp.refl R0 (hd _ _)
theorem zqr {i:Nat} (h:PE X e (tVar i)):IE X e (λσ h=>match σ[i]? with | some (some r)=>some (r,h) | _=>none):=by
 refine PE.imp h λσ H Q q0=>?_;obtain ⟨μ,h,env,R0,re,r,h',e,k⟩:=q0
 have e2:env[i]?=some (some r)/\h=h':=by
  (try dsimp only at e)
  cases q:env[i]? with
  | none=>rw [q] at e;cases e
  | some o=>
   cases o with
   | none=>rw [q] at e;cases e
   | some r'=>rw [q] at e;simp at e;exact ⟨by rw [e.1],e.2⟩
 obtain ⟨e3,rfl⟩:=e2;obtain ⟨v,e4,z⟩:=re.get i r e3;exact ⟨v,e4,k μ H v Stp.refl R0 z⟩
inductive OpIQ (K:PySem.W.Frag) (m:R->R->M R) (v u:V) (H:Hp) (Q:VK):Prop where
 | mk (μ:List Addr) (h:Sto) (x y:R) (R0:Rep K μ h H) (qx:RepR K μ h H x v) (qy:RepR K μ h H y u) (p:Post K μ h H (RepR K) (m x y h) Q)
noncomputable def OpI (X:Cx) (F:Value->Value->Sem Value) (m:R->R->M R):Prop:=OpR X F λv u H Q=>OpIQ X.K m v u H Q
theorem two {m:R->R->M R} {σ:St} {Q:VK} (q:tE X.K (λσ=>bnd (f σ) λx=>bnd (g σ) λy=>m x y) σ H Q) :
  tE X.K f σ H λv H1=>tE X.K g σ H1 λu H2=>OpIQ X.K m v u H2 Q:=by
 obtain ⟨μ,h,env,R0,re,r,h',e,k⟩:=q;simp only [zab] at e;obtain ⟨x,h1,e1,y,h2,e2,e3⟩:=e
 exact ⟨μ,h,env,R0,re,x,h1,e1,λμ1 H1 v s1 R1 q1=>⟨μ1,h1,env,R1,re.stp s1 R0,y,h2,e2,λμ2 H2 u s2 R2 q2=>
  ⟨μ2,h2,x,y,R2,q1.stp s2 R1,q2,r,h',e3,λμ3 H3 w s3 R3 q3=>k μ3 H3 w ((s1.trans s2).trans s3) R3 q3⟩⟩⟩
theorem zqF {op:Operator} (ho:OpI X (binaryOp op) m) (ha:IE X a f) (hb:IE X b g):IE X (.BinOp a op b pos) (λσ=>bnd (f σ) λx=>bnd (g σ) λy=>m x y):=
 PE.imp (zsq ho ha hb) λσ H Q q=>two q
theorem zpK {op:CmpOp} (ho:OpI X (compareOp op) m) (ha:IE X a f) (hb:IE X b g) (hm:behindInMarks op b=false):IE X (.Compare a [op] [b] pos) (λσ=>bnd (f σ) λx=>bnd (g σ) λy=>m x y):=
 PE.imp (zpr ho ha hb hm) λσ H Q q=>two q
inductive OpDQ (K:PySem.W.Frag) (g:D->D->Option D) (v u:V) (H:Hp) (Q:VK):Prop where
 | mk (μ:List Addr) (h:Sto) (a b z:D) (R0:Rep K μ h H) (qa:RdD K (Live μ h) H a v) (qb:RdD K (Live μ h) H b u) (e:g a b=some z) (k:∀ μ' H' w,Stp μ h H μ' h H'->Rep K μ' h H'->RepD K (Live μ' h) H' z w->Q w H')
noncomputable def OpD (X:Cx) (F:Value->Value->Sem Value) (g:D->D->Option D):Prop:=OpR X F λv u H Q=>OpDQ X.K g v u H Q
noncomputable def mD (g:D->D->Option D) (x y:R):M R:=bnd (rd x) λx=>bnd (rd y) λy=>bnd (opt (g x y)) λz=>ok (.d z)
theorem OpD.opI {F:Value->Value->Sem Value} {g:D->D->Option D} (h:OpD X F g):OpI X F (mD g):=by
 intro pins s σ H v u v' u' Q I rv ru q;obtain ⟨μ,h0,x,y,R0,qx,qy,r,h',e,k⟩:=q;simp only [mD,zab,zac,zas] at e;obtain ⟨dx,h1,e1,dy,h2,e2,z,h3,⟨e3,rfl⟩,rfl,rfl⟩:=e;obtain ⟨rfl,zx⟩:=za2 R0 qx e1;obtain ⟨rfl,zy⟩:=za2 R0 qy e2;exact h pins s σ H v u v' u' Q I rv ru ⟨μ,_,dx,dy,z,R0,zx,zy,e3,λμ' H' w st R1 qw=>k μ' H' w st R1 qw⟩
theorem zqq (h:IE X e f) (he:∀ whole,isTrue e X.env whole=(do let v<-whole;standAt e.pos;holding [v] (truthy v))):IT' X e (λσ=>bnd (f σ) λr=>bnd (rd r) λd=>opt (tru d)):=by
 refine PT.imp (zmM h he) λσ H Q q0=>?_;obtain ⟨μ,h,env,R0,re,t,h',e,k⟩:=q0;simp only [zab,zas] at e;obtain ⟨r,h1,e1,d,h2,e2,e3,rfl⟩:=e;refine ⟨μ,h,env,R0,re,r,h1,e1,λμ1 H1 v s1 R1 q1=>?_⟩;obtain ⟨rfl,z⟩:=za2 R1 q1 e2;refine ⟨t,?_,k μ1 H1 t s1 R1 rfl⟩
 cases d with
 | non=>simp only [RdD,RepD] at z;subst z;simp only [tru,Option.some.injEq] at e3;exact e3.symm
 | bl b=>simp only [RdD,RepD] at z;subst z;simp only [tru,Option.some.injEq] at e3;exact e3.symm
 | int i=>simp only [RdD,RepD] at z;subst z;simp only [tru,Option.some.injEq] at e3;exact e3.symm
 | str x=>
  simp only [RdD,RepD] at z;subst z;simp only [tru] at e3
  split at e3
  ·rename_i hf
   simp only [Option.some.injEq] at e3
   refine ⟨by rw [zae];exact of_decide_eq_true hf,?_⟩
   rw [<-e3,zae]
   cases x<;>simp
   omega
  ·cases e3
 | tup xs=>
  simp only [RdD,RepD] at z;obtain ⟨a,vs,rfl,q,zs⟩:=z;simp only [tru,Option.some.injEq] at e3;refine .inr (.inl ⟨vs,q,?_⟩);rw [<-e3]
  have:=zs.length
  cases xs<;>cases vs<;>simp_all
 | lst xs=>
  obtain ⟨a,vs,rfl,q,zs⟩:=z;simp only [tru,Option.some.injEq] at e3;refine .inl ⟨vs,q,?_⟩;rw [<-e3]
  have:=zs.length
  cases xs<;>cases vs<;>simp_all
theorem zqm {op:CmpOp} {m:R->R->M R} (ho:OpI X (compareOp op) m) (ha:IE X a f) (hb:IE X b g) (hm:behindInMarks op b=false) (hbl:∀ x y h r h',m x y h=some (r,h')->∃ t,r=.d (.bl t)) :
  IT' X (.Compare a [op] [b] pos) (λσ=>bnd (bnd (f σ) λx=>bnd (g σ) λy=>m x y) λr=>bnd (rd r) λd=>opt (tru d)):=by
 refine PT.imp (zpl ho ha hb hm) λσ H Q q0=>?_;obtain ⟨μ,h,env,R0,re,t,h',e,k⟩:=q0;simp only [zab,zas] at e;obtain ⟨r,h1,⟨x,h2,e1,y,h3,e2,e3⟩,d,h4,e4,e5,rfl⟩:=e;obtain ⟨t',rfl⟩:=hbl _ _ _ _ _ e3;simp only [rd,zac] at e4;obtain ⟨rfl,rfl⟩:=e4;simp only [tru,Option.some.injEq] at e5;subst e5
 refine two (m:=m) ⟨μ,h,env,R0,re,.d (.bl t'),h1,by simp only [zab];exact ⟨x,h2,e1,y,h3,e2,e3⟩,λμ1 H1 v s1 R1 q1=>?_⟩
 simp only [RepR,RepD] at q1;subst q1;exact ⟨t',rfl,k μ1 H1 t' s1 R1 rfl⟩
theorem znr {rest:List Expr} {tb:TT} (ha:IT' X a ft) (hb:PW X (.BoolOp .And (b::rest) pos) (tTv X.K gt)):PW X (.BoolOp .And (a::b::rest) pos) (tTv X.K λσ=>bnd (ft σ) λt=>if t then gt σ else ok false):=by
 intro whole pins s σ H Q I q;refine zpF ha hb whole pins s σ H Q I ?_;obtain ⟨μ,h,env,R0,re,t,h',e,k⟩:=q;simp only [zab] at e;obtain ⟨u,h1,e1,e2⟩:=e;refine ⟨μ,h,env,R0,re,u,h1,e1,λμ1 H1 v s1 R1 hv=>?_⟩;subst hv
 cases u with
 | true=>
  rw [if_pos rfl] at e2;rw [if_pos rfl];exact ⟨μ1,h1,env,R1,re.stp s1 R0,t,h',e2,λμ2 H2 v s2 R2 hv=>k μ2 H2 v (s1.trans s2) R2 hv⟩
 | false=>
  rw [if_neg (by decide)] at e2;rw [if_neg (by decide)];obtain ⟨rfl,rfl⟩:=zac.mp e2;exact k μ1 H1 _ s1 R1 rfl
theorem zpE {rest:List Expr} (ha:IT' X a ft) (hb:PW X (.BoolOp .Or (b::rest) pos) (tTv X.K gt)):PW X (.BoolOp .Or (a::b::rest) pos) (tTv X.K λσ=>bnd (ft σ) λt=>if t then ok true else gt σ):=by
 intro whole pins s σ H Q I q;refine zsM ha hb whole pins s σ H Q I ?_;obtain ⟨μ,h,env,R0,re,t,h',e,k⟩:=q;simp only [zab] at e;obtain ⟨u,h1,e1,e2⟩:=e;refine ⟨μ,h,env,R0,re,u,h1,e1,λμ1 H1 v s1 R1 hv=>?_⟩;subst hv
 cases u with
 | false=>
  rw [if_neg (by decide)] at e2;rw [if_neg (by decide)];exact ⟨μ1,h1,env,R1,re.stp s1 R0,t,h',e2,λμ2 H2 v s2 R2 hv=>k μ2 H2 v (s1.trans s2) R2 hv⟩
 | true=>
  rw [if_pos rfl] at e2;rw [if_pos rfl];obtain ⟨rfl,rfl⟩:=zac.mp e2;exact k μ1 H1 _ s1 R1 rfl
theorem zp1 (ha:IT' X a ft):IT' X (.UnaryOp .Not a pos) (λσ=>bnd (ft σ) λt=>ok (!t)):=by
 refine PT.imp (zqe ha) λσ H Q q0=>?_;obtain ⟨μ,h,env,R0,re,t,h',e,k⟩:=q0;simp only [zab,zac] at e;obtain ⟨u,h1,e1,rfl,rfl⟩:=e;refine ⟨μ,h,env,R0,re,u,h1,e1,λμ1 H1 v s1 R1 hv=>?_⟩;subst hv;exact k μ1 H1 _ s1 R1 rfl
theorem znE {rest:List Expr} (ha:IE X a f) (hb:IE X (.BoolOp .And (b::rest) pos) g):IE X (.BoolOp .And (a::b::rest) pos) (λσ=>bnd (f σ) λx=>match x with | .d (.bl c)=>if c then g σ else ok (.d (.bl false)) | _=>λ_=>none):=by
 refine PE.imp (zqo ha hb) λσ H Q q0=>?_;obtain ⟨μ,h,env,R0,re,r,h',e,k⟩:=q0;simp only [zab] at e;obtain ⟨x,h1,e1,e2⟩:=e;refine ⟨μ,h,env,R0,re,x,h1,e1,λμ1 H1 v s1 R1 q1=>?_⟩
 cases x with
 | loc l=>cases e2
 | d d=>
  cases d with
  | bl c=>
   simp only [RepR,RepD] at q1;refine ⟨c,q1,?_⟩
   cases c with
   | true=>
    simp only [if_true] at e2 ⊢;exact ⟨μ1,h1,env,R1,re.stp s1 R0,r,h',e2,λμ2 H2 v s2 R2 hv=>k μ2 H2 v (s1.trans s2) R2 hv⟩
   | false=>
    simp only [Bool.false_eq_true,if_false] at e2 ⊢;obtain ⟨rfl,rfl⟩:=zac.mp e2;exact k μ1 H1 _ s1 R1 (by simp only [RepR,RepD])
  | _=>cases e2
theorem zpO {rest:List Expr} (ha:IE X a f) (hb:IE X (.BoolOp .Or (b::rest) pos) g):IE X (.BoolOp .Or (a::b::rest) pos) (λσ=>bnd (f σ) λx=>match x with | .d (.bl c)=>if c then ok (.d (.bl true)) else g σ | _=>λ_=>none):=by
 refine PE.imp (zsB ha hb) λσ H Q q0=>?_;obtain ⟨μ,h,env,R0,re,r,h',e,k⟩:=q0;simp only [zab] at e;obtain ⟨x,h1,e1,e2⟩:=e;refine ⟨μ,h,env,R0,re,x,h1,e1,λμ1 H1 v s1 R1 q1=>?_⟩
 cases x with
 | loc l=>cases e2
 | d d=>
  cases d with
  | bl c=>
   simp only [RepR,RepD] at q1;refine ⟨c,q1,?_⟩
   cases c with
   | false=>
    simp only [Bool.false_eq_true,if_false] at e2 ⊢;exact ⟨μ1,h1,env,R1,re.stp s1 R0,r,h',e2,λμ2 H2 v s2 R2 hv=>k μ2 H2 v (s1.trans s2) R2 hv⟩
   | true=>
    simp only [if_true] at e2 ⊢;obtain ⟨rfl,rfl⟩:=zac.mp e2;exact k μ1 H1 _ s1 R1 (by simp only [RepR,RepD])
  | _=>cases e2
theorem zjp {pins:List (Addr×Obj)} {d:D} {v:V} {u:Value} {b:Bool} {Q:Bool->Shared->Prop} {E:Value->Shared->Prop} (I:Inv X pins σ H s) (q:RdD X.K A0 H d v) (r:RelV v u) (e:tru d=some b) (k:∀ tk,Q b { s with toks:=tk }) :
  wpAny (model X.prog X.w) A (truthy u) Q E s:=by
 have hl:=zdR;have hs:sizeLine=16777216:=sizeLine_eq
 cases d with
 | non=>
  simp only [RdD,RepD] at q;subst q;cases r
  simp only [tru,Option.some.injEq] at e;subst e
  exact PyProof.Rows.truthy_none (k s.toks)
 | bl c=>
  simp only [RdD,RepD] at q;subst q;cases r
  simp only [tru,Option.some.injEq] at e;subst e
  exact wpAny_truthy_bool (k s.toks)
 | int i=>
  simp only [RdD,RepD] at q;subst q
  obtain ⟨t,rfl⟩:=r
  simp only [tru,Option.some.injEq] at e;subst e
  exact PySem.P.truthy_int (k s.toks)
 | str x=>
  simp only [RdD,RepD] at q;subst q
  obtain ⟨t,rfl⟩:=r;simp only [tru] at e
  split at e
  ·rename_i hf
   simp only [Option.some.injEq] at e;have hx:x.length<=big:=of_decide_eq_true hf;unfold big at hx
   refine PySem.P.truthy_str (by rw [zae];omega) ?_
   have e2:(((zaa x).length:Int) != 0)=b:=by
    rw [<-e,zae]
    cases x<;>simp
    omega
   rw [e2];exact k _
  ·cases e
 | tup xs=>
  simp only [RdD,RepD] at q;obtain ⟨a,vs,rfl,q,zs⟩:=q;cases r;simp only [tru,Option.some.injEq] at e;obtain ⟨its,ri,pl,hz⟩:=I.tuple q;have hlen:=ri.length;have h1:=zs.length
  refine PyProof.Rows.truthy_tuple pl (by simp only [List.size_toArray];omega) ?_
  have e2:(!its.toArray.isEmpty)=b:=by
   rw [zbF ri,<-e];clear hlen ri pl q hz
   cases xs<;>cases vs<;>first | rfl | (simp at h1)
  rw [e2];exact k _
 | lst xs=>
  obtain ⟨a,vs,rfl,q,zs⟩:=q;cases r;simp only [tru,Option.some.injEq] at e;obtain ⟨its,ri,pl,hz⟩:=I.list q;have hlen:=ri.length;have h1:=zs.length
  refine wpAny_truthy_list pl.isList (by simp only [List.size_toArray];omega) ?_
  have e2:(!its.toArray.isEmpty)=b:=by
   rw [zbF ri,<-e];clear hlen ri pl q hz
   cases xs<;>cases vs<;>first | rfl | (simp at h1)
  rw [e2];exact k _
theorem zqv (ha:IE X a f):IE X (.UnaryOp .Not a pos) (λσ=>bnd (f σ) λx=>bnd (rd x) λd=>bnd (opt (tru d)) λt=>ok (.d (.bl (!t)))):=by
 intro pins s σ H Q I q0;obtain ⟨μ,h,env,R0,re,r,h',e,k⟩:=q0;simp only [zab,zas,zac] at e;obtain ⟨x,h1,e1,d,h2,e2,t,h3,⟨e3,rfl⟩,rfl,rfl⟩:=e
 have z:=ha pins s σ H (λy H1=>∃ A0 d,RdD X.K A0 H1 d y/\tru d=some t/\Q (.bl (!t)) H1) I ⟨μ,h,env,R0,re,x,h1,e1,λμ1 H1 v s1 R1 q1=>by
  obtain ⟨rfl,z⟩:=za2 R1 q1 e2
  exact ⟨_,d,z,e3,k μ1 H1 _ s1 R1 (by simp only [RepR,RepD])⟩⟩
 refine PyProof.Rows.UnaryOp_ (thn z λv s1 ⟨y,H1,I1,r1,A0,d',z1,z2,q1⟩=>PyProof.Rows.not_of ?_);exact zjp I1 z1 r1 z2 λtk=>⟨.bl (!t),H1,I1.tok _,rfl,q1⟩
theorem zqk (hc:IT' X c ft) (ha:IE X a f) (hb:IE X b g):IE X (.IfExp c a b pos) (λσ=>bnd (ft σ) λt=>if t then f σ else g σ):=by
 refine PE.imp (zmW hc ha hb) λσ H Q q0=>?_;obtain ⟨μ,h,env,R0,re,r,h',e,k⟩:=q0;simp only [zab] at e;obtain ⟨t,h1,e1,e2⟩:=e;refine ⟨μ,h,env,R0,re,t,h1,e1,λμ1 H1 v s1 R1 hv=>?_⟩;subst hv
 cases t with
 | true=>
  simp only [if_true] at e2 ⊢;exact ⟨μ1,h1,env,R1,re.stp s1 R0,r,h',e2,λμ2 H2 v s2 R2 hv=>k μ2 H2 v (s1.trans s2) R2 hv⟩
 | false=>
  simp only [Bool.false_eq_true,if_false] at e2 ⊢;exact ⟨μ1,h1,env,R1,re.stp s1 R0,r,h',e2,λμ2 H2 v s2 R2 hv=>k μ2 H2 v (s1.trans s2) R2 hv⟩
theorem zro:IA X [] (λ_=>ok []):=by
 refine PA.imp zbP λσ H Q q0=>?_;obtain ⟨μ,h,env,R0,re,r,h',e,k⟩:=q0;obtain ⟨rfl,rfl⟩:=zac.mp e;exact k μ H [] Stp.refl R0 .nil
theorem zoo {fs:IT.Env->M (List R)} (ha:IE X e f) (hr:IA X es fs) (hs:starEach (e::es) X.env=(false,eval e X.env)::starEach es X.env):IA X (e::es) (λσ=>bnd (f σ) λr=>bnd (fs σ) λrs=>ok (r::rs)):=by
 refine PA.imp (zaH ha hr hs) λσ H Q q0=>?_;obtain ⟨μ,h,env,R0,re,r,h',e,k⟩:=q0;simp only [zab,zac] at e;obtain ⟨x,h1,e1,xs,h2,e2,rfl,rfl⟩:=e;exact ⟨μ,h,env,R0,re,x,h1,e1,λμ1 H1 v s1 R1 q1=>⟨μ1,h1,env,R1,re.stp s1 R0,xs,h2,e2,λμ2 H2 vs s2 R2 q2=>k μ2 H2 (v::vs) (s1.trans s2) R2 (.cons (q1.stp s2 R1) q2)⟩⟩
theorem zpM {n:Nat} {fs:IT.Env->M (List R)} (h:IA X es fs) (hl:es.length<=1000) (hf:∀ σ h rs h',fs σ h=some (rs,h')->rs.length=es.length):IE X (.Tuple es n pos) (λσ=>bnd (fs σ) λrs=>bnd (fzs rs) λds=>ok (.d (.tup ds))):=by
 refine PE.imp (zrD h) λσ H Q q0=>?_;obtain ⟨μ,h,env,R0,re,r,h',e,k⟩:=q0;simp only [zab,zac] at e;obtain ⟨rs,h1,e1,ds,h2,e2,rfl,rfl⟩:=e;refine ⟨μ,h,env,R0,re,rs,h1,e1,λμ1 H1 vs s1 R1 q1=>⟨?_,λp hp=>?_⟩⟩
 ·rw [<-q1.length,hf _ _ _ _ e1]
  have:(1000:Nat)<=sizeLine:=by decide
  omega
 ·obtain ⟨s2,R2,q2⟩:=zjd R1 q1 e2
  have s3:Stp μ1 h2 H1 μ1 h2 (upd H1 p (.tup vs)):=Stp.fresh hp;refine k μ1 _ (.ref p) ((s1.trans s2).trans s3) (R2.fresh hp) ?_;simp only [RepR,RepD];exact ⟨p,vs,rfl,SqT.of zaj,RepDs.stp s3 R2 q2⟩
theorem zpk {fs:IT.Env->M (List R)} (h:IA X es fs) (hl:es.length<=1000) (hf:∀ σ h rs h',fs σ h=some (rs,h')->rs.length=es.length):IL X (.List es pos) (λσ=>bnd (fs σ) λrs=>fzs rs):=by
 refine PE.imp (zpS h) λσ H Q q0=>?_;obtain ⟨μ,h,env,R0,re,ds,h',e,k⟩:=q0;simp only [zab] at e;obtain ⟨rs,h1,e1,e2⟩:=e;refine ⟨μ,h,env,R0,re,rs,h1,e1,λμ1 H1 vs s1 R1 q1=>⟨?_,λp hp=>?_⟩⟩
 ·rw [<-q1.length,hf _ _ _ _ e1]
  have:(1000:Nat)<=sizeLine:=by decide
  omega
 ·obtain ⟨s2,R2,q2⟩:=zjd R1 q1 e2
  exact k μ1 H1 p vs (s1.trans s2) R2 q2 hp
theorem zei {fl:IT.Env->M (List D)} (m:Bool) (h:IL X e fl):IE X e (λσ=>bnd (fl σ) λxs=>if m then alloc xs else ok (.d (.lst xs))):=by
 refine PE.imp h λσ H Q q0=>?_;obtain ⟨μ,h,env,R0,re,r,h',e,k⟩:=q0;simp only [zab] at e;obtain ⟨xs,h1,e1,e2⟩:=e;refine ⟨μ,h,env,R0,re,xs,h1,e1,λμ1 H1 a vs s1 R1 q1 ha=>?_⟩
 cases m with
 | true=>
  simp only [if_true,alloc,Option.some.injEq,Prod.mk.injEq] at e2;obtain ⟨rfl,rfl⟩:=e2;refine k (μ1++[a]) _ (.ref a) (s1.trans (Stp.alloc R1 ha)) (R1.alloc ha q1) ⟨a,?_,rfl⟩;rw [<-R1.len];simp
 | false=>
  simp only [Bool.false_eq_true,if_false] at e2;obtain ⟨rfl,rfl⟩:=zac.mp e2;have s2:Stp μ1 h1 H1 μ1 h1 (upd H1 a (.lst vs)):=Stp.fresh ha;refine k μ1 _ (.ref a) (s1.trans s2) (R1.fresh ha) ?_;simp only [RepR,RepD];refine ⟨a,vs,rfl,.inl ⟨λl=>?_,.inl zaj⟩,RepDs.stp s2 R1 q1⟩;obtain ⟨ws,z,_⟩:=R1.liveAt l
  rw [ha] at z;cases z
end
end IT
namespace IT
open PySem PySem.Spec L2
section
variable {K:PySem.W.Frag} {A0:Addr->Prop} {H:Hp}
theorem ze6 (x y:List Nat):(zaa x==zaa y)=(x==y):=by
 by_cases e:x=y
 ·subst e;simp
 ·rw [beq_eq_false_iff_ne.mpr e,beq_eq_false_iff_ne.mpr (λz=>e (zch z))]
structure zaM (X:Cx) (s:Shared) (H:Hp):Prop where
 lst:∀ a vs,SqL X.K H a vs->∃ its:List Value,Vals vs its/\s.heap.IsList a its.toArray
 tup:∀ a vs,SqT X.K H a vs->∃ its:List Value,Vals vs its/\s.heap.IsTuple a its.toArray
theorem zaB (I:Inv X pins σ H s):zaM X s H:=
 ⟨λa vs q=>let ⟨its,r,p,_⟩:=I.list q;⟨its,r,p.isList⟩,λa vs q=>let ⟨its,r,p,_⟩:=I.tuple q;⟨its,r,p⟩⟩
theorem zb7 {α:Type} (xs ys:List α) (f:α->α->Bool) (hl:xs.length=ys.length) (e:Nat->Bool) (he:∀ (j:Nat) (x y:α),xs[j]?=some x->ys[j]?=some y->e j=f x y) :
  (List.range xs.length).all e=(xs.zip ys).all λp=>f p.1 p.2:=by
 rw [Bool.eq_iff_iff,List.all_eq_true,List.all_eq_true];constructor
 ·intro h p hp
  obtain ⟨j,hj,e1⟩:=List.getElem_of_mem hp
  have hj':j<xs.length/\j<ys.length:=by simp at hj;omega
  have e2:p=(xs[j]'hj'.1,ys[j]'hj'.2):=by rw [<-e1,List.getElem_zip]
  rw [e2,<-he j _ _ (List.getElem?_eq_getElem hj'.1) (List.getElem?_eq_getElem hj'.2)];exact h j (by simpa using hj'.1)
 ·intro h j hj
  have hj1:j<xs.length:=by simpa using hj
  have hj2:j<ys.length:=by omega
  rw [he j _ _ (List.getElem?_eq_getElem hj1) (List.getElem?_eq_getElem hj2)];refine h (xs[j],ys[j]) ?_;rw [List.mem_iff_getElem]
  exact ⟨j,by simp;omega,by simp⟩
theorem zcr:∀ xs ys:List D,xs.length=ys.length->D.eqbs xs ys=(xs.zip ys).all λp=>p.1.eqb p.2
 | [],[],_=>rfl
 | x::xs,y::ys,h=>by
  simp only [D.eqbs,List.zip_cons_cons,List.all_cons];rw [zcr xs ys (by simpa using h)]
theorem zcq:∀ xs ys:List D,xs.length≠ys.length->D.eqbs xs ys=false
 | [],[],h=>absurd rfl h
 | [],_::_,_=>rfl
 | _::_,[],_=>rfl
 | x::xs,y::ys,h=>by
  simp only [D.eqbs];rw [zcq xs ys (by simpa using h),Bool.and_false]
theorem zlP (r:Vals vs its) (e:vs[j]?=some v) (h:j<its.length):RelV v its[j]:=by
 obtain ⟨u,e1,r1⟩:=r.get e;rw [List.getElem?_eq_getElem h] at e1;cases e1;exact r1
mutual
theorem D.eqb_refl:∀ x:D,x.eqb x=true
 | .non=>rfl
 | .bl a=>by simp [D.eqb]
 | .int a=>by simp [D.eqb]
 | .str a=>by simp [D.eqb]
 | .tup a=>by simp only [D.eqb];exact D.eqbs_refl a
 | .lst a=>by simp only [D.eqb];exact D.eqbs_refl a
theorem D.eqbs_refl:∀ x:List D,D.eqbs x x=true
 | []=>rfl
 | a::r=>by simp only [D.eqbs,Bool.and_eq_true];exact ⟨D.eqb_refl a,D.eqbs_refl r⟩
end
section
variable {X:Cx} {s:Shared}
theorem zkz (S:zaM X s H) (q:SqT X.K H a vs) (q':SqT X.K H a ws):vs=ws:=by
 obtain ⟨its,ri,o,h1,_,_,h2⟩:=S.tup a vs q;obtain ⟨its',ri',o',h1',_,_,h2'⟩:=S.tup a ws q'
 rw [h1] at h1';cases h1';rw [h2] at h2';cases h2'
 exact Vals.inj ri ri'
theorem zkm (S:zaM X s H) (q:SqL X.K H a vs) (q':SqL X.K H a ws):vs=ws:=by
 obtain ⟨its,ri,o,h1,_,_,h2⟩:=S.lst a vs q;obtain ⟨its',ri',o',h1',_,_,h2'⟩:=S.lst a ws q'
 rw [h1] at h1';cases h1';rw [h2] at h2';cases h2'
 exact Vals.inj ri ri'
theorem zj1 (S:zaM X s H) (q:SqL X.K H a vs) (q':SqT X.K H a ws):False:=by
 obtain ⟨its,ri,p⟩:=S.lst a vs q;obtain ⟨its',ri',p'⟩:=S.tup a ws q';exact SeqAt.ne_of_list_tuple p p' rfl
mutual
theorem RepD.inj (S:zaM X s H):∀ (x y:D) (v:V),RepD X.K A0 H x v->RepD X.K A0 H y v->x=y
 | .non,y,v,qx,qy=>by
  simp only [RepD] at qx;subst qx
  cases y<;>simp_all [RepD]
 | .bl c,y,v,qx,qy=>by
  simp only [RepD] at qx;subst qx
  cases y<;>simp_all [RepD]
 | .int c,y,v,qx,qy=>by
  simp only [RepD] at qx;subst qx
  cases y<;>simp_all [RepD]
 | .str c,y,v,qx,qy=>by
  simp only [RepD] at qx;subst qx
  cases y with
  | str b=>simp only [RepD,V.str.injEq] at qy;rw [zch qy]
  | _=>simp [RepD] at qy
 | .tup c,y,v,qx,qy=>by
  simp only [RepD] at qx;obtain ⟨a,vs,rfl,q,zs⟩:=qx
  cases y with
  | tup b=>
   simp only [RepD] at qy;obtain ⟨a',vs',e,q',zs'⟩:=qy;cases e;have e2:=zkz S q q';subst e2;rw [RepDs.inj S c b vs zs zs']
  | lst b=>
   simp only [RepD] at qy;obtain ⟨a',vs',e,q',zs'⟩:=qy;cases e;exact (zj1 S q'.sq q).elim
  | _=>simp [RepD] at qy
 | .lst c,y,v,qx,qy=>by
  simp only [RepD] at qx;obtain ⟨a,vs,rfl,q,zs⟩:=qx
  cases y with
  | lst b=>
   simp only [RepD] at qy;obtain ⟨a',vs',e,q',zs'⟩:=qy;cases e;have e2:=zkm S q.sq q'.sq;subst e2;rw [RepDs.inj S c b vs zs zs']
  | tup b=>
   simp only [RepD] at qy;obtain ⟨a',vs',e,q',zs'⟩:=qy;cases e;exact (zj1 S q.sq q').elim
  | _=>simp [RepD] at qy
theorem RepDs.inj (S:zaM X s H):∀ (x y:List D) (v:List V),RepDs X.K A0 H x v->RepDs X.K A0 H y v->x=y
 | [],y,v,qx,qy=>by
  simp only [RepDs] at qx;subst qx
  cases y with
  | nil=>rfl
  | cons _ _=>have:=qy.length;simp at this
 | x::xs,y,v,qx,qy=>by
  simp only [RepDs] at qx;obtain ⟨w,ws,rfl,q1,q2⟩:=qx
  cases y with
  | nil=>have:=qy.length;simp at this
  | cons y ys=>
   simp only [RepDs] at qy;obtain ⟨w',ws',e,q1',q2'⟩:=qy;cases e;rw [RepD.inj S x y w q1 q1',RepDs.inj S xs ys ws q2 q2']
end
end
noncomputable def zaA (xs ys:List D) (j:Nat):Bool:=match xs[j]?,ys[j]? with
 | some x,some y=>x.eqb y
 | _,_=>false
section
variable {X:Cx} {s:Shared}
inductive Vw (X:Cx) (s:Shared) (H:Hp) (A0:Addr->Prop):D->Value->Prop where
 | non:Vw X s H A0 .non .none
 | bl (b:Bool):Vw X s H A0 (.bl b) (.bool b)
 | int (b:Int) (t:Tok):Vw X s H A0 (.int b) (.int b t)
 | str (b:List Nat) (t:Tok):Vw X s H A0 (.str b) (.str (zaa b) t)
 | tup (c:List D) (a:Addr) (vs:List V) (its:List Value) (q:SqT X.K H a vs) (zs:RepDs X.K A0 H c vs) (ri:Vals vs its) (p:s.heap.IsTuple a its.toArray):Vw X s H A0 (.tup c) (.ref a)
 | lst (c:List D) (a:Addr) (vs:List V) (its:List Value) (q:SqL X.K H a vs) (zs:RepDs X.K A0 H c vs) (ri:Vals vs its) (p:s.heap.IsList a its.toArray):Vw X s H A0 (.lst c) (.ref a)
theorem vw (S:zaM X s H) (q:RdD X.K A0 H x v) (r:RelV v u):Vw X s H A0 x u:=by
 cases x with
 | non=>simp only [RdD,RepD] at q;subst q;cases r;exact .non
 | bl b=>simp only [RdD,RepD] at q;subst q;cases r;exact .bl b
 | int b=>simp only [RdD,RepD] at q;subst q;obtain ⟨t,rfl⟩:=r;exact .int b t
 | str b=>simp only [RdD,RepD] at q;subst q;obtain ⟨t,rfl⟩:=r;exact .str b t
 | tup c=>
  simp only [RdD,RepD] at q;obtain ⟨a,vs,rfl,q,zs⟩:=q;cases r;obtain ⟨its,ri,p⟩:=S.tup a vs q;exact .tup c a vs its q zs ri p
 | lst c=>
  obtain ⟨a,vs,rfl,q,zs⟩:=q;cases r;obtain ⟨its,ri,p⟩:=S.lst a vs q;exact .lst c a vs its q zs ri p
theorem zfs (zs:RepDs X.K A0 H c vs) (zt:RepDs X.K A0 H b ws) (ri:Vals vs us) (rj:Vals ws ts):((List.range (min us.toArray.size ts.toArray.size)).all (zaA c b)&&us.toArray.size==ts.toArray.size)=D.eqbs c b:=by
 have l1:=zs.length;have l2:=zt.length;have l3:=ri.length;have l4:=rj.length
 by_cases hl:c.length=b.length
 ·have hm:min us.toArray.size ts.toArray.size=c.length:=by simp;omega
  rw [hm,zcr c b hl,zb7 c b (λx y=>x.eqb y) hl (zaA c b) (λj x y h1 h2=>by simp [zaA,h1,h2])]
  have:(us.toArray.size==ts.toArray.size)=true:=by simp;omega
  rw [this,Bool.and_true]
 ·rw [zcq c b hl]
  have:(us.toArray.size==ts.toArray.size)=false:=by simp;omega
  rw [this,Bool.and_false]
mutual
theorem znG (S:zaM X s H):∀ (x y:D) (A:Around) (v w:V) (u t:Value),RdD X.K A0 H x v->RdD X.K A0 H y w->RelV v u->RelV w t->A.units+min x.dep y.dep<cLine->SeqAt.EqAt A s u t (x.eqb y)
 | .non,y,A,v,w,_,_,qx,qy,ru,rt,hu=>by
  cases vw S qx ru with | non=>
  cases vw S qy rt with
  | non=>exact .same _
  | bl b=>exact .none_bool b
  | int b t=>exact .none_int b t
  | str b t=>exact .none_str _ t
  | tup _ _ _ _ _ _ _ p=>exact .none_tuple p (by omega)
  | lst _ _ _ _ _ _ _ p=>exact .none_list p (by omega)
 | .bl c,y,A,v,w,_,_,qx,qy,ru,rt,hu=>by
  cases vw S qx ru with | bl=>
  cases vw S qy rt with
  | non=>exact .bool_none c
  | bl b=>exact .bool_bool c b
  | int b t=>exact .bool_int c b t
  | str b t=>exact .bool_str c _ t
  | tup _ _ _ _ _ _ _ p=>exact .bool_tuple c p (by omega)
  | lst _ _ _ _ _ _ _ p=>exact .bool_list c p (by omega)
 | .int c,y,A,v,w,_,_,qx,qy,ru,rt,hu=>by
  cases vw S qx ru with | int _ u=>
  cases vw S qy rt with
  | non=>exact .int_none c u
  | bl b=>exact .int_bool c u b
  | int b t=>exact .int_int c u b t
  | str b t=>exact .int_str c u _ t
  | tup _ _ _ _ _ _ _ p=>exact .int_tuple c u p (by omega)
  | lst _ _ _ _ _ _ _ p=>exact .int_list c u p (by omega)
 | .str c,y,A,v,w,_,_,qx,qy,ru,rt,hu=>by
  cases vw S qx ru with | str _ u=>
  cases vw S qy rt with
  | non=>exact .str_none _ u
  | bl b=>exact .str_bool _ u b
  | int b t=>exact .str_int _ u b t
  | str b t=>have z:=SeqAt.EqAt.str_str (A:=A) (s:=s) (zaa c) u (zaa b) t;rw [ze6] at z;exact z
  | tup _ _ _ _ _ _ _ p=>exact .str_tuple _ u p (by omega)
  | lst _ _ _ _ _ _ _ p=>exact .str_list _ u p (by omega)
 | .tup c,y,A,v,w,_,_,qx,qy,ru,rt,hu=>by
  have hu0:A.units<cLine:=by omega
  cases vw S qx ru with | tup _ a vs its q zs ri p=>
  cases vw S qy rt with
  | non=>exact .tuple_none p hu0
  | bl b=>exact .tuple_bool b p hu0
  | int b t=>exact .tuple_int b t p hu0
  | str b t=>exact .tuple_str _ t p hu0
  | lst _ _ _ _ _ _ _ p'=>exact .tuple_list p p' hu0
  | tup b a' vs' its' q' zs' ri' p'=>
   have key:=pairs_D S c b A.in1 vs vs' its its' zs zs' ri ri' (by
    show A.units+1+_<cLine;simp only [D.dep] at hu
    omega)
   by_cases hab:a=a'
   ·subst hab
    have e2:=zkz S q q';subst e2;have e1:=RepDs.inj S c b vs zs zs';subst e1;refine (show D.eqb (.tup c) (.tup c)=true from D.eqb_refl _)▸SeqAt.EqAt.same _
   ·refine SeqAt.EqAt.of_refs hab ?_
    have:=SeqAt.RcAt.tuples (e:=zaA c b) p p' hu0 (λj h1 h2=>by
     have:=key j (by simpa using h1) (by simpa using h2)
     simpa using this)
    rw [zfs zs zs' ri ri'] at this;exact this
 | .lst c,y,A,v,w,_,_,qx,qy,ru,rt,hu=>by
  have hu0:A.units<cLine:=by omega
  cases vw S qx ru with | lst _ a vs its q zs ri p=>
  cases vw S qy rt with
  | non=>exact .list_none p hu0
  | bl b=>exact .list_bool b p hu0
  | int b t=>exact .list_int b t p hu0
  | str b t=>exact .list_str _ t p hu0
  | tup _ _ _ _ _ _ _ p'=>exact .list_tuple p p' hu0
  | lst b a' vs' its' q' zs' ri' p'=>
   have key:=pairs_D S c b A.in1 vs vs' its its' zs zs' ri ri' (by
    show A.units+1+_<cLine;simp only [D.dep] at hu
    omega)
   by_cases hab:a=a'
   ·subst hab
    have e2:=zkm S q q';subst e2;have e1:=RepDs.inj S c b vs zs zs';subst e1;refine (show D.eqb (.lst c) (.lst c)=true from D.eqb_refl _)▸SeqAt.EqAt.same _
   ·refine SeqAt.EqAt.of_refs hab ?_
    show SeqAt.RcAt A s _ _ (D.eqbs c b);have l1:=zs.length;have l2:=zs'.length;have l3:=ri.length;have l4:=ri'.length
    by_cases hl:c.length=b.length
    ·have:=SeqAt.RcAt.lists (e:=zaA c b) p p' (by simp;omega) hu0 (λj h1 h2=>by
      have:=key j (by simpa using h1) (by simpa using h2)
      simpa using this)
     have hm:its.toArray.size=c.length:=by simp;omega
     rw [hm,zb7 c b (λx y=>x.eqb y) hl (zaA c b) (λj x y h1 h2=>by simp [zaA,h1,h2]),<-zcr c b hl] at this;exact this
    ·rw [zcq c b hl]
     exact SeqAt.RcAt.lists_lengths p p' (by simp;omega) hu0
theorem pairs_D (S:zaM X s H):∀ (xs ys:List D) (A:Around) (vs ws:List V) (us ts:List Value),RepDs X.K A0 H xs vs->RepDs X.K A0 H ys ws->Vals vs us->Vals ws ts->A.units+min (D.deps xs) (D.deps ys)<cLine →
  ∀ (j:Nat) (h1:j<us.length) (h2:j<ts.length),SeqAt.EqAt A s us[j] ts[j] (zaA xs ys j)
 | [],ys,A,vs,ws,us,ts,qx,qy,ru,rt,hu,j,h1,h2=>by
  have l1:=qx.length;have l2:=ru.length;rw [List.length_nil] at l1;omega
 | x :: xs,ys,A,vs,ws,us,ts,qx,qy,ru,rt,hu,j,h1,h2=>by
  rw [RepDs] at qx;obtain ⟨v,vs,rfl,qx1,qx2⟩:=qx
  cases ru with
  | cons ru1 ru2=>
   cases ys with
   | nil=>
    have l1:=qy.length;have l2:=rt.length;rw [List.length_nil] at l1;omega
   | cons y ys=>
    rw [RepDs] at qy;obtain ⟨w,ws,rfl,qy1,qy2⟩:=qy
    cases rt with
    | cons rt1 rt2=>
     simp only [D.deps] at hu
     cases j with
     | zero=>
      simp only [List.getElem_cons_zero,zaA,List.getElem?_cons_zero];exact znG S x y A v w _ _ (RdD.of qx1) (RdD.of qy1) ru1 rt1 (by omega)
     | succ j=>
      simp only [List.getElem_cons_succ]
      have:=pairs_D S xs ys A vs ws _ _ qx2 qy2 ru2 rt2 (by omega) j (by simpa using h1) (by simpa using h2)
      simpa only [zaA,List.getElem?_cons_succ] using this
end
end
end
end IT
namespace PySem
open Sem (wp)
open Builtin AutoSeq1
theorem zg6 (l:Addr) (items:Array Value) (n:Nat) (dd:Option Addr) (sl:Array (Option Value)) (b:Addr) (items2:Array Value) (n2:Nat) (dd2:Option Addr) (sl2:Array (Option Value)) (hc0:items.size+items2.size<=sizeLine) :
  Meets (Builtin.«list.__add__» ⟨[.ref l,.ref b],[]⟩) (λ_ R s=>s.heap.get? l=some { cls:=.type "list",dict:=dd,data:=.seq items n,slots:=sl }/\s.heap.get? b=some { cls:=.type "list",dict:=dd2,data:=.seq items2 n2,slots:=sl2 }/\R (.ok (.ret (Value.ref s.heap.objs.size))) { s with heap:=s.heap.push { cls:=Value.type "list",data:=Data.seq (items++items2) } }):=
 .of_wp λprog w A R s h=>by obtain ⟨hp,g,d,tk,os⟩:=s;obtain ⟨hl,hb,h⟩:=h;have f1:=idx_int;have f2:=sub_tuple_tuple;have f3:=sub_list_list;have f4:=sub_tuple_list;have f5:=sub_list_tuple;wp_walk using wpAny_loadPart' hl,wpAny_loadPart' hb;exact ⟨_,rfl,h⟩
end PySem
namespace IT
open PySem PySem.Spec L2
section
variable {X:Cx}
theorem znS:OpR X (binaryOp .Add) (λx y H Q=>∃ l b xs zs,x=.ref l/\y=.ref b/\SqL X.K H l xs/\SqL X.K H b zs/\xs.length+zs.length<=sizeLine/\∀ p,H p=none->Q (.ref p) (upd H p (.lst (xs++zs)))):=by
 intro pins s σ H x y v u Q I rx ry h;obtain ⟨l,b,xs,zs,rfl,rfl,hH,hB,hz,q⟩:=h;cases rx;cases ry;obtain ⟨its,r,⟨o,n,e,hc,hd,hs⟩,_⟩:=I.list hH;obtain ⟨its2,r2,⟨o2,n2,e2,hc2,hd2,hs2⟩,_⟩:=I.list hB;have hl:=r.length;have hl2:=r2.length;obtain ⟨cls,dd,data,sl⟩:=o;obtain ⟨cls2,dd2,data2,sl2⟩:=o2;simp only at hc hd hs hc2 hd2 hs2;subst hc hd hs hc2 hd2 hs2
 refine concat_meets ⟨_,e,rfl⟩ ⟨_,e2,rfl⟩ noFill_list_add seq_list_add F.slot_list_add F.entry_list_add (F.args_list_add_2 _ _) (zg6 l its.toArray n none sl b its2.toArray n2 none sl2 (by rw [List.size_toArray,List.size_toArray];omega)) ⟨e,e2,?_⟩
 have ea:its.toArray++its2.toArray=(its++its2).toArray:=by simp
 rw [ea]
 exact ⟨.ref _,_,I.lnew (t':=s.toks) (r.append r2) (by rw [List.length_append];omega),rfl,q _ I.fresh⟩
end
end IT
namespace IT
open PySem PySem.Spec L2
open PySem.StrLaws Builtin.Str
theorem zdp (x y:List Nat) (i:Nat):At (zaa x) (zaa y) (zaa x).length i↔(i+y.length<=x.length/\y.isPrefixOf (x.drop i)=true):=by
 unfold At subAt;rw [zae,zae,beq_toList]
 have e:((zaa x).cps.extract i (i+y.length)).toList=(x.drop i).take y.length:=by
  simp [zaa,List.extract_eq_take_drop]
 rw [e,List.isPrefixOf_iff_prefix,List.prefix_iff_eq_take];simp only [zaa,beq_iff_eq];constructor
 ·rintro ⟨h1,h2⟩;exact ⟨h1,h2.symm⟩
 ·rintro ⟨h1,h2⟩;exact ⟨h1,h2.symm⟩
theorem zhc {x y:List Nat} {i:Nat} (hy:y≠[]) (h:y.isPrefixOf (x.drop i)=true):i+y.length<=x.length:=by
 have h1:=(List.isPrefixOf_iff_prefix.mp h).length_le;have h2:0<y.length:=List.length_pos_iff.mpr hy;simp at h1;omega
theorem zeZ {y:List Nat}:∀ {x:List Nat} {i:Nat},i<=x.length->y.isPrefixOf (x.drop i)=true->(∀ k,k<i->¬ y.isPrefixOf (x.drop k)=true)->fnd y x=some i
 | [],i,hi,h,hn=>by
  have e:i=0:=by simpa using hi
  subst e;simp only [fnd];rw [if_pos (by simpa using h)]
 | c::r,0,hi,h,hn=>by
  simp only [fnd];rw [if_pos (by simpa using h)]
 | c::r,i+1,hi,h,hn=>by
  simp only [fnd];rw [if_neg (by simpa using hn 0 (by omega)),zeZ (x:=r) (i:=i) (by simpa using hi) (by simpa using h) (λk hk=>by simpa using hn (k+1) (by omega))]
theorem fnd_none {y:List Nat}:∀ {x:List Nat},(∀ k,k<=x.length->¬ y.isPrefixOf (x.drop k)=true)->fnd y x=none
 | [],hn=>by
  simp only [fnd];rw [if_neg (by simpa using hn 0 (by simp))]
 | c::r,hn=>by
  simp only [fnd];rw [if_neg (by simpa using hn 0 (by simp)),fnd_none (x:=r) (λk hk=>by simpa using hn (k+1) (by simpa using hk))]
theorem zhh {x y:List Nat} (limit:Nat) (hl:1<=limit):(fnd y x=none/\occurrences (zaa x) (zaa y) 0 (zaa x).length limit=[])\/∃ i r,fnd y x=some i/\i+y.length<=x.length/\occurrences (zaa x) (zaa y) 0 (zaa x).length limit=i::r:=by
 have fits:∀ k,k<=x.length->y.isPrefixOf (x.drop k)=true->k+y.length<=x.length:=λk hk h=>by
  have h1:=(List.isPrefixOf_iff_prefix.mp h).length_le;simp at h1;omega
 rcases occ_head (zaa x) (zaa y) limit hl with ⟨e,hn⟩ | ⟨i,r,e,h,hn⟩
 ·exact .inl ⟨fnd_none λk hk h=>hn k ((zdp x y k).mpr ⟨fits k hk h,h⟩),e⟩
 ·have h':=(zdp x y i).mp h
  refine .inr ⟨i,r,zeZ (by omega) h'.2 (λk hk q=>hn k hk ((zdp x y k).mpr ⟨fits k (by omega) q,q⟩)),h'.1,e⟩
theorem zns (x y:List Nat):(!(occurrences (zaa x) (zaa y) 0 (zaa x).length 1).isEmpty)=(fnd y x).isSome:=by
 rcases zhh (x:=x) (y:=y) 1 (by omega) with ⟨e1,e2⟩ | ⟨i,r,e1,_,e2⟩
 ·rw [e1,e2];rfl
 ·rw [e1,e2];rfl
theorem zic (x:List Nat) (i j:Nat):strSub (zaa x) i j=zaa ((x.drop i).take (j-i)):=by
 have:=strSub_toList (zaa x) i j
 have e:strSub (zaa x) i j=zaa (strSub (zaa x) i j).cps.toList:=rfl;rw [e,this];simp [zaa]
theorem zjM {y x:List Nat} (n:Nat) (h:fnd y x=none):splS y n x=[x]:=by
 cases n with
 | zero=>rfl
 | succ n=>simp [splS,h]
theorem zgL {x y:List Nat} (hy:y≠[]):∀ (cuts:List Nat) (a f n:Nat),a<=x.length->ChainG (zaa x) (zaa y) (zaa x).length a cuts f->(∀ k,f<=k->¬ At (zaa x) (zaa y) (zaa x).length k)->x.length-a<=n →
  partsFrom (zaa x) (zaa y).length a cuts=(splS y n (x.drop a)).map zaa
 | [],a,f,n,ha,h,hn,hl=>by
  have e:f=a:=h;subst e
  have e2:fnd y (x.drop f)=none:=fnd_none λk hk q=>by
   rw [List.drop_drop] at q;exact hn (f+k) (by omega) ((zdp x y _).mpr ⟨zhc hy q,q⟩)
  rw [zjM n e2];simp only [partsFrom,List.map_cons,List.map_nil,zic,zae];rw [List.take_of_length_le (by simp)]
 | c :: r,a,f,n,ha,h,hn,hl=>by
  obtain ⟨h1,h2,h3,h4⟩:=h;have h2':=(zdp x y c).mp h2;have hy':0<y.length:=List.length_pos_iff.mpr hy
  have e2:fnd y (x.drop a)=some (c-a):=by
   refine zeZ (by simp;omega) ?_ λk hk q=>?_
   ·rw [List.drop_drop,show a+(c-a)=c by omega];exact h2'.2
   ·rw [List.drop_drop] at q
    exact h3 (a+k) (by omega) (by omega) ((zdp x y _).mpr ⟨zhc hy q,q⟩)
  rw [zae y] at h4
  cases n with
  | zero=>omega
  | succ n=>
   simp only [splS,e2,partsFrom,List.map_cons,List.drop_drop,zic];rw [zae y,show a+(c-a+y.length)=c+y.length by omega];rw [<-zgL hy r (c+y.length) f n h2'.1 h4 hn (by omega),zae y]
theorem zoe {x y:List Nat} (h:∀ c∈y,c∈x):Builtin.Str.strKind (zaa y)<=Builtin.Str.strKind (zaa x):=by
 have mono:∀ n,(zaa x).cps.all (·<n)=true->(zaa y).cps.all (·<n)=true:=by
  intro n hx;simp [zaa] at hx ⊢;intro c hc;exact hx c (h c hc)
 unfold Builtin.Str.strKind
 by_cases h1:(zaa x).cps.all (·<256)=true
 ·rw [if_pos h1,if_pos (mono _ h1)];omega
 ·rw [if_neg h1]
  by_cases h2:(zaa x).cps.all (·<65536)=true
  ·rw [if_pos h2,if_pos (mono _ h2)];split<;>omega
  ·rw [if_neg h2];split
   ·omega
   ·split<;>omega
theorem zrC {x y:List Nat} (hy:y≠[]) (h:(decide ((zaa x).length<(zaa y).length)||decide (Builtin.Str.strKind (zaa x)<Builtin.Str.strKind (zaa y)))=true):fnd y x=none:=by
 refine fnd_none λk hk q=>?_;have h1:=zhc hy q;have hp:=List.isPrefixOf_iff_prefix.mp q;have h2:=zoe (x:=x) (y:=y) λc hc=>List.mem_of_mem_drop (hp.subset hc);simp [zae] at h;omega
theorem ssi (lo hi:Option Int) (n:Nat):strSliceIndices lo hi 1 n=(List.range (HT.sIx n n hi-HT.sIx n 0 lo)).map λk=>HT.sIx n 0 lo+k:=by
 have clip:∀ v:Int,(max 0 (min (if v<0 then v+(n:Int) else v) (n:Int)))=(((if v<0 then (v+(n:Int)).toNat else min v.toNat n):Nat):Int):=by
  intro v
  by_cases hv:v<0
  ·simp only [if_pos hv];omega
  ·simp only [if_neg hv];omega
 have rng:∀ i j:Nat,sliceRange (i:Int) (j:Int) 1=(List.range (j-i)).map λk=>i+k:=by
  intro i j;unfold sliceRange
  have h1:(1:Int)>0:=by omega
  simp only [h1,if_true,Int.ediv_one]
  have e:(if (i:Int)<(j:Int) then (j:Int)-i+1-1 else 0).toNat=j-i:=by split<;>omega
  rw [e];refine List.map_congr_left λk _=>?_;omega
 unfold strSliceIndices
 have h1:(1:Int)>0:=by omega
 simp only [h1,if_true]
 cases lo with
 | none=>
  cases hi with
  | none=>exact rng 0 n
  | some u=>simp only [clip];exact rng 0 _
 | some l=>
  cases hi with
  | none=>simp only [clip];exact rng _ n
  | some u=>simp only [clip];exact rng _ _
theorem pick_run (x:List Nat) (i:Nat):∀ k,i+k<=x.length->(((List.range k).map λm=>i+m).filterMap λj=>x[j]?)=(x.drop i).take k
 | 0,_=>by simp
 | k+1,h=>by
  rw [List.range_succ,List.map_append,List.filterMap_append,pick_run x i k (by omega),List.take_succ]
  congr 1
  have hx:i+k<x.length:=by omega
  simp [List.getElem?_eq_getElem hx]
theorem zjT (x:List Nat) (lo hi:Option Int):Txt.slice (zaa x) lo hi=zaa (cut x lo hi):=by
 have eI:∀ n d o,sIx n d o=HT.sIx n d o:=λn d o=>by cases o<;>rfl
 unfold Txt.slice cut;rw [zae,ssi,eI,eI];have h1:=HT.sIx_le x.length x.length (Nat.le_refl _) hi;have h2:=HT.sIx_le x.length 0 (Nat.zero_le _) lo;generalize HT.sIx x.length x.length hi=j at *;generalize HT.sIx x.length 0 lo=i at *
 have e:((List.map (λk=>i+k) (List.range (j-i))).filterMap λk=>(zaa x).cps[k]?)=(x.drop i).take (j-i):=by
  have:=pick_run x i (j-i)
  by_cases hij:i<=j
  ·simpa [zaa] using this (by omega)
  ·have z:j-i=0:=by omega
   rw [z];simp
 split
 ·rename_i hc
  have hl:j-i=x.length:=by simpa using hc
  rw [hl]
  by_cases hn:x.length=0
  ·have:x=[]:=List.length_eq_zero_iff.mp hn
   subst this;simp
  ·have:i=0:=by omega
   subst this;simp
 ·rw [e];rfl
section
variable {A0:Addr->Prop} {H:Hp} {X:Cx} {s:Shared}
theorem zqt (S:zaM X s H) (x y:D) (A:Around) (v w:V) (u t:Value) (qx:RdD X.K A0 H x v) (qy:RdD X.K A0 H y w) (ru:RelV v u) (rt:RelV w t) (hu:A.units+min x.dep y.dep<cLine):SeqAt.RcAt A s u t (x.eqb y):=by
 have hu0:A.units<cLine:=by omega
 cases vw S qx ru with
 | non=>
  cases vw S qy rt with
  | non=>exact .none_none
  | bl b=>exact .none_bool b
  | int b t=>exact .none_int b t
  | str b t=>exact .none_str _ t
  | tup _ _ _ _ _ _ _ p=>exact .none_tuple p hu0
  | lst _ _ _ _ _ _ _ p=>exact .none_list p hu0
 | bl c=>
  cases vw S qy rt with
  | non=>exact .bool_none c
  | bl b=>exact .bool_bool c b
  | int b t=>exact .bool_int c b t
  | str b t=>exact .bool_str c _ t
  | tup _ _ _ _ _ _ _ p=>exact .bool_tuple c p hu0
  | lst _ _ _ _ _ _ _ p=>exact .bool_list c p hu0
 | int c u=>
  cases vw S qy rt with
  | non=>exact .int_none c u
  | bl b=>exact .int_bool c u b
  | int b t=>exact .int_int c u b t
  | str b t=>exact .int_str c u _ t
  | tup _ _ _ _ _ _ _ p=>exact .int_tuple c u p hu0
  | lst _ _ _ _ _ _ _ p=>exact .int_list c u p hu0
 | str c u=>
  cases vw S qy rt with
  | non=>exact .str_none _ u
  | bl b=>exact .str_bool _ u b
  | int b t=>exact .str_int _ u b t
  | str b t=>have z:=SeqAt.RcAt.str_str (A:=A) (s:=s) (zaa c) u (zaa b) t;rw [ze6] at z;exact z
  | tup _ _ _ _ _ _ _ p=>exact .str_tuple _ u p hu0
  | lst _ _ _ _ _ _ _ p=>exact .str_list _ u p hu0
 | tup c a vs its q zs ri p=>
  cases vw S qy rt with
  | non=>exact .tuple_none p hu0
  | bl b=>exact .tuple_bool b p hu0
  | int b t=>exact .tuple_int b t p hu0
  | str b t=>exact .tuple_str _ t p hu0
  | lst _ _ _ _ _ _ _ p'=>exact .tuple_list p p' hu0
  | tup b a' vs' its' q' zs' ri' p'=>
   have key:=pairs_D S c b A.in1 vs vs' its its' zs zs' ri ri' (by show A.units+1+_<cLine;simp only [D.dep] at hu;omega)
   have:=SeqAt.RcAt.tuples (e:=zaA c b) p p' hu0 (λj h1 h2=>by have:=key j (by simpa using h1) (by simpa using h2);simpa using this)
   rw [zfs zs zs' ri ri'] at this;exact this
 | lst c a vs its q zs ri p=>
  cases vw S qy rt with
  | non=>exact .list_none p hu0
  | bl b=>exact .list_bool b p hu0
  | int b t=>exact .list_int b t p hu0
  | str b t=>exact .list_str _ t p hu0
  | tup _ _ _ _ _ _ _ p'=>exact .list_tuple p p' hu0
  | lst b a' vs' its' q' zs' ri' p'=>
   have key:=pairs_D S c b A.in1 vs vs' its its' zs zs' ri ri' (by show A.units+1+_<cLine;simp only [D.dep] at hu;omega)
   have l1:=zs.length;have l2:=zs'.length;have l3:=ri.length;have l4:=ri'.length
   show SeqAt.RcAt A s _ _ (D.eqbs c b)
   by_cases hl:c.length=b.length
   ·have:=SeqAt.RcAt.lists (e:=zaA c b) p p' (by simp;omega) hu0 (λj h1 h2=>by have:=key j (by simpa using h1) (by simpa using h2);simpa using this)
    have hm:its.toArray.size=c.length:=by simp;omega
    rw [hm,zb7 c b (λx y=>x.eqb y) hl (zaA c b) (λj x y h1 h2=>by simp [zaA,h1,h2]),<-zcr c b hl] at this;exact this
   ·rw [zcq c b hl]
    exact SeqAt.RcAt.lists_lengths p p' (by simp;omega) hu0
theorem zmI (S:zaM X s H) (x y:D) (A:Around) (v w:V) (u t:Value) (qx:RdD X.K A0 H x v) (qy:RdD X.K A0 H y w) (ru:RelV v u) (rt:RelV w t) (hu:A.units+min x.dep y.dep<cLine):SeqAt.RcNeAt A s u t (!x.eqb y):=by
 have hu0:A.units<cLine:=by omega
 cases vw S qx ru with
 | non=>
  cases vw S qy rt with
  | non=>exact .none_none
  | bl b=>exact .none_bool b
  | int b t=>exact .none_int b t
  | str b t=>exact .none_str _ t
  | tup _ _ _ _ _ _ _ p=>exact .none_tuple p hu0
  | lst _ _ _ _ _ _ _ p=>exact .none_list p hu0
 | bl c=>
  cases vw S qy rt with
  | non=>exact .bool_none c
  | bl b=>exact .bool_bool c b
  | int b t=>exact .bool_int c b t
  | str b t=>exact .bool_str c _ t
  | tup _ _ _ _ _ _ _ p=>exact .bool_tuple c p hu0
  | lst _ _ _ _ _ _ _ p=>exact .bool_list c p hu0
 | int c u=>
  cases vw S qy rt with
  | non=>exact .int_none c u
  | bl b=>exact .int_bool c u b
  | int b t=>exact .int_int c u b t
  | str b t=>exact .int_str c u _ t
  | tup _ _ _ _ _ _ _ p=>exact .int_tuple c u p hu0
  | lst _ _ _ _ _ _ _ p=>exact .int_list c u p hu0
 | str c u=>
  cases vw S qy rt with
  | non=>exact .str_none _ u
  | bl b=>exact .str_bool _ u b
  | int b t=>exact .str_int _ u b t
  | str b t=>have z:=SeqAt.RcNeAt.str_str (A:=A) (s:=s) (zaa c) u (zaa b) t;rw [ze6] at z;exact z
  | tup _ _ _ _ _ _ _ p=>exact .str_tuple _ u p hu0
  | lst _ _ _ _ _ _ _ p=>exact .str_list _ u p hu0
 | tup c a vs its q zs ri p=>
  cases vw S qy rt with
  | non=>exact .tuple_none p hu0
  | bl b=>exact .tuple_bool b p hu0
  | int b t=>exact .tuple_int b t p hu0
  | str b t=>exact .tuple_str _ t p hu0
  | lst _ _ _ _ _ _ _ p'=>exact .tuple_list p p' hu0
  | tup b a' vs' its' q' zs' ri' p'=>
   have key:=pairs_D S c b A.in1 vs vs' its its' zs zs' ri ri' (by show A.units+1+_<cLine;simp only [D.dep] at hu;omega)
   have:=SeqAt.RcNeAt.tuples (e:=zaA c b) p p' hu0 (λj h1 h2=>by have:=key j (by simpa using h1) (by simpa using h2);simpa using this)
   rw [zfs zs zs' ri ri'] at this;exact this
 | lst c a vs its q zs ri p=>
  cases vw S qy rt with
  | non=>exact .list_none p hu0
  | bl b=>exact .list_bool b p hu0
  | int b t=>exact .list_int b t p hu0
  | str b t=>exact .list_str _ t p hu0
  | tup _ _ _ _ _ _ _ p'=>exact .list_tuple p p' hu0
  | lst b a' vs' its' q' zs' ri' p'=>
   have key:=pairs_D S c b A.in1 vs vs' its its' zs zs' ri ri' (by show A.units+1+_<cLine;simp only [D.dep] at hu;omega)
   have l1:=zs.length;have l2:=zs'.length;have l3:=ri.length;have l4:=ri'.length
   show SeqAt.RcNeAt A s _ _ (!D.eqbs c b)
   by_cases hl:c.length=b.length
   ·have:=SeqAt.RcNeAt.lists (e:=zaA c b) p p' (by simp;omega) hu0 (λj h1 h2=>by have:=key j (by simpa using h1) (by simpa using h2);simpa using this)
    have hm:its.toArray.size=c.length:=by simp;omega
    rw [hm,zb7 c b (λx y=>x.eqb y) hl (zaA c b) (λj x y h1 h2=>by simp [zaA,h1,h2]),<-zcr c b hl] at this;exact this
   ·rw [zcq c b hl]
    exact SeqAt.RcNeAt.lists_lengths p p' (by simp;omega) hu0
end
section
variable {X:Cx}
theorem zlK:OpR X (binaryOp .Add) (λx y H Q=>∃ a b ys,x=.ref a/\y=.ref b/\SqT X.K H a []/\SqT X.K H b ys/\Q (.ref b) H):=by
 intro pins s σ H x y v u Q I rx ry h;obtain ⟨a,b,ys,rfl,rfl,ha,hb,q⟩:=h
 cases rx;cases ry
 obtain ⟨its,r1,p1,_⟩:=I.tuple ha;obtain ⟨its2,r2,p2,_⟩:=I.tuple hb;have hi:its=[]:=r1.nil_iff.mpr rfl;subst hi;obtain ⟨⟨cls,dd,data,sl⟩,ho,hc,n,hd⟩:=id p1;obtain ⟨⟨cls2,dd2,data2,sl2⟩,ho2,hc2,n2,hd2⟩:=id p2;simp only at hc hd hc2 hd2;subst hc hd hc2 hd2;refine PySem.concat_meets ⟨_,ho,rfl⟩ ⟨_,ho2,rfl⟩ PySem.noFill_tuple_add PySem.seq_tuple_add PySem.F.slot_tuple_add PySem.F.entry_tuple_add (PySem.F.args_tuple_add_2 _ _) (PyProof.Rows.tuple_addW0 a b _ its2.toArray n n2 dd dd2 sl sl2 ?_) ⟨ho,ho2,?_⟩
 ·rfl
 ·exact ⟨.ref b,H,I,rfl,q⟩
theorem zjl (h1:0<=i) (h2:0<=j):Builtin.bitAnd i j=((i.toNat &&& j.toNat:Nat):Int):=by
 unfold Builtin.bitAnd;rw [decide_eq_true h1,decide_eq_true h2]
theorem zmX (h1:0<=i) (h2:0<=j):Builtin.bitOr i j=((i.toNat ||| j.toNat:Nat):Int):=by
 unfold Builtin.bitOr Builtin.bitAnd Builtin.bitNot;rw [decide_eq_false (show ¬ 0<=-i-1 by omega),decide_eq_false (show ¬ 0<=-j-1 by omega)];simp only;rw [show-(-i-1)-1=i by omega,show-(-j-1)-1=j by omega];omega
theorem zl1:OpD X (binaryOp .BitAnd) (bop .band):=by
 intro pins s σ H v u v' u' Q I rv ru q;obtain ⟨μ,h,a,b,z,R0,qa,qb,e,k⟩:=q
 cases a with
 | int i=>
  cases b with
  | int j=>
   simp only [RdD,RepD] at qa qb
   (change (if _=true then _ else _)=some _ at e;simp only [Bool.and_eq_true,decide_eq_true_eq] at e)
   split at e
   ·rename_i hf
    cases e
    exact zp8 pins s σ H v u v' u' Q I rv ru ⟨i,j,qa,qb,by show Q (V.int (Builtin.bitAnd i j)) H;rw [zjl hf.1 hf.2];exact k μ H _ Stp.refl R0 (by simp only [RepD])⟩
   ·cases e
  | _=>exact zad e
 | _=>cases b<;>exact zad e
theorem zoB:OpD X (binaryOp .BitOr) (bop .bor):=by
 intro pins s σ H v u v' u' Q I rv ru q;obtain ⟨μ,h,a,b,z,R0,qa,qb,e,k⟩:=q
 cases a with
 | int i=>
  cases b with
  | int j=>
   simp only [RdD,RepD] at qa qb
   (change (if _=true then _ else _)=some _ at e;simp only [Bool.and_eq_true,decide_eq_true_eq] at e)
   split at e
   ·rename_i hf
    cases e
    exact zsK pins s σ H v u v' u' Q I rv ru ⟨i,j,qa,qb,by show Q (V.int (Builtin.bitOr i j)) H;rw [zmX hf.1 hf.2];exact k μ H _ Stp.refl R0 (by simp only [RepD])⟩
   ·cases e
  | _=>exact zad e
 | _=>cases b<;>exact zad e
theorem zov:OpD X (binaryOp .Add) (bop .add):=by
 intro pins s σ H v u v' u' Q I rv ru q;obtain ⟨μ,h,a,b,z,R0,qa,qb,e,k⟩:=q
 cases a with
 | int i=>
  cases b with
  | int j=>
   simp only [RdD,RepD] at qa qb;replace e:=Option.some.inj e;subst e;exact zqA pins s σ H v u v' u' Q I rv ru ⟨i,j,qa,qb,k μ H _ Stp.refl R0 (by simp only [RepD])⟩
  | _=>exact zad e
 | str x=>
  cases b with
  | str y=>
   simp only [RdD,RepD] at qa qb;change (if _=true then _ else _)=some _ at e
   split at e
   ·rename_i hf
    cases e
    exact zi3 pins s σ H v u v' u' Q I rv ru ⟨zaa x,zaa y,qa,qb,by rw [zae,zae];exact of_decide_eq_true hf,by rw [zjI];exact k μ H _ Stp.refl R0 (by simp only [RepD])⟩
   ·cases e
  | _=>exact zad e
 | tup xs=>
  cases b with
  | tup ys=>
   simp only [RdD,RepD] at qa qb;obtain ⟨p,vs,rfl,q1,z1⟩:=qa;obtain ⟨p',vs',rfl,q2,z2⟩:=qb;change (if _=true then _ else _)=some _ at e
   split at e
   ·rename_i hf
    cases e;have l1:=z1.length;have l2:=z2.length;have hlen:xs.length+ys.length<=sizeLine:=of_decide_eq_true hf
    by_cases hv:vs=[]
    ·subst hv
     have hx:xs=[]:=by cases xs with | nil=>rfl | cons _ _=>simp at l1
     subst hx
     exact zlK pins s σ H _ _ v' u' Q I rv ru ⟨p,p',vs',rfl,rfl,q1,q2,k μ H _ Stp.refl R0 (by simp only [RepD];exact ⟨p',vs',rfl,q2,z2⟩)⟩
    refine zox pins s σ H _ _ v' u' Q I rv ru ⟨p,p',vs,vs',rfl,rfl,q1,q2,hv,by omega,λhn=>?_,λ_ r hr=>?_⟩
    ·subst hn
     cases ys with
     | nil=>
      rw [List.append_nil] at k
      exact k μ H _ Stp.refl R0 (by simp only [RepD];exact ⟨p,vs,rfl,q1,z1⟩)
     | cons _ _=>simp at l2
    ·have s2:Stp μ h H μ h (upd H r (.tup (vs++vs'))):=Stp.fresh hr
     refine k μ _ (.ref r) s2 (R0.fresh hr) ?_;simp only [RepD];exact ⟨r,vs++vs',rfl,SqT.of zaj,RepDs.stp s2 R0 (z1.app z2)⟩
   ·cases e
  | _=>exact zad e
 | lst xs=>
  cases b with
  | lst ys=>
   obtain ⟨p,vs,rfl,q1,z1⟩:=qa;obtain ⟨p',vs',rfl,q2,z2⟩:=qb;change (if _=true then _ else _)=some _ at e
   split at e
   ·rename_i hf
    cases e;have l1:=z1.length;have l2:=z2.length;have hlen:xs.length+ys.length<=sizeLine:=of_decide_eq_true hf;refine znS pins s σ H _ _ v' u' Q I rv ru ⟨p,p',vs,vs',rfl,rfl,q1,q2,by omega,λr hr=>?_⟩;have s2:Stp μ h H μ h (upd H r (.lst (vs++vs'))):=Stp.fresh hr;refine k μ _ (.ref r) s2 (R0.fresh hr) ?_;simp only [RepD];refine ⟨r,vs++vs',rfl,.inl ⟨λl=>?_,.inl zaj⟩,RepDs.stp s2 R0 (z1.app z2)⟩;obtain ⟨ws,w,_⟩:=R0.liveAt l
    rw [hr] at w;cases w
   ·cases e
  | _=>exact zad e
 | _=>cases b<;>exact zad e
theorem znV:OpD X (binaryOp .Pow) (bop .pow):=by
 intro pins s σ H v u v' u' Q I rv ru q;obtain ⟨μ,h,a,b,z,R0,qa,qb,e,k⟩:=q
 cases a with
 | int i=>
  cases b with
  | int j=>
   simp only [RdD,RepD] at qa qb;change (if _=true then _ else _)=some _ at e
   split at e
   ·rename_i hf
    simp only [Bool.and_eq_true] at hf;cases e;exact zp0 pins s σ H v u v' u' Q I rv ru ⟨i,j,qa,qb,⟨of_decide_eq_true hf.1.1,of_decide_eq_true hf.1.2,of_decide_eq_true hf.2⟩,k μ H _ Stp.refl R0 (by simp only [RepD])⟩
   ·cases e
  | _=>exact zad e
 | _=>cases b<;>exact zad e
theorem zob:OpD X (binaryOp .Sub) (bop .sub):=by
 intro pins s σ H v u v' u' Q I rv ru q;obtain ⟨μ,h,a,b,z,R0,qa,qb,e,k⟩:=q
 cases a with
 | int i=>
  cases b with
  | int j=>
   simp only [RdD,RepD] at qa qb;replace e:=Option.some.inj e;subst e;exact zq3 pins s σ H v u v' u' Q I rv ru ⟨i,j,qa,qb,k μ H _ Stp.refl R0 (by simp only [RepD])⟩
  | _=>exact zad e
 | _=>cases b<;>exact zad e
theorem zm2:OpD X (binaryOp .FloorDiv) (bop .fdiv):=by
 intro pins s σ H v u v' u' Q I rv ru q;obtain ⟨μ,h,a,b,z,R0,qa,qb,e,k⟩:=q
 cases a with
 | int i=>
  cases b with
  | int j=>
   simp only [RdD,RepD] at qa qb;change (if _=true then _ else _)=some _ at e
   split at e
   ·rename_i hf
    rw [Bool.and_eq_true] at hf;cases e;have h0:(0:Int)<j:=of_decide_eq_true hf.1;have h1:j<1000000000000000000000000000000000000000000000000000000000000:=of_decide_eq_true hf.2;subst qa qb;obtain ⟨t1,rfl⟩:=rv;obtain ⟨t2,rfl⟩:=ru;refine PyProof.Rows.floordiv_int (by omega) ?_ (.inl (PyProof.noPylong_of_log2 ?_))
    ·have ef:i.fdiv j=i / j:=Int.fdiv_eq_ediv_of_nonneg i (by omega)
     rw [ef];exact ⟨.int (i / j),H,I.tok _,⟨_,rfl⟩,k μ H _ Stp.refl R0 (by simp only [RepD])⟩
    ·have hj:j.natAbs<2 ^ 200:=by
      omega
     have hj0:j.natAbs≠0:=by omega
     have:=(Nat.log2_lt hj0).mpr hj
     omega
   ·cases e
  | _=>exact zad e
 | _=>cases b<;>exact zad e
theorem zow:OpD X (binaryOp .Mod) (bop .mod):=by
 intro pins s σ H v u v' u' Q I rv ru q;obtain ⟨μ,h,a,b,z,R0,qa,qb,e,k⟩:=q
 cases a with
 | int i=>
  cases b with
  | int j=>
   simp only [RdD,RepD] at qa qb;change (if _=true then _ else _)=some _ at e
   split at e
   ·rename_i hf
    cases e;exact zqQ pins s σ H v u v' u' Q I rv ru ⟨i,j,qa,qb,of_decide_eq_true hf,k μ H _ Stp.refl R0 (by simp only [RepD])⟩
   ·cases e
  | _=>exact zad e
 | _=>cases b<;>exact zad e
theorem zrj (hu:X.A.units+64<cLine):OpD X (compareOp .Eq) (cop .eq):=by
 intro pins s σ H v u v' u' Q I rv ru q;obtain ⟨μ,h,a,b,z,R0,qa,qb,e,k⟩:=q
 (delta cop at e;(try dsimp only at e))
 split at e
 ·rename_i hf
  cases e;have hd:min a.dep b.dep<=60:=of_decide_eq_true hf;exact zqt (zaB I) a b X.A v u v' u' qa qb rv ru (by omega) X.prog X.w X.xe _ ⟨.bl _,H,I,rfl,k μ H _ Stp.refl R0 (by simp only [RepD])⟩
 ·cases e
theorem zqG (hu:X.A.units+64<cLine):OpD X (compareOp .NotEq) (cop .ne):=by
 intro pins s σ H v u v' u' Q I rv ru q;obtain ⟨μ,h,a,b,z,R0,qa,qb,e,k⟩:=q
 (delta cop at e;(try dsimp only at e))
 split at e
 ·rename_i hf
  cases e;have hd:min a.dep b.dep<=60:=of_decide_eq_true hf;exact zmI (zaB I) a b X.A v u v' u' qa qb rv ru (by omega) X.prog X.w X.xe _ ⟨.bl _,H,I,rfl,k μ H _ Stp.refl R0 (by simp only [RepD])⟩
 ·cases e
theorem zqO:OpD X (compareOp .Lt) (cop .lt):=by
 intro pins s σ H v u v' u' Q I rv ru q;obtain ⟨μ,h,a,b,z,R0,qa,qb,e,k⟩:=q
 cases a with
 | int i=>
  cases b with
  | int j=>
   simp only [RdD,RepD] at qa qb;replace e:=Option.some.inj e;subst e;exact zr4 pins s σ H v u v' u' Q I rv ru ⟨i,j,qa,qb,k μ H _ Stp.refl R0 (by simp only [RepD])⟩
  | _=>exact zad e
 | _=>cases b<;>exact zad e
theorem zqY:OpD X (compareOp .LtE) (cop .le):=by
 intro pins s σ H v u v' u' Q I rv ru q;obtain ⟨μ,h,a,b,z,R0,qa,qb,e,k⟩:=q
 cases a with
 | int i=>
  cases b with
  | int j=>
   simp only [RdD,RepD] at qa qb;replace e:=Option.some.inj e;subst e;exact zrP pins s σ H v u v' u' Q I rv ru ⟨i,j,qa,qb,k μ H _ Stp.refl R0 (by simp only [RepD])⟩
  | _=>exact zad e
 | _=>cases b<;>exact zad e
theorem zrz:OpD X (compareOp .Gt) (cop .gt):=by
 intro pins s σ H v u v' u' Q I rv ru q;obtain ⟨μ,h,a,b,z,R0,qa,qb,e,k⟩:=q
 cases a with
 | int i=>
  cases b with
  | int j=>
   simp only [RdD,RepD] at qa qb;replace e:=Option.some.inj e;subst e;exact zsN pins s σ H v u v' u' Q I rv ru ⟨i,j,qa,qb,k μ H _ Stp.refl R0 (by simp only [RepD])⟩
  | _=>exact zad e
 | _=>cases b<;>exact zad e
theorem zqU:OpD X (compareOp .GtE) (cop .ge):=by
 intro pins s σ H v u v' u' Q I rv ru q;obtain ⟨μ,h,a,b,z,R0,qa,qb,e,k⟩:=q
 cases a with
 | int i=>
  cases b with
  | int j=>
   simp only [RdD,RepD] at qa qb;replace e:=Option.some.inj e;subst e;exact zrY pins s σ H v u v' u' Q I rv ru ⟨i,j,qa,qb,k μ H _ Stp.refl R0 (by simp only [RepD])⟩
  | _=>exact zad e
 | _=>cases b<;>exact zad e
theorem zfV (hu:X.A.units+64<cLine) (I:Inv X pins σ H s) (qa:RdD X.K (Live μ h) H a v) (rv:RelV v v') (hd:a.dep<=60)
  {xs:List D} {ws:List V} {its:List Value} (q:RepDs X.K (Live μ h) H xs ws) (r:Vals ws its) :
  ∃ f:Value->Bool,(∀ y,y∈its.toArray->SeqAt.EqAt X.A.in1 s y v' (f y))/\∀ (j:Nat) (x:D) (y:Value),xs[j]?=some x->its[j]?=some y->f y=x.eqb a:=by
 have S:=zaB I
 classical
 have base:∀ (y:Value) (x:D) (w:V),RepD X.K (Live μ h) H x w->RelV w y->SeqAt.EqAt X.A.in1 s y v' (x.eqb a):=λy x w qx rx=>
  znG S x a X.A.in1 w v y v' (RdD.of qx) qa rx rv (by show X.A.units+1+_<cLine;omega)
 have at':∀ (j:Nat) (y:Value),its[j]?=some y->∃ x w,xs[j]?=some x/\RepD X.K (Live μ h) H x w/\RelV w y:=by
  intro j y hy;have hj:j<its.length:=(List.getElem?_eq_some_iff.mp hy).1
  have hj2:j<ws.length:=by rw [r.length];exact hj
  obtain ⟨x,hx,qx⟩:=q.get' (List.getElem?_eq_getElem hj2);obtain ⟨u,hu',ru⟩:=r.get (List.getElem?_eq_getElem hj2);rw [hy] at hu';cases hu';exact ⟨x,_,hx,qx,ru⟩
 refine ⟨λy=>decide (∃ (x:D) (w:V),RepD X.K (Live μ h) H x w/\RelV w y/\x.eqb a=true),λy hy=>?_,λj x y hx hy=>?_⟩
 ·obtain ⟨j,hj⟩:=List.getElem?_of_mem (show y∈its by simpa using hy)
  obtain ⟨x,w,hx,qx,rx⟩:=at' j y hj;dsimp only
  by_cases hx':∃ (x:D) (w:V),RepD X.K (Live μ h) H x w/\RelV w y/\x.eqb a=true
  ·rw [decide_eq_true hx']
   obtain ⟨x',w',q',r',e'⟩:=hx';rw [<-e'];exact base y x' w' q' r'
  ·rw [decide_eq_false hx']
   cases ex:x.eqb a with
   | true=>exact absurd ⟨x,_,qx,rx,ex⟩ hx'
   | false=>rw [<-ex];exact base y x _ qx rx
 ·obtain ⟨x1,w,hx1,qx,rx⟩:=at' j y hy
  rw [hx] at hx1;cases hx1;dsimp only
  cases ex:x.eqb a with
  | true=>exact decide_eq_true ⟨x,w,qx,rx,ex⟩
  | false=>
   refine decide_eq_false λq_=>?_;obtain ⟨x',w',q',r',e'⟩:=q_;have ew:=RelV.inj rx r';rw [RepD.inj S x x' w' (ew▸qx) q'] at ex;rw [ex] at e';cases e'
theorem zfc (hu:X.A.units+64<cLine) (I:Inv X pins σ H s) (qa:RdD X.K (Live μ h) H a v) (rv:RelV v v') (hd:a.dep<=60)
  {xs:List D} {ws:List V} {its:List Value} (q:RepDs X.K (Live μ h) H xs ws) (r:Vals ws its) :
  ∃ f:Value->Bool,(∀ y,y∈its.toArray->SeqAt.EqAt X.A.in1 s y v' (f y))/\its.toArray.any f=xs.any λy=>y.eqb a:=by
 obtain ⟨f,f1,f2⟩:=zfV hu I qa rv hd q r;refine ⟨f,f1,?_⟩;have l1:=q.length;have l2:=r.length
 have e:its.map f=xs.map λy=>y.eqb a:=List.ext_getElem? λj=>by
  rw [List.getElem?_map,List.getElem?_map]
  by_cases c:j<xs.length
  ·have c2:j<its.length:=by omega
   rw [List.getElem?_eq_getElem c,List.getElem?_eq_getElem c2];exact congrArg some (f2 j _ _ (List.getElem?_eq_getElem c) (List.getElem?_eq_getElem c2))
  ·rw [List.getElem?_eq_none (by omega),List.getElem?_eq_none (by omega)];rfl
 have:=congrArg (List.any · id) e
 simpa [List.any_map] using this
theorem zmD (hu:X.A.units+64<cLine):OpD X (compareOp .In) (cop .isin):=by
 intro pins s σ H v u v' u' Q I rv ru q;obtain ⟨μ,h,a,b,z,R0,qa,qb,e,k⟩:=q;have S:=zaB I
 (delta cop at e;(try dsimp only at e))
 cases b with
 | tup ys=>
  simp only [items] at e
  split at e
  ·rename_i hf
   cases e;simp only [RdD,RepD] at qb;obtain ⟨p,vs,rfl,q1,z1⟩:=qb;cases ru;obtain ⟨its,r1,p1⟩:=S.tup p vs q1;obtain ⟨f,hf1,hf2⟩:=zfc hu I qa rv (of_decide_eq_true hf) z1 r1
   exact SeqAt.in_tupleAt f p1 hf1 ⟨.bl _,H,I,rfl,by rw [hf2];exact k μ H _ Stp.refl R0 (by simp only [RepD])⟩
  ·cases e
 | lst ys=>
  simp only [items] at e
  split at e
  ·rename_i hf
   cases e;obtain ⟨p,vs,rfl,q1,z1⟩:=qb;cases ru;obtain ⟨its,r1,p1⟩:=S.lst p vs q1;obtain ⟨f,hf1,hf2⟩:=zfc hu I qa rv (of_decide_eq_true hf) z1 r1
   exact SeqAt.in_listAt f p1 hf1 ⟨.bl _,H,I,rfl,by rw [hf2];exact k μ H _ Stp.refl R0 (by simp only [RepD])⟩
  ·cases e
 | str x=>
  simp only [items] at e
  cases a with
  | str y=>
   cases e;simp only [RdD,RepD] at qa qb;subst qa qb;refine zjX pins s σ H _ _ v' u' Q I rv ru ⟨zaa y,zaa x,rfl,rfl,?_⟩;rw [zns];exact k μ H _ Stp.refl R0 (by simp only [RepD])
  | _=>cases e
 | _=>simp [items] at e
theorem zkZ (hu:X.A.units+64<cLine):OpD X (compareOp .NotIn) (cop .notin):=by
 intro pins s σ H v u v' u' Q I rv ru q;obtain ⟨μ,h,a,b,z,R0,qa,qb,e,k⟩:=q;have S:=zaB I
 (delta cop at e;(try dsimp only at e))
 cases b with
 | tup ys=>
  simp only [items] at e
  split at e
  ·rename_i hf
   cases e;simp only [RdD,RepD] at qb;obtain ⟨p,vs,rfl,q1,z1⟩:=qb;cases ru;obtain ⟨its,r1,p1⟩:=S.tup p vs q1;obtain ⟨f,hf1,hf2⟩:=zfc hu I qa rv (of_decide_eq_true hf) z1 r1
   exact SeqAt.notIn_tupleAt f p1 hf1 ⟨.bl _,H,I,rfl,by rw [hf2];exact k μ H _ Stp.refl R0 (by simp only [RepD])⟩
  ·cases e
 | lst ys=>
  simp only [items] at e
  split at e
  ·rename_i hf
   cases e;obtain ⟨p,vs,rfl,q1,z1⟩:=qb;cases ru;obtain ⟨its,r1,p1⟩:=S.lst p vs q1;obtain ⟨f,hf1,hf2⟩:=zfc hu I qa rv (of_decide_eq_true hf) z1 r1
   exact SeqAt.notIn_listAt f p1 hf1 ⟨.bl _,H,I,rfl,by rw [hf2];exact k μ H _ Stp.refl R0 (by simp only [RepD])⟩
  ·cases e
 | str x=>
  simp only [items] at e
  cases a with
  | str y=>
   cases e;simp only [RdD,RepD] at qa qb;subst qa qb;refine zgj pins s σ H _ _ v' u' Q I rv ru ⟨zaa y,zaa x,rfl,rfl,?_⟩;rw [zns];exact k μ H _ Stp.refl R0 (by simp only [RepD])
  | _=>cases e
 | _=>simp [items] at e
end
end IT
namespace PySem
open Sem (wp)
open Builtin
theorem zb5:fillsNumberSlot (.type "tuple") "mul"=pure false:=
 fillsNumberSlot_seq (id:="tuple.__mul__") (r:=some (.builtin "tuple.__rmul__")) F.slot_tuple_mul.lookup (by decide +kernel) F.slot_tuple_rmul.lookup (by decide +kernel)
theorem zdV:seqRepeat? (.type "tuple")=pure (some (.builtin "tuple.__mul__")):=by
 unfold seqRepeat?;rw [seqSlot_of (T:="tuple") (name:="__mul__") (id:="tuple.__mul__") F.slot_tuple_mul.lookup (by decide +kernel),seqSlot_of (T:="tuple") (name:="__rmul__") (id:="tuple.__rmul__") F.slot_tuple_rmul.lookup (by decide +kernel)];rfl
theorem zfl (a:Int) (t:Tok) (l:Addr) (items:Array Value) (n:Nat) (dd:Option Addr) (sl:Array (Option Value)) :
  Meets (Builtin.«int.__rmul__» ⟨[.int a t,.ref l],[]⟩) (λ_ R s=>s.heap.get? l=some { cls:=.type "tuple",dict:=dd,data:=.seq items n,slots:=sl }/\R (.ok (.ret Value.notImplemented)) s):=
 .of_wp λprog w A R s h=>by obtain ⟨hp,g,d,tk,os⟩:=s;obtain ⟨hl,h⟩:=h;wp_walk;exact ⟨_,rfl,h⟩
theorem zfx (t:Tok) (l:Addr) (items:Array Value) (n:Nat) (dd:Option Addr) (sl:Array (Option Value)) :
  Meets (Builtin.«tuple.__mul__» ⟨[.ref l,.int 1 t],[]⟩) (λ_ R s=>s.heap.get? l=some { cls:=.type "tuple",dict:=dd,data:=.seq items n,slots:=sl }/\R (.ok (.ret (.ref l))) s):=
 .of_wp λprog w A R s h=>by obtain ⟨hp,g,d,tk,os⟩:=s;obtain ⟨hl,h⟩:=h;wp_walk;exact ⟨_,rfl,h⟩
theorem zfB (t:Tok) (l:Addr) (items:Array Value) (n:Nat) (dd:Option Addr) (sl:Array (Option Value)) (hc:items.isEmpty=false) :
  Meets (Builtin.«tuple.__mul__» ⟨[.ref l,.int 0 t],[]⟩) (λ_ R s=>s.heap.get? l=some { cls:=.type "tuple",dict:=dd,data:=.seq items n,slots:=sl }/\R (.ok (.ret (.ref s.heap.objs.size))) { s with heap:=s.heap.push { cls:=.type "tuple",data:=.seq #[] } }):=
 .of_wp λprog w A R s h=>by obtain ⟨hp,g,d,tk,os⟩:=s;obtain ⟨hl,h⟩:=h;wp_walk;exact ⟨_,rfl,h⟩
theorem zbV (items:Array Value):∀ (m:Nat) (acc:Array Value),((List.replicate m items).foldl (·++·) acc).toList=acc.toList++(List.replicate m items.toList).flatten
 | 0,acc=>by simp
 | m+1,acc=>by rw [List.replicate_succ,List.foldl_cons,zbV items m,List.replicate_succ,List.flatten_cons,Array.toList_append,List.append_assoc]
theorem zhs (items:Array Value) (m:Nat):((List.replicate m items).foldl (·++·) #[]).size=items.size*m:=by
 rw [<-Array.length_toList,zbV]
 induction m with
 | zero=>simp
 | succ m ih=>
  rw [List.replicate_succ,List.flatten_cons,<-List.append_assoc];simp only [List.length_append,List.nil_append] at ih ⊢;rw [Array.length_toList,Nat.mul_succ];omega
theorem ze7 (k:Int) (t:Tok) (l:Addr) (items:Array Value) (n:Nat) (dd:Option Addr) (sl:Array (Option Value)) (hc:items.isEmpty=false) (h1:1<k) (h2:k<=16777216) (h3:items.size*k.toNat<=sizeLine) :
  Meets (Builtin.«tuple.__mul__» ⟨[.ref l,.int k t],[]⟩) (λ_ R s=>s.heap.get? l=some { cls:=.type "tuple",dict:=dd,data:=.seq items n,slots:=sl }/\R (.ok (.ret (.ref s.heap.objs.size))) { s with heap:=s.heap.push { cls:=.type "tuple",data:=.seq ((List.replicate k.toNat items).foldl (·++·) #[]) } }):=
 .of_wp λprog w A R s h=>by
  obtain ⟨hp,g,d,tk,os⟩:=s;obtain ⟨hl,h⟩:=h
  have hk:(items.size:Int)*k=((items.size*k.toNat:Nat):Int):=by
   rw [Int.natCast_mul,Int.toNat_of_nonneg (by omega)]
  rw [sizeLine_eq] at h3
  have c1:(decide (k < -(2 ^ 63))||decide (k ≥ 2 ^ 63))=false:=by simp;omega
  have c2:(items.isEmpty||k==1)=false:=by rw [hc];simp;omega
  have c3:(decide (k<=0)||items.isEmpty)=false:=by rw [hc];simp;omega
  have c4:¬ ((items.size:Int)*k>(2 ^ 63-1) / 8):=by rw [hk];omega
  have c5:Tuple.tupleTooMany ((items.size:Int)*k)=false:=by
   rw [hk];unfold Tuple.tupleTooMany;rw [sizeLine_eq];exact decide_eq_false (by omega)
  wp_walk
  rw [if_neg (by rw [c1];decide)]
  wp_walk
  dsimp only
  rw [if_neg (by rw [c2];decide)]
  rw [if_neg (by rw [c3];decide)]
  rw [if_neg c4]
  rw [if_neg (by rw [c5];decide)]
  wp_walk
  rw [if_neg (by rw [zhs,sizeLine_eq];omega)]
  wp_walk
  exact ⟨_,rfl,h⟩
end PySem
namespace IT
open PySem PySem.Spec L2
section
variable {X:Cx}
theorem Vals.rep (r:Vals xs us):∀ m:Nat,Vals (List.replicate m xs).flatten (List.replicate m us).flatten
 | 0=>.nil
 | m+1=>by rw [List.replicate_succ,List.replicate_succ,List.flatten_cons,List.flatten_cons];exact r.append (Vals.rep r m)
theorem RepDs.rep (q:RepDs K A H xs vs):∀ m:Nat,RepDs K A H (List.replicate m xs).flatten (List.replicate m vs).flatten
 | 0=>.nil
 | m+1=>by rw [List.replicate_succ,List.replicate_succ,List.flatten_cons,List.flatten_cons];exact q.app (RepDs.rep q m)
theorem zjB {α:Type} (xs:List α):∀ m:Nat,(List.replicate m xs).flatten.length=xs.length*m
 | 0=>by simp
 | m+1=>by rw [List.replicate_succ,List.flatten_cons,List.length_append,zjB xs m,Nat.mul_succ,Nat.add_comm]
theorem zhD:OpR X (binaryOp .Mult) (λx y H Q=>∃ p k xs,x=.ref p/\y=.int k/\SqT X.K H p xs/\xs≠[]/\((k=1/\Q (.ref p) H)\/(k=0/\∀ r,H r=none->Q (.ref r) (upd H r (.tup []))) ∨
  (1<k/\k<=16777216/\xs.length*k.toNat<=sizeLine/\∀ r,H r=none->Q (.ref r) (upd H r (.tup (List.replicate k.toNat xs).flatten))))):=by
 intro pins s σ H x y v u Q I rx ry q;obtain ⟨p,k,xs,rfl,rfl,hq,hn,q⟩:=q;cases rx;obtain ⟨t,rfl⟩:=ry;obtain ⟨its,r,pt,hz⟩:=I.tuple hq;have hl:=r.length;obtain ⟨⟨cls,dd,data,sl⟩,ho,hc,n,hd⟩:=id pt;simp only at hc hd;subst hc hd
 have hne:its.toArray.isEmpty=false:=by
  cases its with
  | nil=>cases xs with
   | nil=>exact absurd rfl hn
   | cons _ _=>simp at hl
  | cons _ _=>simp
 refine wpAny_binaryOp_repeat_ref (T:="tuple") (U:="int") (by decide) ⟨_,ho,rfl⟩ (λs'=>typeIs_int s' k t) zb5 F.fills_int_mul F.slot_int_rmul zdV F.slot_int_index.lookup
  (call_meets F.slot_int_rmul (typeIs_int s k t) F.entry_int_rmul (F.args_int_rmul_2 _ _) (zfl k t p its.toArray n dd sl)
   ⟨ho,rfl,⟨_,ho,rfl⟩,?_⟩)
 rcases q with ⟨rfl,q⟩ | ⟨rfl,q⟩ | ⟨k1,k2,k3,q⟩
 ·exact call_meets F.slot_tuple_mul ⟨_,ho,rfl⟩ F.entry_tuple_mul (F.args_tuple_mul_2 _ _) (zfx t p its.toArray n dd sl) ⟨ho,⟨.ref p,H,I,rfl,q⟩⟩
 ·refine call_meets F.slot_tuple_mul ⟨_,ho,rfl⟩ F.entry_tuple_mul (F.args_tuple_mul_2 _ _) (zfB t p its.toArray n dd sl hne) ⟨ho,?_⟩
  have hf:H s.heap.objs.size=none:=I.hok.fresh (Nat.le_refl _);refine ⟨.ref s.heap.objs.size,upd H s.heap.objs.size (.tup []),I.laid (t':=s.toks) (λb u e=>Heap.get?_push_of_some _ e) (Nat.le_refl _) ?_,rfl,q _ hf⟩;exact ⟨Nat.zero_le _,[],.nil,zbm.new _ _⟩
 ·refine call_meets F.slot_tuple_mul ⟨_,ho,rfl⟩ F.entry_tuple_mul (F.args_tuple_mul_2 _ _) (ze7 k t p its.toArray n dd sl hne k1 k2 (by rw [List.size_toArray,<-hl];exact k3)) ⟨ho,?_⟩
  have hf:H s.heap.objs.size=none:=I.hok.fresh (Nat.le_refl _)
  have e:(List.replicate k.toNat its.toArray).foldl (·++·) #[]=((List.replicate k.toNat its).flatten).toArray:=by
   apply Array.ext';rw [zbV];simp
  rw [e];refine ⟨.ref s.heap.objs.size,upd H s.heap.objs.size (.tup (List.replicate k.toNat xs).flatten),I.laid (t':=s.toks) (λb u e=>Heap.get?_push_of_some _ e) (Nat.le_refl _) ?_,rfl,q _ hf⟩
  exact ⟨by rw [zjB];exact k3,_,Vals.rep r _,zbm.new _ _⟩
theorem znJ:OpD X (binaryOp .Mult) (bop .mul):=by
 intro pins s σ H v u v' u' Q I rv ru q;obtain ⟨μ,h,a,b,z,R0,qa,qb,e,k⟩:=q
 cases a with
 | int i=>
  cases b with
  | int j=>
   simp only [RdD,RepD] at qa qb;change (if _=true then _ else _)=some _ at e
   split at e
   ·rename_i hf
    cases e;refine zpR pins s σ H v u v' u' Q I rv ru ⟨i,j,qa,qb,?_,k μ H _ Stp.refl R0 (by simp only [RepD])⟩;rw [Bool.or_eq_true] at hf
    rcases hf with hf | hf
    ·simp only [zgo,Bool.and_eq_true] at hf
     exact .inl ⟨of_decide_eq_true hf.1,of_decide_eq_true hf.2⟩
    ·simp only [zgo,Bool.and_eq_true] at hf
     exact .inr ⟨of_decide_eq_true hf.1,of_decide_eq_true hf.2⟩
   ·cases e
  | _=>exact zad e
 | tup xs=>
  cases b with
  | int j=>
   simp only [RdD,RepD] at qa qb;obtain ⟨p,vs,rfl,q1,z1⟩:=qa;have l1:=z1.length;change (if _=true then _ else _)=some _ at e
   split at e
   ·cases e
   ·rename_i hne
    cases e;simp only [Bool.or_eq_true,Bool.not_eq_true',not_or,decide_eq_true_eq] at hne;obtain ⟨⟨⟨n1,n2⟩,n3⟩,n4⟩:=hne
    have n4:fit (xs.length*j.toNat)=true:=by simpa using n4
    have n4:xs.length*j.toNat<=sizeLine:=of_decide_eq_true n4
    have hn:vs≠[]:=by
     rintro rfl
     cases xs with
     | nil=>simp at n1
     | cons _ _=>simp at l1
    by_cases h0:j=0
    ·subst h0
     refine zhD pins s σ H _ u v' u' Q I rv ru ⟨p,0,vs,rfl,qb,q1,hn,.inr (.inl ⟨rfl,λr hr=>?_⟩)⟩;have s2:Stp μ h H μ h (upd H r (.tup [])):=Stp.fresh hr;refine k μ _ (.ref r) s2 (R0.fresh hr) ?_;simp only [RepD];exact ⟨r,[],rfl,SqT.of zaj,.nil⟩
    ·by_cases h1:j=1
     ·subst h1
      refine zhD pins s σ H _ u v' u' Q I rv ru ⟨p,1,vs,rfl,qb,q1,hn,.inl ⟨rfl,k μ H _ Stp.refl R0 ?_⟩⟩;simp only [RepD];rw [show (List.replicate (1:Int).toNat xs).flatten=xs from by simp];exact ⟨p,vs,rfl,q1,z1⟩
     ·refine zhD pins s σ H _ u v' u' Q I rv ru ⟨p,j,vs,rfl,qb,q1,hn,.inr (.inr ⟨by omega,by omega,by rw [<-l1];exact n4,λr hr=>?_⟩)⟩
      have s2:Stp μ h H μ h (upd H r (.tup (List.replicate j.toNat vs).flatten)):=Stp.fresh hr;refine k μ _ (.ref r) s2 (R0.fresh hr) ?_;simp only [RepD];exact ⟨r,_,rfl,SqT.of zaj,RepDs.stp s2 R0 (RepDs.rep z1 _)⟩
  | _=>exact zad e
 | _=>cases b<;>exact zad e
theorem zh5 (q:RdD K A0 H a v):decide (v=.non)=zoy a:=by
 cases a with
 | non=>simp only [RdD,RepD] at q;subst q;rfl
 | bl b=>simp only [RdD,RepD] at q;subst q;rfl
 | int b=>simp only [RdD,RepD] at q;subst q;rfl
 | str b=>simp only [RdD,RepD] at q;subst q;rfl
 | tup b=>simp only [RdD,RepD] at q;obtain ⟨p,vs,rfl,_⟩:=q;rfl
 | lst b=>obtain ⟨p,vs,rfl,_⟩:=q;rfl
theorem zoO:OpD X (compareOp .Is) (cop .isN):=by
 intro pins s σ H v u v' u' Q I rv ru q;obtain ⟨μ,h,a,b,z,R0,qa,qb,e,k⟩:=q
 cases b with
 | non=>
  simp only [RdD,RepD] at qb;replace e:=Option.some.inj e;subst e
  exact zrK pins s σ H v u v' u' Q I rv ru ⟨qb,by rw [zh5 qa];exact k μ H _ Stp.refl R0 (by simp only [RepD])⟩
 | bl c=>
  cases a with
  | bl d=>
   simp only [RdD,RepD] at qa qb;replace e:=Option.some.inj e;subst e qa qb;have e1:v'=Value.bool d:=rv;have e2:u'=Value.bool c:=ru;subst e1 e2;exact PyProof.Rows.is_bool ⟨.bl (d==c),H,I,rfl,k μ H _ Stp.refl R0 (by simp only [RepD])⟩
  | _=>exact zad e
 | _=>cases a<;>exact zad e
theorem zi1:OpD X (compareOp .IsNot) (cop .isnotN):=by
 intro pins s σ H v u v' u' Q I rv ru q;obtain ⟨μ,h,a,b,z,R0,qa,qb,e,k⟩:=q
 cases b with
 | non=>
  simp only [RdD,RepD] at qb;replace e:=Option.some.inj e;subst e
  exact zof pins s σ H v u v' u' Q I rv ru ⟨qb,by rw [zh5 qa];exact k μ H _ Stp.refl R0 (by simp only [RepD])⟩
 | bl c=>
  cases a with
  | bl d=>
   simp only [RdD,RepD] at qa qb;replace e:=Option.some.inj e;subst e qa qb;have e1:v'=Value.bool d:=rv;have e2:u'=Value.bool c:=ru;subst e1 e2;exact PyProof.Rows.isnot_bool ⟨.bl (d != c),H,I,rfl,k μ H _ Stp.refl R0 (by simp only [RepD])⟩
  | _=>exact zad e
 | _=>cases a<;>exact zad e
theorem zjy {α:Type} {xs:List α} {i:Int} {x:α} (e:at' xs i=some x):∃ j,ixN xs.length i=some j/\xs[j]?=some x:=by
 unfold at' at e
 cases q:ixn xs.length i with
 | none=>rw [q] at e;cases e
 | some j=>rw [q] at e;exact ⟨j,q,e⟩
theorem ix':IxR X (λv u H Q=>∃ μ h a b z,Rep X.K μ h H/\RdD X.K (Live μ h) H a v/\RdD X.K (Live μ h) H b u/\idxD a b=some z/\∀ μ' H' w,Stp μ h H μ' h H'->Rep X.K μ' h H'->RepD X.K (Live μ' h) H' z w->Q w H'):=by
 intro value slice pins s σ H v u v' u' Q I rv ru q hs;obtain ⟨μ,h,a,b,z,R0,qa,qb,e,k⟩:=q
 cases a with
 | tup xs=>
  cases b with
  | int i=>
   simp only [RdD,RepD] at qa qb;obtain ⟨p,vs,rfl,q1,z1⟩:=qa;obtain ⟨j,e1,e2⟩:=zjy (show at' xs i=some z from e);obtain ⟨w,e3,qw⟩:=z1.get e2;refine zrd value slice pins s σ H _ u v' u' Q I rv ru ⟨p,vs,i,w,rfl,qb,q1,?_,k μ H w Stp.refl R0 qw⟩ hs;unfold atI;rw [<-z1.length,e1];exact e3
  | _=>exact zad e
 | lst xs=>
  cases b with
  | int i=>
   simp only [RdD,RepD] at qb;obtain ⟨p,vs,rfl,q1,z1⟩:=qa;obtain ⟨j,e1,e2⟩:=zjy (show at' xs i=some z from e);obtain ⟨w,e3,qw⟩:=z1.get e2;refine zn2 value slice pins s σ H _ u v' u' Q I rv ru ⟨p,vs,i,w,rfl,qb,q1,?_,k μ H w Stp.refl R0 qw⟩ hs;unfold atI;rw [<-z1.length,e1];exact e3
  | _=>exact zad e
 | str x=>
  cases b with
  | int i=>
   simp only [RdD,RepD] at qa qb
   (delta idxD at e;(try dsimp only at e))
   split at e
   ·rename_i hf
    cases ec:at' x i with
    | none=>rw [ec] at e;cases e
    | some c=>
     rw [ec] at e;cases e;obtain ⟨j,e1,e2⟩:=zjy ec
     refine zqE value slice pins s σ H _ u v' u' Q I rv ru ⟨zaa x,i,c,qa,qb,by rw [zae];exact of_decide_eq_true hf,?_,k μ H _ Stp.refl R0 (by simp only [RepD];rfl)⟩ hs
     show atI x i=some c;unfold atI;rw [e1];exact e2
   ·cases e
  | _=>exact zad e
 | _=>exact zad e
theorem zpZ (ha:IE X a f) (hb:IE X b g) (hs:zg5 b):IE X (.Subscript a b pos) (λσ=>bnd (f σ) λx=>bnd (g σ) λy=>mD idxD x y):=by
 refine PE.imp (zsa ix' ha hb hs) λσ H Q q=>?_;obtain ⟨μ,h,env,R0,re,r,h',e,k⟩:=q;simp only [mD,zab,zac,zas] at e;obtain ⟨x,h1,e1,y,h2,e2,dx,h3,e3,dy,h4,e4,z,h5,⟨e5,rfl⟩,rfl,rfl⟩:=e;refine ⟨μ,h,env,R0,re,x,h1,e1,λμ1 H1 v s1 R1 q1=>⟨μ1,h1,env,R1,re.stp s1 R0,y,h2,e2,λμ2 H2 u s2 R2 q2=>?_⟩⟩;obtain ⟨rfl,zx⟩:=za2 R2 (q1.stp s2 R1) e3;obtain ⟨rfl,zy⟩:=za2 R2 q2 e4;exact ⟨μ2,_,dx,dy,z,R2,zx,zy,e5,λμ3 H3 w s3 R3 q3=>k μ3 H3 w ((s1.trans s2).trans s3) R3 q3⟩
end
end IT
namespace HT
open PySem PyProof.Rows
section
variable {prog:Program} {w:World} {A:Around} {E:Value->Shared->Prop} {s:Shared}
theorem getItem_tuple_whole {lo hi:Option Int} (ht:IsTup s.heap t items) (hs:s.heap.IsSliceOf sl vl vu .none) (pl:IsPart vl lo) (pu:IsPart vu hi)
  (hw:sIx items.size 0 lo=0/\sIx items.size items.size hi=items.size) (h:Q (.ref t) s):wpAny (model prog w) A (getItem (.ref t) (.ref sl)) Q E s:=by
 obtain ⟨os,hos,hcs,hds⟩:=id hs;have hTs:s.TypeIs (.ref sl) "slice":=⟨os,hos,hcs⟩;unfold getItem
 try with_reducible refine wpAny_holding ?_
 first | refine wpAny_bind (wpAny_pure ?_) | skip
 refine wpAny_bind (wpAny_sequenceKey ht.typeIs (by decide) ?_)
 refine wpAny_bind (wpAny_callSpecial?_slot (name:=Str.ofString "__getitem__") ht.typeIs PyProof.Rows.slot_tuple_getitem
  (wpAny_call_entry PyProof.Rows.slot_tuple_getitem ht.typeIs entry_tuple_getitem ?_ (args_tuple_getitem _ _)))
 show wpAny _ _ (Builtin.Tuple.tupleItemsOf (.ref t) >>= _) _ _ s;refine wpAny_bind (tupleItemsOf_ ht ?_);refine wpAny_bind (wpAny_typeOf hTs ?_);rw [if_pos (by decide)];refine wpAny_bind (zbi hs pl pu ?_)
 have hyes:(((sIx items.size 0 lo:Nat):Int)==0&&(1:Int)==1&&(sIx items.size items.size hi-sIx items.size 0 lo)==items.size)=true:=by
  rw [hw.1,hw.2];simp
 show wpAny _ _ (if (((sIx items.size 0 lo:Nat):Int)==0&&(1:Int)==1&&(sIx items.size items.size hi-sIx items.size 0 lo)==items.size)=true then _ else _) _ _ s;rw [if_pos hyes];unfold Builtin.Tuple.tupleIsExact;refine wpAny_bind (wpAny_bind (wpAny_typeOf ht.typeIs (wpAny_pure ?_)));rw [if_pos (by decide)]
 first
  | exact wpAny_bind (wpAny_rule (wpAny_pure ⟨_,rfl,wpAny_pure h⟩))
  | exact wpAny_bind (wpAny_rule (wpAny_bind (wpAny_pure (wpAny_pure ⟨_,rfl,wpAny_pure h⟩))))
  | exact wpAny_bind (wpAny_rule (wpAny_bind (wpAny_pure ⟨_,rfl,wpAny_pure h⟩)))
end
end HT
namespace IT
open PySem PySem.Spec L2
section
variable {X:Cx}
theorem zod:SlR X (λx lo hi H Q=>∃ a xs,x=.ref a/\SqT X.K H a xs/\(HT.sIx xs.length 0 lo=0/\HT.sIx xs.length xs.length hi=xs.length)/\Q (.ref a) H):=by
 intro pins s σ H x v vl vu lo hi sl Q I rx hs pl pu h;obtain ⟨a,xs,rfl,hx,hw,q⟩:=h;cases rx;obtain ⟨its,r,ht,hz⟩:=I.tuple hx
 have hlen:its.toArray.size=xs.length:=by rw [List.size_toArray];exact r.length.symm
 refine ⟨"tuple",_,PyProof.Rows.slot_tuple_getitem.lookup,ht.typeIs,?_⟩
 exact HT.getItem_tuple_whole ht hs pl pu (by rw [hlen];exact hw) ⟨.ref a,H,I,rfl,q⟩
theorem zh3 (n d:Nat) (o:Option Int):sIx n d o=HT.sIx n d o:=by cases o<;>rfl
theorem RepDs.cut (q:RepDs K A H xs vs) (lo hi:Option Int):RepDs K A H (IT.cut xs lo hi) (cutV vs lo hi):=by
 unfold IT.cut cutV;rw [zh3,zh3,q.length];exact (q.drop _).take _
theorem sl':SlR X (λv lo hi H Q=>∃ μ h a z,Rep X.K μ h H/\RdD X.K (Live μ h) H a v/\cutD a lo hi=some z/\∀ μ' H' w,Stp μ h H μ' h H'->Rep X.K μ' h H'->RepD X.K (Live μ' h) H' z w->Q w H'):=by
 intro pins s σ H x v vl vu lo hi sl Q I rx hs pl pu q;obtain ⟨μ,h,a,z,R0,qa,e,k⟩:=q
 cases a with
 | tup xs=>
  simp only [RdD,RepD] at qa;obtain ⟨p,vs,rfl,q1,z1⟩:=qa;cases e
  by_cases hw:HT.sIx vs.length 0 lo=0/\HT.sIx vs.length vs.length hi=vs.length
  ·refine zod pins s σ H _ v vl vu lo hi sl Q I rx hs pl pu ⟨p,vs,rfl,q1,hw,k μ H _ Stp.refl R0 ?_⟩
   simp only [RepD];refine ⟨p,vs,rfl,q1,?_⟩
   have e2:cut xs lo hi=xs:=by
    unfold cut;rw [zh3,zh3,z1.length,hw.1,hw.2,List.drop_zero,Nat.sub_zero,<-z1.length,List.take_length]
   rw [e2];exact z1
  ·refine zp9 pins s σ H _ v vl vu lo hi sl Q I rx hs pl pu ⟨p,vs,rfl,q1,hw,λr hr=>?_⟩
   have s2:Stp μ h H μ h (upd H r (.tup (cutV vs lo hi))):=Stp.fresh hr;refine k μ _ (.ref r) s2 (R0.fresh hr) ?_;simp only [RepD];exact ⟨r,cutV vs lo hi,rfl,SqT.of zaj,RepDs.stp s2 R0 (z1.cut lo hi)⟩
 | lst xs=>
  obtain ⟨p,vs,rfl,q1,z1⟩:=qa;cases e;refine zog pins s σ H _ v vl vu lo hi sl Q I rx hs pl pu ⟨p,vs,rfl,q1,λr hr=>?_⟩;have s2:Stp μ h H μ h (upd H r (.lst (cutV vs lo hi))):=Stp.fresh hr;refine k μ _ (.ref r) s2 (R0.fresh hr) ?_;simp only [RepD];refine ⟨r,cutV vs lo hi,rfl,.inl ⟨λl=>?_,.inl zaj⟩,RepDs.stp s2 R0 (z1.cut lo hi)⟩;obtain ⟨ws,w,_⟩:=R0.liveAt l
  rw [hr] at w;cases w
 | str xs=>
  (delta cutD at e;(try dsimp only at e))
  split at e
  ·rename_i hf
   cases e;simp only [RdD,RepD] at qa;subst qa;obtain ⟨t,rfl⟩:=(show ∃ t',v=Value.str (zaa xs) t' from rx)
   have hz:(zaa xs).length<=sizeLine:=by rw [zae];exact of_decide_eq_true hf
   have fin:∀ t' k',EP X pins σ Q (.str (Txt.slice (zaa xs) lo hi) t') { s with toks:=k' }:=λt' k'=>⟨.str (Txt.slice (zaa xs) lo hi),H,I.tok _,⟨_,rfl⟩,k μ H _ Stp.refl R0 (by rw [zjT];simp only [RepD])⟩
   obtain ⟨os,hos,hcs,hds⟩:=id hs
   have part:∀ {v:Value} {o:Option Int},IsPart v o->∃ p:Option (Int×Tok),v=partValue p/\p.map (·.1)=o:=by
    intro v o p
    cases p with
    | none=>exact ⟨none,rfl,rfl⟩
    | int i t=>exact ⟨some (i,t),rfl,rfl⟩
   obtain ⟨p1,rfl,e1⟩:=part pl;obtain ⟨p2,rfl,e2⟩:=part pu;refine ⟨"str",_,PySem.F.slot_str_getitem.lookup,typeIs_str _ _ _,wpAny_getItem_str_slice (l:=p1) (u:=p2) (st:=none) ⟨os,hos,hcs,hds⟩ rfl ?_⟩;unfold sliceMade slicePicked;rw [e1,e2];exact post_val_or_str ⟨Nat.le_trans (Txt.slice_le _ lo hi) hz,fin⟩
  ·cases e
 | _=>cases e
inductive tO (K:PySem.W.Frag) (f:IT.Env->M R) (σ:St) (H:Hp) (Q:Option Int->Hp->Prop):Prop where
 | mk (μ:List Addr) (h:Sto) (env:IT.Env) (R0:Rep K μ h H) (re:RepE K μ h H env σ) (d:D) (h':Sto) (o:Option Int) (e:f env h=some (.d d,h')) (ep:part d=some o) (k:∀ μ' H',Stp μ h H μ' h' H'->Rep K μ' h' H'->Q o H')
theorem PO.imp (h:PO X oe t) (i:∀ σ H Q,t' σ H Q->t σ H Q):PO X oe t':=λpins s σ H Q I q=>h pins s σ H Q I (i σ H Q q)
theorem zpv:PO X none (tO X.K λ_=>ok (.d .non)):=by
 refine PO.imp zn6 λσ H Q q0=>?_;obtain ⟨μ,h,env,R0,re,d,h',o,e,ep,k⟩:=q0;simp only [zac,R.d.injEq] at e;obtain ⟨rfl,rfl⟩:=e;simp only [part,Option.some.injEq] at ep;subst ep;exact k μ H Stp.refl R0
theorem zkX (h:IE X e f):PO X (some e) (tO X.K f):=by
 intro pins s σ H Q I ⟨μ,h0,env,R0,re,d,h',o,ef,ep,k⟩;rw [evalPart_some];refine thn (h pins s σ H (λx H1=>(∃ i,x=.int i/\Q (some i) H1)\/(x=.non/\Q none H1)) I ⟨μ,h0,env,R0,re,.d d,h',ef,λμ1 H1 v s1 R1 q1=>?_⟩) λu s1 ⟨x,H1,I1,r1,q1⟩=>?_
 ·cases d with
  | int i=>
   simp only [RepR,RepD] at q1;simp only [part,Option.some.injEq] at ep;subst ep;exact .inl ⟨i,q1,k μ1 H1 s1 R1⟩
  | non=>
   simp only [RepR,RepD] at q1;simp only [part,Option.some.injEq] at ep;subst ep;exact .inr ⟨q1,k μ1 H1 s1 R1⟩
  | _=>simp [part] at ep
 ·rcases q1 with ⟨i,rfl,q⟩ | ⟨rfl,q⟩
  ·obtain ⟨t,rfl⟩:=r1
   exact ⟨some i,H1,I1,.int i t,q⟩
  ·cases r1
   exact ⟨none,H1,I1,.none,q⟩
theorem zqi (ha:IE X a f) (hl:PO X lo (tO X.K g)) (hu:PO X hi (tO X.K k)):IE X (.Subscript a (.Slice lo hi none p2) pos)
  (λσ=>bnd (f σ) λx=>bnd (g σ) λl=>bnd (k σ) λu=>bnd (rd x) λx=>bnd (rd l) λl=>bnd (rd u) λu=>bnd (opt (sliD x l u)) λz=>ok (.d z)):=by
 refine PE.imp (zmL sl' ha hl hu) λσ H Q q0=>?_;obtain ⟨μ,h,env,R0,re,r,h',e,kk⟩:=q0;simp only [zab,zac,zas] at e;obtain ⟨x,h1,e1,l,h2,e2,u,h3,e3,dx,h4,e4,dl,h5,e5,du,h6,e6,z,h7,⟨e7,rfl⟩,rfl,rfl⟩:=e
 (delta sliD at e7;(try dsimp only at e7))
 have isd:∀ (r:R) (d:D) (h h':Sto),rd r h=some (d,h')->∀ o,part d=some o->r=.d d/\h'=h:=by
  intro r d h h' e o ep
  cases r with
  | d x=>simp only [rd,zac] at e;exact ⟨by rw [e.1],e.2.symm⟩
  | loc l=>
   obtain ⟨o,_,_,rfl,_⟩:=zew e;simp [part] at ep
 cases pl:part dl with
 | none=>rw [pl] at e7;cases e7
 | some lo'=>
  cases pu:part du with
  | none=>rw [pl,pu] at e7;cases e7
  | some hi'=>
   rw [pl,pu] at e7;replace e7:cutD dx lo' hi'=some z:=e7;obtain ⟨rfl,hh5⟩:=isd l dl h4 h5 e5 lo' pl;subst hh5;obtain ⟨rfl,hh6⟩:=isd u du _ h6 e6 hi' pu;subst hh6;refine ⟨μ,h,env,R0,re,x,h1,e1,λμ1 H1 v s1 R1 q1=>⟨μ1,h1,env,R1,re.stp s1 R0,dl,h2,lo',e2,pl,λμ2 H2 s2 R2=>⟨μ2,h2,env,R2,re.stp (s1.trans s2) R0,du,h3,hi',e3,pu,λμ3 H3 s3 R3=>?_⟩⟩⟩;obtain ⟨rfl,zx⟩:=za2 R3 ((q1.stp s2 R1).stp s3 R2) e4;exact ⟨μ3,_,dx,z,R3,zx,e7,λμ4 H4 w s4 R4 q4=>kk μ4 H4 w (((s1.trans s2).trans s3).trans s4) R4 q4⟩
inductive zni (K:PySem.W.Frag) (g:List D->Option D) (vs:List V) (H:Hp) (Q:VK):Prop where
 | mk (μ:List Addr) (h:Sto) (ds:List D) (z:D) (R0:Rep K μ h H) (pr:Paired (RdD K (Live μ h) H) ds vs) (e:g ds=some z) (k:∀ μ' H' w,Stp μ h H μ' h H'->Rep K μ' h H'->RepD K (Live μ' h) H' z w->Q w H')
noncomputable def zjs (X:Cx) (f:Value) (g:List D->Option D):Prop:=zbj X f λvs H Q=>zni X.K g vs H Q
theorem zdT
  (q:tE X.K (λσ=>bnd (fs σ) λrs=>bnd (rds rs) λds=>bnd (opt (biD t ds)) λz=>ok (.d z)) σ H Q) :
  tAs X.K fs σ H λvs H1=>zni X.K (biD t) vs H1 Q:=by
 obtain ⟨μ,h,env,R0,re,r,h',e,k⟩:=q;simp only [zab,zac,zas] at e;obtain ⟨rs,h1,e1,ds,h2,e2,z,h3,⟨e3,rfl⟩,rfl,rfl⟩:=e;refine ⟨μ,h,env,R0,re,rs,h1,e1,λμ1 H1 vs s1 R1 q1=>?_⟩;obtain ⟨rfl,zs⟩:=zk0 R1 q1 e2;exact ⟨μ1,_,ds,z,R1,zs,e3,λμ2 H2 w s2 R2 q2=>k μ2 H2 w (s1.trans s2) R2 q2⟩
theorem zj5:zjs X (.builtin "len") (biD .len):=by
 intro pins s σ H vs us Q I r q;obtain ⟨μ,h,ds,z,R0,pr,e,k⟩:=q
 cases pr with
 | nil=>exact zad e
 | @cons d v ds vs qd pr=>
  cases pr with
  | cons _ _=>cases d<;>exact zad e
  | nil=>
   cases d with
   | tup xs=>
    simp only [RdD,RepD] at qd;obtain ⟨p,ws,rfl,q1,z1⟩:=qd;replace e:=Option.some.inj e;subst e
    exact zfF pins s σ H _ us Q I r ⟨.ref p,ws.length,rfl,.inr ⟨ws,q1,rfl⟩,k μ H _ Stp.refl R0 (by simp only [RepD];rw [z1.length])⟩
   | lst xs=>
    obtain ⟨p,ws,rfl,q1,z1⟩:=qd;replace e:=Option.some.inj e;subst e
    exact zfF pins s σ H _ us Q I r ⟨.ref p,ws.length,rfl,.inl ⟨ws,q1,rfl⟩,k μ H _ Stp.refl R0 (by simp only [RepD];rw [z1.length])⟩
   | str x=>
    simp only [RdD,RepD] at qd;subst qd
    (delta biD at e;(try dsimp only at e))
    split at e
    ·rename_i hf
     cases e
     exact zfF pins s σ H _ us Q I r ⟨.str (zaa x),x.length,rfl,⟨by rw [zae];exact of_decide_eq_true hf,by rw [zae]⟩,k μ H _ Stp.refl R0 (by simp only [RepD])⟩
    ·cases e
   | _=>exact zad e
theorem zhe:zjs X (.type "tuple") (biD .tuple):=by
 intro pins s σ H vs us Q I r q;obtain ⟨μ,h,ds,z,R0,pr,e,k⟩:=q
 cases pr with
 | nil=>exact zad e
 | @cons d v ds vs qd pr=>
  cases pr with
  | cons _ _=>cases d<;>exact zad e
  | nil=>
   cases d with
   | tup xs=>
    simp only [RdD,RepD] at qd;obtain ⟨p,ws,rfl,q1,z1⟩:=qd;replace e:=Option.some.inj e;subst e
    exact zcg pins s σ H _ us Q I r ⟨p,ws,rfl,.inr ⟨q1,k μ H _ Stp.refl R0 (by simp only [RepD];exact ⟨p,ws,rfl,q1,z1⟩)⟩⟩
   | lst xs=>
    obtain ⟨p,ws,rfl,q1,z1⟩:=qd;replace e:=Option.some.inj e;subst e;refine zcg pins s σ H _ us Q I r ⟨p,ws,rfl,.inl ⟨q1,λl hl=>?_⟩⟩;have s2:Stp μ h H μ h (upd H l (.tup ws)):=Stp.fresh hl;refine k μ _ (.ref l) s2 (R0.fresh hl) ?_;simp only [RepD];exact ⟨l,ws,rfl,SqT.of zaj,RepDs.stp s2 R0 z1⟩
   | _=>exact zad e
theorem dec_str (n:Int):(PySem.Str.ofString (toString n)).cps.toList=decS n:=by
 rw [PyProof.Rows.signs_ofString];unfold decS
 cases n with
 | ofNat m=>
  rw [if_neg (by simp)];show (Nat.repr m).toList.map Char.toNat=_;rw [Nat.toList_repr];rfl
 | negSucc m=>
  rw [if_pos (Int.negSucc_lt_zero m)];show ("-"++Nat.repr (m+1)).toList.map Char.toNat=_;rw [String.toList_append,List.map_append,Nat.toList_repr];rfl
theorem zjD (n:Int):(PySem.Str.ofString (toString n))=zaa (decS n):=by
 rw [<-dec_str];rfl
theorem zjR {x:List Nat} (h:digS x=true):PySem.NumText.AllDigits x/\x≠[]:=by
 simp only [digS,Bool.and_eq_true,List.all_eq_true,decide_eq_true_eq] at h
 exact ⟨λc hc=>h.2 c hc,by rintro rfl;cases h.1⟩
theorem zk8 {x:List Nat} {n:Int} (hl:x.length<=640) (h:intS x=some n):PySem.intText? (zaa x)=some n:=by
 have e:(zaa x).cps.toList=x:=rfl;have el:(zaa x).length<=4300:=Nat.le_trans (show x.toArray.size<=640 from hl) (by decide)
 cases x with
 | nil=>cases h
 | cons c r=>
  unfold intS at h;dsimp only at h
  split at h
  ·rename_i hc
   subst hc
   split at h
   ·rename_i hd
    cases h;obtain ⟨d1,d2⟩:=zjR hd;exact PySem.intText_neg e d1 d2 el
   ·cases h
  ·split at h
   ·rename_i hd
    cases h;obtain ⟨d1,d2⟩:=zjR hd
    exact PySem.intText_digits (by rw [e];exact d1) (by rw [e];exact d2) el
   ·cases h
theorem zfq:zbj X (.type "int") (λxs H Q=>∃ x n,xs=[.str (zaa x)]/\x.length<=640/\intS x=some n/\Q (.int n) H):=by
 intro pins s σ H xs us Q I r h;obtain ⟨x,n,rfl,hl,e,q⟩:=h;obtain ⟨u,rfl,t,rfl⟩:=zeI r;exact PySem.W.KIN.call_text (zk8 hl e) hl ⟨.int n,H,I.tok _,⟨_,rfl⟩,q⟩
theorem zfH:zbj X (.type "str") (λxs H Q=>∃ x,xs=[.str x]/\Q (.str x) H):=by
 intro pins s σ H xs us Q I r h;obtain ⟨x,rfl,q⟩:=h;obtain ⟨u,rfl,t,rfl⟩:=zeI r;exact PySem.P.str_of_str ⟨.str x,H,I,⟨_,rfl⟩,q⟩
theorem zj3:zjs X (.type "str") (biD .str):=by
 intro pins s σ H vs us Q I r q;obtain ⟨μ,h,ds,z,R0,pr,e,k⟩:=q
 cases pr with
 | nil=>exact zad e
 | @cons d v ds vs qd pr=>
  cases pr with
  | cons _ _=>cases d<;>exact zad e
  | nil=>
   cases d with
   | str x=>
    simp only [RdD,RepD] at qd;subst qd;replace e:=Option.some.inj e;subst e;exact zfH pins s σ H _ us Q I r ⟨_,rfl,k μ H _ Stp.refl R0 (by simp only [RepD])⟩
   | int i=>
    simp only [RdD,RepD] at qd;subst qd;change (if _ then _ else _)=_ at e
    split at e
    ·rename_i hd
     replace e:=Option.some.inj e;subst e
     have hz:i.natAbs.log2<1920:=by
      have hd:=of_decide_eq_true hd
      by_cases h0:i.natAbs=0
      ·rw [h0];decide
      ·exact (Nat.log2_lt h0).mpr (Nat.lt_trans hd (Nat.pow_lt_pow_right (by decide) (by decide)))
     exact zf6 pins s σ H _ us Q I r ⟨i,rfl,hz,k μ H _ Stp.refl R0 (by simp only [RepD];rw [<-zjD])⟩
    ·cases e
   | _=>exact zad e
theorem zk1:zjs X (.type "int") (biD .int):=by
 intro pins s σ H vs us Q I r q;obtain ⟨μ,h,ds,z,R0,pr,e,k⟩:=q
 cases pr with
 | nil=>exact zad e
 | @cons d v ds vs qd pr=>
  cases pr with
  | cons _ _=>cases d<;>exact zad e
  | nil=>
   cases d with
   | bl b=>
    simp only [RdD,RepD] at qd;subst qd;replace e:=Option.some.inj e;subst e;exact zgg pins s σ H _ us Q I r (.inr ⟨b,rfl,k μ H _ Stp.refl R0 (by simp only [RepD])⟩)
   | int i=>
    simp only [RdD,RepD] at qd;subst qd;replace e:=Option.some.inj e;subst e;exact zgg pins s σ H _ us Q I r (.inl ⟨i,rfl,k μ H _ Stp.refl R0 (by simp only [RepD])⟩)
   | str x=>
    simp only [RdD,RepD] at qd;subst qd;change (if _ then _ else _)=_ at e
    split at e
    ·rename_i hd
     cases ei:intS x with
     | none=>rw [ei] at e;cases e
     | some n=>
      rw [ei] at e;replace e:=Option.some.inj e;subst e;exact zfq pins s σ H _ us Q I r ⟨x,n,rfl,of_decide_eq_true hd,ei,k μ H _ Stp.refl R0 (by simp only [RepD])⟩
    ·cases e
   | _=>exact zad e
end
section
variable {X:Cx}
theorem Rep.placeL (R0:Rep K μ h H) {l:Nat} {o:Ob} (e:μ[l]?=some a) (ho:h[l]?=some o) (il:o.isL=true):∃ vs,H a=some (.lst vs)/\RepDs K (Live μ h) H o.items vs:=
 (R0.obj l a o e ho).isL il
theorem Rep.placeO (R0:Rep K μ h H) {l:Nat} (e:μ[l]?=some a):∃ o,h[l]?=some o:=by
 have hl:l<h.length:=by rw [<-R0.len];exact (List.getElem?_eq_some_iff.mp e).1
 exact ⟨h[l],List.getElem?_eq_getElem hl⟩
theorem zkb {f:IT.Env->M R} (ho:IE X o f) (ha:IA X (e::es) fs) (hname:name=("append":Str))
  (hbase:attributeBase o name X.env (eval o X.env)=eval o X.env)
  (hfew:((backTo cpos (starEach (e::es) X.env)).all (λx=>!x.1)&&(backToKw cpos (keywordEach [] X.env)).all (λx=>x.1.isSome)
   && decide ((e::es).length+([]:List Keyword).length+(if ([]:List Keyword).isEmpty then 0 else 1)<30))=true)
  (hline:(apos.endLine==cpos.line)=true) (hs:starEach (e::es) X.env=(false,eval e X.env)::starEach es X.env) (hplain:(backTo cpos (starEach es X.env)).any (·.1)=false) :
  IE X (.Call (.Attribute o name apos) (e::es) [] cpos) (λσ=>bnd (f σ) λx=>bnd (zdZ x) λ_=>bnd (fs σ) λrs=>meth .append x rs):=by
 subst hname;refine PE.imp (zjv PySem.F.plainAttrs_list PySem.F.slot_list_append PySem.F.type_list_append zjh ho ha hbase hfew hline hs hplain) λσ H Q q0=>?_;obtain ⟨μ,h,env,R0,re,r,h',e,k⟩:=q0;simp only [zab] at e;obtain ⟨x,h1,e1,_,h1',e0,rs,h2,e2,e3⟩:=e;obtain ⟨l,o1,rfl,ho1,il1,rfl⟩:=zeB e0;refine ⟨μ,h,env,R0,re,.loc l,_,e1,λμ1 H1 v s1 R1 q1=>?_⟩
 ·skip
  obtain ⟨a,ea,rfl⟩:=q1;obtain ⟨vs1,hH1,z1⟩:=R1.placeL ea ho1 il1;refine ⟨.inl ⟨rfl,vs1,.inl (.inl hH1)⟩,μ1,_,env,R1,re.stp s1 R0,rs,h2,e2,λμ2 H2 ws s2 R2 q2=>?_⟩
  cases q2 with
  | nil=>exact zad e3
  | @cons rr w rs' ws' qr q2=>
   cases q2 with
   | cons _ _=>exact zad e3
   | nil=>
    (delta meth at e3;(try dsimp only at e3);simp only [zab] at e3)
    obtain ⟨d,h3,e4,e5⟩:=e3;obtain ⟨s3,R3,zd⟩:=zje R2 qr e4;have ea2:=s2.pre l a ea
    split at e5
    ·rename_i xs hx
     split at e5
     ·rename_i hlen
      simp only [Option.some.injEq,Prod.mk.injEq] at e5;obtain ⟨rfl,rfl⟩:=e5;obtain ⟨vs3,hH3,z3⟩:=R3.placeL ea2 hx rfl
      have hlen':vs3.length<sizeLine:=by
       have:=z3.length
       have h4:xs.length<big:=of_decide_eq_true hlen;have h5:big=sizeLine:=rfl;simp only [Ob.items] at this;omega
      refine ⟨a,vs3,w,rfl,rfl,hH3,hlen',?_⟩;obtain ⟨s4,R4⟩:=write R3 ea2 hx (z3.app (RepDs.one zd));exact k μ2 _ .non (((s1.trans s2).trans s3).trans s4) R4 (by simp only [RepR,RepD])
     ·cases e5
    ·cases e5
noncomputable def spF (K:PySem.W.Frag) (np:Nat) (m:List R->M R):Sp:=λvs H Q _=>vs.length=np/\∃ μ h rs,Rep K μ h H/\zaY K μ h H rs vs/\Post K μ h H (RepR K) (m rs h) Q
structure zqW (X:Cx) (n:Nat) (x:Str) (np:Nat) (dfl:List D) (m:List R->M R):Prop where
 ex:∃ f fd ps dvs,FnOk X.prog X.w X.K X.mg X.base CX0 n f fd ps (spF X.K np m)/\X.mg x=some (.ref f)/\PySem.W.keepIn X.K (.ref f)=true/\(∀ A H,RepDs X.K A H dfl dvs)/\(∀ j,j<=dfl.length->∃ ds,zgS X.K fd ps ds/\Vals (dvs.drop j) ds)
 fill:∀ rs,m rs=m (zaD np dfl rs)
 len:∀ rs h p,m rs h=some p->(zaD np dfl rs).length=np
theorem zcz (h:rs.length+dfl.length<np):zaD np dfl rs=rs:=by unfold zaD;rw [if_pos h]
theorem zci (h:¬ rs.length+dfl.length<np):zaD np dfl rs=rs++(dfl.drop (rs.length+dfl.length-np)).map R.d:=by unfold zaD;rw [if_neg h]
theorem zaY.app (a:zaY K μ h H rs vs) (b:zaY K μ h H ss ws):zaY K μ h H (rs++ss) (vs++ws):=by
 induction a with
 | nil=>exact b
 | cons q _ ih=>exact .cons q ih
theorem RepDs.rs:∀ {ds:List D} {vs:List V},RepDs K (Live μ h) H ds vs->zaY K μ h H (ds.map R.d) vs
 | [],vs,q=>by simp only [RepDs] at q;subst q;exact .nil
 | x::xs,vs,q=>by
  simp only [RepDs] at q;obtain ⟨v,r,rfl,h1,h2⟩:=q;exact .cons h1 h2.rs
theorem zoZ {p pos:Pos} {fs:IT.Env->M (List R)} (hF:zqW X n x np dfl m) (hr:Room n X.A) (hg:Gl X x) (ha:IA X (e::es) fs) (hf:∀ σ h rs h',fs σ h=some (rs,h')->rs.length=(e::es).length)
  (hdb:(x==("__debug__":Str))=false) (he:starEach (e::es) X.env=(false,eval e X.env)::starEach es X.env) (hpl:(backTo pos (starEach es X.env)).any (·.1)=false) :
  IE X (.Call (.Name x p) (e::es) [] pos) (λσ=>bnd (fs σ) λrs=>m rs):=by
 obtain ⟨f,fd,ps,dvs,F,hm,hk,hd,hb⟩:=hF.ex
 by_cases hj:(e::es).length+dfl.length-np<=dfl.length/\¬ (e::es).length+dfl.length<np
 ·obtain ⟨hj,hj2⟩:=hj
  obtain ⟨ds,hb,hv⟩:=hb _ hj;refine PE.imp (zkn F hr hg hm hk hb hv zqR ha hdb he hpl) λσ H Q q0=>?_;obtain ⟨μ,h,env,R0,re,r,h',ee,k⟩:=q0;simp only [zab] at ee;obtain ⟨rs,h1,e1,e2⟩:=ee;refine ⟨μ,h,env,R0,re,rs,h1,e1,λμ1 H1 vs s1 R1 q1=>?_⟩;have hlen:=hF.len _ _ _ e2;rw [hF.fill rs] at e2
  have qq:zaY X.K μ1 h1 H1 (zaD np dfl rs) (vs++dvs.drop ((e::es).length+dfl.length-np)):=by
   rw [zci (by rw [hf _ _ _ _ e1];exact hj2),hf _ _ _ _ e1]
   exact q1.app (RepDs.drop _ (hd _ _)).rs
  exact ⟨by rw [<-qq.length];exact hlen,μ1,h1,zaD np dfl rs,R1,qq,r,h',e2,λμ2 H2 v s2 R2 q2=>k μ2 H2 v (s1.trans s2) R2 q2⟩
 ·obtain ⟨ds,hb,hv⟩:=hb dfl.length (Nat.le_refl _)
  refine PE.imp (zkn F hr hg hm hk hb hv zqR ha hdb he hpl) λσ H Q q0=>?_;obtain ⟨μ,h,env,R0,re,r,h',ee,k⟩:=q0;simp only [zab] at ee;obtain ⟨rs,h1,e1,e2⟩:=ee;refine ⟨μ,h,env,R0,re,rs,h1,e1,λμ1 H1 vs s1 R1 q1=>?_⟩
  exfalso
  have hlen:=hF.len _ _ _ e2;have hrs:=hf _ _ _ _ e1
  by_cases hs:rs.length+dfl.length<np
  ·rw [zcz hs] at hlen
   omega
  ·rw [zci hs] at hlen
   simp only [List.length_append,List.length_map,List.length_drop] at hlen;omega
inductive tG (K:PySem.W.Frag) (t:Tg) (v:V) (σ:St) (H:Hp) (Q:St->Hp->Prop):Prop where
 | mk (μ:List Addr) (h:Sto) (env:IT.Env) (r:R) (env':IT.Env) (R0:Rep K μ h H) (re:RepE K μ h H env σ) (qr:RepR K μ h H r v) (e:zaz t r env h=some (env',h)) (k:∀ σ',RepE K μ h H env' σ'->Q σ' H)
inductive tGs (K:PySem.W.Frag) (ts:List Tg) (vs:List V) (σ:St) (H:Hp) (Q:St->Hp->Prop):Prop where
 | mk (μ:List Addr) (h:Sto) (env:IT.Env) (xs:List D) (env':IT.Env) (R0:Rep K μ h H) (re:RepE K μ h H env σ) (qr:RepDs K (Live μ h) H xs vs) (e:bindTs ts xs env h=some (env',h)) (k:∀ σ',RepE K μ h H env' σ'->Q σ' H)
theorem PG.imp (h:PG X tg t) (i:∀ v σ H Q,t' v σ H Q->t v σ H Q):PG X tg t':=λpins s σ H v u Q I r q=>h pins s σ H v u Q I r (i v σ H Q q)
theorem PGs.imp (h:PGs X tg t) (i:∀ v σ H Q,t' v σ H Q->t v σ H Q):PGs X tg t':=λpins s σ H v u Q I r q=>h pins s σ H v u Q I r (i v σ H Q q)
theorem znP (hN:X.N.Nodup) (hi:X.N[i]?=some x) (hx:Loc X.env.scope x) (hf:X.fn x=true\/X.env.scope.names.lookup x=some .local):PG X (.Name x pos) (tG X.K (.name i)):=by
 refine PG.imp (zll hN hi hx hf) λv σ H Q q_=>?_;obtain ⟨μ,h,env,r,env',R0,re,qr,e,k⟩:=q_;simp only [zaz,zac] at e;obtain ⟨rfl,_⟩:=e;exact k _ (re.set i qr)
theorem zoi:PGs X [] (tGs X.K []):=by
 refine PGs.imp zj6 λvs σ H Q q_=>?_;obtain ⟨μ,h,env,xs,env',R0,re,qx,e,k⟩:=q_
 cases xs with
 | nil=>
  simp only [RepDs] at qx;simp only [bindTs,zac] at e;obtain ⟨rfl,_⟩:=e;exact ⟨qx,k σ re⟩
 | cons _ _=>exact zad e
theorem zaI:∀ (t:Tg) (r:R) (env env':IT.Env) (h h':Sto),zaz t r env h=some (env',h')->h'=h:=by
 intro t
 refine Tg.rec (motive_1:=λt=>∀ (r:R) (env env':IT.Env) (h h':Sto),zaz t r env h=some (env',h')->h'=h)
  (motive_2:=λts=>∀ (xs:List D) (env env':IT.Env) (h h':Sto),bindTs ts xs env h=some (env',h')->h'=h) ?_ ?_ ?_ ?_ t
 ·intro i r env env' h h' e
  simp only [zaz,zac] at e;exact e.2.symm
 ·intro ts ih r env env' h h' e
  simp only [zaz,zab] at e;obtain ⟨d,h1,e1,e2⟩:=e
  have hh:h1=h:=by
   cases r with
   | d x=>simp only [rd,zac] at e1;exact e1.2.symm
   | loc l=>
    exact (zew e1).choose_spec.2.2.2
  subst hh
  cases d with
  | tup xs=>exact ih xs env env' _ h' e2
  | _=>cases e2
 ·intro xs env env' h h' e
  cases xs with
  | nil=>simp only [bindTs,zac] at e;exact e.2.symm
  | cons _ _=>exact zad e
 ·intro t ts iht ihts xs env env' h h' e
  cases xs with
  | nil=>exact zad e
  | cons x xs=>
   simp only [bindTs,zab] at e;obtain ⟨env1,h1,e1,e2⟩:=e
   have:=iht _ _ _ _ _ e1
   subst this;exact ihts _ _ _ _ _ e2
theorem zcG:∀ (ts:List Tg) (xs:List D) (env env':IT.Env) (h h':Sto),bindTs ts xs env h=some (env',h')->xs.length=ts.length
 | [],[],_,_,_,_,_=>rfl
 | [],_::_,_,_,_,_,e=>by exact zad e
 | _::_,[],_,_,_,_,e=>by exact zad e
 | t::ts,x::xs,env,env',h,h',e=>by
  simp only [bindTs,zab] at e;obtain ⟨env1,h2,e3,e4⟩:=e;simp only [List.length_cons];rw [zcG ts xs env1 env' h2 h' e4]
theorem zml (h1:PG X e (tG X.K t)) (h2:PGs X es (tGs X.K ts)) (hs:(assignEach (e::es) X.env).map (·.2)=assign e X.env::(assignEach es X.env).map (·.2)):PGs X (e::es) (tGs X.K (t::ts)):=by
 refine PGs.imp (zfg h1 h2 hs) λvs σ H Q q_=>?_;obtain ⟨μ,h,env,xs,env',R0,re,qx,e,k⟩:=q_
 cases xs with
 | nil=>exact zad e
 | cons x xs=>
  simp only [RepDs] at qx;obtain ⟨v,r,rfl,q1,q2⟩:=qx;simp only [bindTs,zab] at e;obtain ⟨env1,h1',e1,e2⟩:=e
  have:=zaI _ _ _ _ _ _ e1
  subst this;refine ⟨v,r,rfl,μ,_,env,.d x,env1,R0,re,q1,e1,λσ1 re1=>⟨μ,_,env1,xs,env',R0,re1,q2,e2,k⟩⟩
theorem zry (hc:X.calm=true) (h:PGs X es (tGs X.K ts)) (hl:es.length=ts.length) (hn:(assignEach es X.env).length=es.length) (hst:(assignEach es X.env).findIdx? (·.1)=none):PG X (.Tuple es n pos) (tG X.K (.tup ts)):=by
 refine PG.imp (znC (n:=es.length) hc h hn hst) λv σ H Q q_=>?_;obtain ⟨μ,h,env,r,env',R0,re,qr,e,k⟩:=q_;simp only [zaz,zab] at e;obtain ⟨d,h1,e1,e2⟩:=e;obtain ⟨rfl,zd⟩:=za2 R0 qr e1
 cases d with
 | tup xs=>
  simp only [RdD,RepD] at zd;obtain ⟨a,vs,rfl,q1,z1⟩:=zd;refine ⟨a,vs,rfl,q1,?_,μ,_,env,xs,env',R0,re,z1,e2,k⟩;rw [<-z1.length,hl];exact zcG _ _ _ _ _ _ e2
 | _=>cases e2
noncomputable def RepI (K:PySem.W.Frag) (μ:List Addr) (h:Sto) (H:Hp):Ite->V->Prop
 | .r r,v=>RepR K μ h H r v
 | .en i r,v=>∃ p w,v=.ref p/\H p=some (.tup [.int i,w])/\RepR K μ h H r w
inductive tGI (K:PySem.W.Frag) (t:Tg) (v:V) (σ:St) (H:Hp) (Q:St->Hp->Prop):Prop where
 | mk (μ:List Addr) (h:Sto) (env:IT.Env) (x:Ite) (env':IT.Env) (R0:Rep K μ h H) (re:RepE K μ h H env σ) (qx:RepI K μ h H x v) (e:zaw t x env h=some (env',h)) (k:∀ σ',RepE K μ h H env' σ'->Q σ' H)
inductive tGe (K:PySem.W.Frag) (a b:Tg) (vs:List V) (σ:St) (H:Hp) (Q:St->Hp->Prop):Prop where
 | mk (μ:List Addr) (h:Sto) (env:IT.Env) (i:Int) (r:R) (w:V) (env1 env':IT.Env) (R0:Rep K μ h H) (re:RepE K μ h H env σ) (ev:vs=[.int i,w]) (qr:RepR K μ h H r w) (e1:zaz a (.d (.int i)) env h=some (env1,h)) (e2:zaz b r env1 h=some (env',h)) (k:∀ σ',RepE K μ h H env' σ'->Q σ' H)
theorem zsw (ha:PG X ea (tG X.K a)) (hb:PG X eb (tG X.K b)) (h1:(assignEach [ea,eb] X.env).map (·.2)=assign ea X.env::(assignEach [eb] X.env).map (·.2)) (h2:(assignEach [eb] X.env).map (·.2)=assign eb X.env::(assignEach [] X.env).map (·.2)):PGs X [ea,eb] (tGe X.K a b):=by
 refine PGs.imp (zfg ha (zfg hb zj6 h2) h1) λvs σ H Q q0=>?_;obtain ⟨μ,h,env,i,r,w,env1,env',R0,re,rfl,qr,e1,e2,k⟩:=q0;exact ⟨.int i,[w],rfl,μ,h,env,.d (.int i),env1,R0,re,by simp only [RepR,RepD],e1,λσ1 re1=>⟨w,[],rfl,μ,h,env1,r,env',R0,re1,qr,e2,λσ2 re2=>⟨rfl,k σ2 re2⟩⟩⟩
theorem zgI (e:zaw t x env h=some (env',h')):h'=h:=by
 cases x with
 | r r=>rw [zaw] at e;exact zaI _ _ _ _ _ _ e
 | en i r=>
  match t,e with
  | .tup [a,b],e=>
   rw [zaw,zab] at e;obtain ⟨env1,h1,e1,e2⟩:=e
   have:=zaI _ _ _ _ _ _ e1
   subst this;exact zaI _ _ _ _ _ _ e2
  | .name _,e=>exact zad e
  | .tup [],e=>exact zad e
  | .tup [_],e=>exact zad e
  | .tup (_::_::_::_),e=>exact zad e
theorem zmc (hg:PG X e (tG X.K (.name i))):PG X e (tGI X.K (.name i)):=by
 refine PG.imp hg λv σ H Q q0=>?_;obtain ⟨μ,h,env,x,env',R0,re,qx,eb,k⟩:=q0
 cases x with
 | r r=>exact ⟨μ,h,env,r,env',R0,re,qx,by rw [zaw] at eb;exact eb,k⟩
 | en i r=>exact zad eb
theorem zoz (hn:ts.length≠2) (hg:PG X e (tG X.K (.tup ts))):PG X e (tGI X.K (.tup ts)):=by
 refine PG.imp hg λv σ H Q q0=>?_;obtain ⟨μ,h,env,x,env',R0,re,qx,eb,k⟩:=q0
 cases x with
 | r r=>exact ⟨μ,h,env,r,env',R0,re,qx,by rw [zaw] at eb;exact eb,k⟩
 | en i r=>
  match ts,hn,eb with
  | [],_,eb=>exact zad eb
  | [_],_,eb=>exact zad eb
  | [_,_],hn,_=>exact absurd rfl hn
  | _::_::_::_,_,eb=>exact zad eb
theorem zoH (hc:X.calm=true) (hs:PGs X [ea,eb] (tGs X.K [a,b])) (he:PGs X [ea,eb] (tGe X.K a b)) (hn:(assignEach [ea,eb] X.env).length=2) (hst:(assignEach [ea,eb] X.env).findIdx? (·.1)=none):PG X (.Tuple [ea,eb] n pos) (tGI X.K (.tup [a,b])):=by
 have both:PGs X [ea,eb] (λvs σ H Q=>tGs X.K [a,b] vs σ H Q\/tGe X.K a b vs σ H Q):=λpins s σ H v u Q I r q=>by
  rcases q with q | q
  ·exact hs pins s σ H v u Q I r q
  ·exact he pins s σ H v u Q I r q
 refine PG.imp (znC (n:=2) hc both hn hst) λv σ H Q q0=>?_;obtain ⟨μ,h,env,x,env',R0,re,qx,eb,k⟩:=q0
 cases x with
 | r r=>
  rw [zaw] at eb;simp only [zaz,zab] at eb;obtain ⟨d,h1,e1,e2⟩:=eb;obtain ⟨rfl,zd⟩:=za2 R0 qx e1
  cases d with
  | tup xs=>
   simp only [RdD,RepD] at zd;obtain ⟨p,vs,rfl,q1,z1⟩:=zd;refine ⟨p,vs,rfl,q1,?_,.inl ⟨μ,_,env,xs,env',R0,re,z1,e2,k⟩⟩;rw [<-z1.length];exact zcG _ _ _ _ _ _ e2
  | _=>cases e2
 | en i r=>
  obtain ⟨p,w,rfl,hp,qr⟩:=qx;rw [zaw,zab] at eb;obtain ⟨env1,h1,e1,e2⟩:=eb
  have:=zaI _ _ _ _ _ _ e1
  subst this;exact ⟨p,[.int i,w],rfl,SqT.of hp,rfl,.inr ⟨μ,_,env,i,r,w,env1,env',R0,re,rfl,qr,e1,e2,k⟩⟩
end
structure Wlk (K:PySem.W.Frag) (J:L2.It) (w:Wk) (μ:List Addr) (h:Sto) (H:Hp):Prop where
 go:∀ μ1 h1 H1 (i:Nat) x,Stp μ h H μ1 h1 H1->Rep K μ1 h1 H1->zaC w.l h h1=true->w.xs[i]?=some x->J.go i H1/\∀ v H',J.yld i H1 v H'->Stp μ1 h1 H1 μ1 h1 H'/\Rep K μ1 h1 H'/\RepI K μ1 h1 H' x v
 stop:∀ μ1 h1 H1,Stp μ h H μ1 h1 H1->Rep K μ1 h1 H1->zaC w.l h h1=true->J.stop w.xs.length H1
theorem zgC {xs:List D} {i:Nat} (e:(xs.map dI)[i]?=some x):∃ d,xs[i]?=some d/\x=.r (.d d):=by
 rw [List.getElem?_map,Option.map_eq_some_iff] at e;obtain ⟨d,e1,e2⟩:=e;exact ⟨d,e1,e2.symm⟩
section
variable {K:PySem.W.Frag} {μ:List Addr} {h:Sto} {H:Hp}
theorem znf {a:Addr} {xs:List D} (R0:Rep K μ h H) (q:LsR K (Live μ h) H a vs) (z:RepDs K (Live μ h) H xs vs):Wlk K (Itl K a) ⟨xs.map dI,none⟩ μ h H:=by
 refine ⟨λμ1 h1 H1 i x st R1 _ e=>?_,λμ1 h1 H1 st R1 _=>?_⟩
 ·obtain ⟨d,ed,rfl⟩:=zgC e
  have q1:=st.lsR q;have z1:=RepDs.stp st R0 z;obtain ⟨v,e1,z2⟩:=z1.get ed;refine ⟨⟨vs,v,q1.sq,e1⟩,λv' H' q_=>?_⟩;obtain ⟨hH,hv⟩:=q_;subst hH
  have:=hv vs q1.sq
  rw [e1] at this;cases this;exact ⟨Stp.refl,R1,z2⟩
 ·exact ⟨vs,(st.lsR q).sq,by rw [List.length_map,<-z.length];exact Nat.le_refl _⟩
theorem znO {a:Addr} {xs:List D} (R0:Rep K μ h H) (q:SqT K H a vs) (z:RepDs K (Live μ h) H xs vs):Wlk K (Itt K a) ⟨xs.map dI,none⟩ μ h H:=by
 have qs:∀ μ1 h1 H1,Stp μ h H μ1 h1 H1->SqT K H1 a vs:=λμ1 h1 H1 st=>q.imp (st.rdT R0 a vs) λz=>z;refine ⟨λμ1 h1 H1 i x st R1 _ e=>?_,λμ1 h1 H1 st R1 _=>?_⟩
 ·obtain ⟨d,ed,rfl⟩:=zgC e
  have q1:=qs _ _ _ st;have z1:=RepDs.stp st R0 z;obtain ⟨v,e1,z2⟩:=z1.get ed;refine ⟨⟨vs,v,q1,e1⟩,λv' H' q_=>?_⟩;obtain ⟨hH,hv⟩:=q_;subst hH
  have:=hv vs q1
  rw [e1] at this;cases this;exact ⟨Stp.refl,R1,z2⟩
 ·exact ⟨vs,qs _ _ _ st,by rw [List.length_map,<-z.length];exact Nat.le_refl _⟩
theorem Ob.same_isL {o o':Ob} (s:o.same o'=true) (il:o.isL=true):o'.isL=true/\o'.items=o.items:=by
 cases o with
 | lst xs=>simp only [Ob.same,Bool.and_eq_true] at s;exact ⟨s.1,(D.sames_eq _ _ s.2).symm⟩
 | fro xs=>simp only [Ob.same,Bool.and_eq_true] at s;exact ⟨s.1,(D.sames_eq _ _ s.2).symm⟩
 | ins _ _=>cases il
 | ols _=>cases il
 | dic _=>cases il
 | dfr _=>cases il
theorem zdj:∀ {a b:List (D×D)},zaJ a b=true->a=b
  | [],[],_=>rfl
  | [],_::_,h=>by cases h
  | _::_,[],h=>by cases h
  | (p1,p2)::r,(q1,q2)::t,h=>by
    simp only [zaJ,Bool.and_eq_true] at h;rw [D.same_eq _ _ h.1.1,D.same_eq _ _ h.1.2,zdj h.2]
theorem zbX:∀ a:List (D×D),zaJ a a=true
 | []=>rfl
 | p::r=>by simp only [zaJ,D.same_refl,zbX r,Bool.and_self]
theorem zfm (ho:h[l]?=some o) (s:zaC (some l) h h1=true):∃ o',h1[l]?=some o'/\o.same o'=true:=by
 simp only [zaC,ho] at s
 cases q:h1[l]? with
 | none=>rw [q] at s;cases s
 | some o'=>rw [q] at s;exact ⟨o',rfl,s⟩
theorem znZ {a:Addr} {l:Nat} (R0:Rep K μ h H) (ea:μ[l]?=some a) (ho:h[l]?=some o) (il:o.isL=true):Wlk K (Itl K a) ⟨o.items.map dI,some l⟩ μ h H:=by
 refine ⟨λμ1 h1 H1 i x st R1 sy e=>?_,λμ1 h1 H1 st R1 sy=>?_⟩
 ·obtain ⟨d,ed,rfl⟩:=zgC e
  obtain ⟨o',ho',eo⟩:=zfm ho sy;obtain ⟨il',eo⟩:=Ob.same_isL eo il;obtain ⟨vs,q1,z1⟩:=R1.placeL (st.pre l a ea) ho' il';rw [eo] at z1;obtain ⟨v,e1,z2⟩:=z1.get ed;refine ⟨⟨vs,v,.inl (.inl q1),e1⟩,λv' H' q_=>?_⟩;obtain ⟨hH,hv⟩:=q_;subst hH
  have:=hv vs (.inl (.inl q1))
  rw [e1] at this;cases this;exact ⟨Stp.refl,R1,z2⟩
 ·obtain ⟨o',ho',eo⟩:=zfm ho sy
  obtain ⟨il',eo⟩:=Ob.same_isL eo il;obtain ⟨vs,q1,z1⟩:=R1.placeL (st.pre l a ea) ho' il';rw [eo] at z1
  exact ⟨vs,.inl (.inl q1),by rw [List.length_map,<-z1.length];exact Nat.le_refl _⟩
theorem zeD {α β:Type} {F:α->β->Prop}:∀ {xs:List α} {ys:List β} {i:Nat} {x:α},Paired F xs ys->xs[i]?=some x->∃ y,ys[i]?=some y/\F x y
 | _,_,_,_,.nil,e=>by simp at e
 | _,_,0,_,.cons r _,e=>by simp at e;subst e;exact ⟨_,rfl,r⟩
 | _,_,i+1,x,.cons _ t,e=>by
  obtain ⟨y,h1,h2⟩:=zeD (i:=i) (x:=x) t (by simpa using e);exact ⟨y,by simpa using h1,h2⟩
theorem zph {l:Nat} {ls:List Nat} (R0:Rep K μ h H) (ea:μ[l]?=some a) (ho:h[l]?=some (.ols ls)):Wlk K (Itl K a) ⟨ls.map λl=>.r (.loc l),some l⟩ μ h H:=by
 have at1:∀ μ1 h1 H1,Stp μ h H μ1 h1 H1->Rep K μ1 h1 H1->zaC (some l) h h1=true->∃ vs,H1 a=some (.lst vs)/\Paired (λ(l:Nat) (v:V)=>∃ b,μ1[l]?=some b/\v=.ref b) ls vs:=by
  intro μ1 h1 H1 st R1 sy;obtain ⟨o',ho',eo⟩:=zfm ho sy
  cases o' with
  | ols ls'=>
   simp only [Ob.same] at eo
   have:=eq_of_beq eo
   subst this;exact R1.obj l a _ (st.pre l a ea) ho'
  | _=>cases eo
 refine ⟨λμ1 h1 H1 i x st R1 sy e=>?_,λμ1 h1 H1 st R1 sy=>?_⟩
 ·rw [List.getElem?_map,Option.map_eq_some_iff] at e
  obtain ⟨k,e,rfl⟩:=e;obtain ⟨vs,q1,z1⟩:=at1 _ _ _ st R1 sy;obtain ⟨v,e1,b,eb,rfl⟩:=zeD z1 e;refine ⟨⟨vs,.ref b,.inl (.inl q1),e1⟩,λv' H' q_=>?_⟩;obtain ⟨hH,hv⟩:=q_;subst hH
  have:=hv vs (.inl (.inl q1))
  rw [e1] at this;cases this;exact ⟨Stp.refl,R1,b,eb,rfl⟩
 ·obtain ⟨vs,q1,z1⟩:=at1 _ _ _ st R1 sy
  exact ⟨vs,.inl (.inl q1),by rw [List.length_map,<-z1.length];exact Nat.le_refl _⟩
theorem zgO:∀ (n:Nat) (lo:Int) (i:Nat) (x:D),(zbf lo n)[i]?=some x->i<n/\x=.int (lo+i)
 | 0,lo,i,x,e=>by simp [zbf] at e
 | n+1,lo,i,x,e=>by
  cases i with
  | zero=>simp [zbf] at e;exact ⟨by omega,by rw [<-e];simp⟩
  | succ i=>
   simp only [zbf,List.getElem?_cons_succ] at e;obtain ⟨h1,h2⟩:=zgO n (lo+1) i x e;refine ⟨by omega,?_⟩;rw [h2]
   congr 1
   push_cast
   omega
theorem zdD:∀ (n:Nat) (lo:Int),(zbf lo n).length=n
 | 0,_=>rfl
 | n+1,lo=>by simp [zbf,zdD n]
theorem zo4 (lo:Int) (n:Nat):Wlk K (Itr lo n) ⟨(zbf lo n).map dI,none⟩ μ h H:=by
 refine ⟨λμ1 h1 H1 i x st R1 _ e=>?_,λμ1 h1 H1 st R1 _=>?_⟩
 ·obtain ⟨d,ed,rfl⟩:=zgC e
  obtain ⟨h1',rfl⟩:=zgO n lo i d ed
  exact ⟨h1',λv H' ⟨hH,hv⟩=>by subst hH;exact ⟨Stp.refl,R1,by rw [hv];simp only [RepI,RepR,RepD]⟩⟩
 ·show n<=((zbf lo n).map dI).length
  rw [List.length_map,zdD];exact Nat.le_refl _
end
noncomputable def Its (x:Str):L2.It:=⟨λi _=>i<x.cps.size,λi H v H'=>H'=H/\∃ c,x.cps[i]?=some c/\v=.str ⟨#[c]⟩,λi _=>x.cps.size<=i⟩
theorem zoU {K:PySem.W.Frag} {μ:List Addr} (x:List Nat):Wlk K (Its (zaa x)) ⟨(x.map λc=>D.str [c]).map dI,none⟩ μ h H:=by
 refine ⟨λμ1 h1 H1 i d st R1 _ e=>?_,λμ1 h1 H1 st R1 _=>?_⟩
 ·obtain ⟨d,ed,rfl⟩:=zgC e
  simp only [List.getElem?_map,Option.map_eq_some_iff] at ed;obtain ⟨c,hc,rfl⟩:=ed;refine ⟨?_,λv H' ⟨hH,c',hc',hv⟩=>?_⟩
  ·show i<x.toArray.size
   simpa using (List.getElem?_eq_some_iff.mp hc).1
  ·subst hH
   refine ⟨Stp.refl,R1,?_⟩
   have e2:x[i]?=some c':=by simpa [zaa] using hc'
   rw [hc] at e2;cases e2;rw [hv];simp only [RepI,RepR,RepD];rfl
 ·show x.toArray.size<=_
  simp
theorem zm1 (x:Str) (t:Tok) (it:Addr):Turn P w K tg (Its x) [it] it (λi h=>h.IsStrIter it (strIterType x) x t i) where
 mem:=by simp
 obj:=λi h st b hb=>by
  have e:b=it:=by simpa using hb
  subst e;obtain ⟨o,e,c,d⟩:=st
  exact ⟨o,e,λv z=>by rw [d] at z;cases z⟩
 keep:=λi h h' st k=>by
  obtain ⟨o,e,r⟩:=st;exact ⟨o,k it (by simp) o e,r⟩
 item:=by
  intro X hP hw hK hc i pins s σ H E I hf st hg;subst hP hw hK;obtain ⟨f0,f1,f2,f3,f4,f5⟩:=hf it (by simp);have hg':i<x.cps.size:=hg;obtain ⟨c,hx⟩:∃ c,x.cps[i]?=some c:=⟨x.cps[i]'hg',by simp⟩
  have go:∀ h',h'.IsStrIter it (strIterType x) x t (i+1)->Heap.SameBut it s.heap h'->∃ u,some (Value.str ⟨#[c]⟩ s.toks)=some u ∧
    wpAny (model X.prog X.w) X.A (letOwnedTupleGo tg (.ref it) u) (λ_ s2=>∃ x' H',Inv X pins σ H' s2/\RelV x' u/\(Its x).yld i H x' H'/\s2.heap.IsStrIter it (strIterType x) x t (i+1)/\∀ b∈[it],H' b=none) E { s with heap:=h',toks:=s.toks+1 }:=by
   intro h' st' sb;have I1:Inv X pins σ H { s with heap:=h',toks:=s.toks+1 }:=I.turned (t':=s.toks+1) (λb o hb e=>(sb.2 b hb).trans e) f0 f1 f3 f4 f5;obtain ⟨o,e,cl,d⟩:=id st';refine ⟨_,rfl,zjk (s:={ s with heap:=h',toks:=s.toks+1 }) e cl d ?_ ⟨.str ⟨#[c]⟩,H,I1,⟨_,rfl⟩,⟨rfl,_,hx,rfl⟩,st',λb hb=>(hf b hb).1⟩⟩;unfold strIterType
   split<;>decide
  unfold strIterType at st go ⊢
  split at st
  ·rename_i ha
   simp only [ha,if_true] at go ⊢;exact wpAny_pyNext_ascii_item st hx go
  ·rename_i ha
   simp only [ha] at go ⊢;exact wpAny_pyNext_wide_item st hx go
 done:=by
  intro X hP hw hK hc i pins s σ H E I hf st hg;subst hP hw hK;obtain ⟨f0,f1,f2,f3,f4,f5⟩:=hf it (by simp)
  have hx:x.cps[i]?=none:=by
   have hg':x.cps.size<=i:=hg
   simp;omega
  unfold strIterType at st
  split at st
  ·exact wpAny_pyNext_ascii_end (I.ok.hd hc) st hx λh' eb=>⟨rfl,I.turned (t':=s.toks) (λb o hb e=>eb b o hb e) f0 f1 f3 f4 f5⟩
  ·exact wpAny_pyNext_wide_end (I.ok.hd hc) st hx λh' eb=>⟨rfl,I.turned (t':=s.toks) (λb o hb e=>eb b o hb e) f0 f1 f3 f4 f5⟩
 self:=λ_ _ _ _ _ st h=>by
  unfold strIterType at st
  split at st
  ·exact wpAny_pyIter_striter_ascii st h
  ·exact wpAny_pyIter_striter_wide st h
inductive tI (K:PySem.W.Frag) (f:IT.Env->M Wk) (σ:St) (H:Hp) (R:It->Hp->Prop):Prop where
 | mk (μ:List Addr) (h:Sto) (env:IT.Env) (R0:Rep K μ h H) (re:RepE K μ h H env σ) (w:Wk) (h':Sto) (e:f env h=some (w,h')) (k:∀ μ' H' J,Stp μ h H μ' h' H'->Rep K μ' h' H'->Wlk K J w μ' h' H'->w.xs.length<=sizeLine->R J H')
section
variable {X:Cx} {tg:Expr}
theorem PI.imp (h:PI X tg l t) (i:∀ σ H R,t' σ H R->t σ H R):PI X tg l t':=λpins s σ H R I q=>h pins s σ H R I (i σ H R q)
theorem zqD (hl:PE X l tl):PI X tg l (λσ H R=>tl σ H λx H1=>(∃ a xs,x=.ref a/\SqL X.K H1 a xs/\(xs.length<=sizeLine->R (Itl X.K a) H1))\/(∃ a xs,x=.ref a/\SqT X.K H1 a xs/\(xs.length<=sizeLine->R (Itt X.K a) H1))\/(∃ z:Str,x=.str z/\R (Its z) H1)):=by
 intro pins s σ H R I h;refine thn (hl pins s σ H _ I h) λv s1 q_=>?_;obtain ⟨x,H1,I1,r1,q1⟩:=q_
 rcases q1 with ⟨a,xs,e,hq,q⟩ | ⟨a,xs,e,hq,q⟩ | ⟨z,e,q⟩
 ·subst e
  cases r1;obtain ⟨its,rv,p,hz⟩:=I1.list hq;refine wpAny_pyIter_list p.isList ?_;refine ⟨s1.heap.objs.size,[s1.heap.objs.size],_,_,H1,rfl,I1.kept (t':=s1.toks) λb o e=>Heap.get?_push_of_some _ e,zkU a _,⟨_,Heap.get?_push_size _ rfl,rfl,rfl⟩,λb hb=>?_,q hz⟩
  have e:b=s1.heap.objs.size:=by simpa using hb
  subst e;exact I1.fpOk (Nat.le_refl _) (I1.hok.fresh (Nat.le_refl _))
 ·subst e
  cases r1;obtain ⟨its,rv,p,hz⟩:=I1.tuple hq;refine wpAny_pyIter_tuple (show s1.heap.IsTuple a its.toArray from p) ?_;refine ⟨s1.heap.objs.size,[s1.heap.objs.size],_,_,H1,rfl,I1.kept (t':=s1.toks) λb o e=>Heap.get?_push_of_some _ e,zix a _,⟨_,Heap.get?_push_size _ rfl,rfl,rfl⟩,λb hb=>?_,q hz⟩
  have e:b=s1.heap.objs.size:=by simpa using hb
  subst e;exact I1.fpOk (Nat.le_refl _) (I1.hok.fresh (Nat.le_refl _))
 ·subst e
  obtain ⟨t,rfl⟩:=(show ∃ t',v=Value.str z t' from r1);refine wpAny_pyIter_strU ?_;refine ⟨s1.heap.objs.size,[s1.heap.objs.size],_,_,H1,rfl,I1.kept (t':=s1.toks) λb o e=>Heap.get?_push_of_some _ e,zm1 z t _,⟨_,Heap.get?_push_size _ rfl,rfl,rfl⟩,λb hb=>?_,q⟩
  have e:b=s1.heap.objs.size:=by simpa using hb
  subst e;exact I1.fpOk (Nat.le_refl _) (I1.hok.fresh (Nat.le_refl _))
theorem zep (e:zc5 r h=some (o,h')):h'=h/\match o with
  | some ls=>∃ l,r=.loc l/\h[l]?=some (.ols ls)
  | none=>True:=by
 cases r with
 | d x=>simp only [zc5,Option.some.injEq,Prod.mk.injEq] at e;obtain ⟨rfl,rfl⟩:=e;exact ⟨rfl,trivial⟩
 | loc l=>
  (delta zc5 at e;(try dsimp only at e))
  split at e
  ·rename_i ls hl
   simp only [Option.some.injEq,Prod.mk.injEq] at e;obtain ⟨rfl,rfl⟩:=e;exact ⟨rfl,l,rfl,hl⟩
  ·simp only [Option.some.injEq,Prod.mk.injEq] at e
   obtain ⟨rfl,rfl⟩:=e;exact ⟨rfl,trivial⟩
noncomputable def WkIs (K:PySem.W.Frag) (v:V) (w:Wk) (μ:List Addr) (h:Sto) (H:Hp):Prop:=
 (∃ a vs,v=.ref a/\SqL K H a vs/\vs.length=w.xs.length/\Wlk K (Itl K a) w μ h H)\/(∃ a vs,v=.ref a/\SqT K H a vs/\vs.length=w.xs.length/\Wlk K (Itt K a) w μ h H)\/(∃ z:Str,v=.str z/\w.xs.length<=sizeLine/\Wlk K (Its z) w μ h H)
theorem zsQ (R1:Rep K μ h H) (q1:RepR K μ h H r v) (e:zba r h=some (w,h')):h'=h/\WkIs K v w μ h H:=by
 (delta zba at e;simp only [zab] at e)
 obtain ⟨o,h1,e1,e2⟩:=e;obtain ⟨rfl,ho⟩:=zep e1
 cases o with
 | some ls=>
  obtain ⟨l,rfl,ho⟩:=ho;obtain ⟨a,ea,rfl⟩:=q1;simp only [zac] at e2;obtain ⟨rfl,rfl⟩:=e2;obtain ⟨vs,q2,z2⟩:=R1.obj l a _ ea ho
  exact ⟨rfl,.inl ⟨a,vs,rfl,.inl (.inl q2),by rw [List.length_map];exact z2.length.symm,zph R1 ea ho⟩⟩
 | none=>
  simp only [zab] at e2;obtain ⟨d,h2,e3,e4⟩:=e2
  cases r with
  | loc l=>
   obtain ⟨a,ea,rfl⟩:=q1;obtain ⟨o,ho,il,rfl,rfl⟩:=zew e3;obtain ⟨vs,q2,z2⟩:=R1.placeL ea ho il
   (delta wkOf items at e4;(try dsimp only at e4);simp only [zac] at e4)
   obtain ⟨rfl,rfl⟩:=e4
   exact ⟨rfl,.inl ⟨a,vs,rfl,.inl (.inl q2),by rw [List.length_map];exact z2.length.symm,znZ R1 ea ho il⟩⟩
  | d x=>
   simp only [rd,zac] at e3;obtain ⟨rfl,rfl⟩:=e3
   cases x with
   | tup xs=>
    (delta wkOf items at e4;(try dsimp only at e4);simp only [zac] at e4)
    obtain ⟨rfl,rfl⟩:=e4;simp only [RepR,RepD] at q1;obtain ⟨a,vs,rfl,q2,z2⟩:=q1
    exact ⟨rfl,.inr (.inl ⟨a,vs,rfl,q2,by rw [List.length_map];exact z2.length.symm,znO R1 q2 z2⟩)⟩
   | lst xs=>
    (delta wkOf items at e4;(try dsimp only at e4);simp only [zac] at e4)
    obtain ⟨rfl,rfl⟩:=e4;simp only [RepR,RepD] at q1;obtain ⟨a,vs,rfl,q2,z2⟩:=q1
    exact ⟨rfl,.inl ⟨a,vs,rfl,q2.sq,by rw [List.length_map];exact z2.length.symm,znf R1 q2 z2⟩⟩
   | str xs=>
    (delta wkOf items at e4;(try dsimp only at e4))
    split at e4
    ·rename_i hf
     obtain ⟨rfl,rfl⟩:=zac.mp e4;simp only [RepR,RepD] at q1;subst q1
     exact ⟨rfl,.inr (.inr ⟨zaa xs,rfl,by rw [List.length_map,List.length_map];exact of_decide_eq_true hf,zoU xs⟩)⟩
    ·cases e4
   | _=>exact zad e4
theorem zrh (hl:IE X l f):PI X tg l (tI X.K λσ=>bnd (f σ) λr=>zba r):=by
 refine PI.imp (zqD hl) λσ H R q0=>?_;obtain ⟨μ,h,env,R0,re,w,h',e,k⟩:=q0;simp only [zab] at e;obtain ⟨r,h1,e1,e2⟩:=e;refine ⟨μ,h,env,R0,re,r,h1,e1,λμ1 H1 v s1 R1 q1=>?_⟩;obtain ⟨rfl,W⟩:=zsQ R1 q1 e2
 rcases W with ⟨a,vs,rfl,q2,hl,W⟩ | ⟨a,vs,rfl,q2,hl,W⟩ | ⟨z,rfl,hz,W⟩
 ·exact .inl ⟨a,vs,rfl,q2,λhz=>k μ1 H1 _ s1 R1 W (by rw [<-hl];exact hz)⟩
 ·exact .inr (.inl ⟨a,vs,rfl,q2,λhz=>k μ1 H1 _ s1 R1 W (by rw [<-hl];exact hz)⟩)
 ·exact .inr (.inr ⟨z,rfl,k μ1 H1 _ s1 R1 W hz⟩)
theorem zqy (hg:Gl X "range") (hm:X.mg "range"=none) (ha:IE X e f) (hs:starEach [e] X.env=[(false,eval e X.env)]):PI X tg (.Call (.Name "range" p) [e] [] pos) (tI X.K λσ=>bnd (f σ) λr=>zfb r):=by
 refine PI.imp (zk6 hg hm (zaH ha zbP hs) hs) λσ H R q0=>?_;obtain ⟨μ,h,env,R0,re,w,h',e,k⟩:=q0;simp only [zab] at e;obtain ⟨r,h1,e1,e2⟩:=e;refine ⟨μ,h,env,R0,re,r,h1,e1,λμ1 H1 v s1 R1 q1=>?_⟩
 (delta zfb at e2;(try dsimp only at e2))
 split at e2
 ·rename_i n
  split at e2
  ·rename_i hb
   rw [Bool.and_eq_true] at hb;obtain ⟨rfl,rfl⟩:=zac.mp e2;simp only [RepR,RepD] at q1;have h3:n<=16777216:=of_decide_eq_true hb.2
   exact ⟨n,by rw [q1],of_decide_eq_true hb.1,by omega,k μ1 H1 _ s1 R1 (zo4 0 n.toNat) (by show ((zbf 0 n.toNat).map dI).length<=sizeLine;rw [List.length_map,zdD];show n.toNat<=16777216;omega)⟩
  ·cases e2
 ·cases e2
noncomputable def zr9 (K:PySem.W.Frag) (μ:List Addr) (h:Sto) (D:Ends) (fl:Fl) (σ:St) (H:Hp):Prop:=match fl with
 | .nx=>D.nx σ H
 | .brk=>D.bk σ H
 | .cnt=>D.ct σ H
 | .ret r=>∀ v,RepR K μ h H r v->D.rt v H
inductive tS (K:PySem.W.Frag) (f:IT.Env->M (Fl×IT.Env)) (D:Ends) (σ:St) (H:Hp):Prop where
 | mk (μ:List Addr) (h:Sto) (env:IT.Env) (R0:Rep K μ h H) (re:RepE K μ h H env σ) (fl:Fl) (env':IT.Env) (h':Sto) (e:f env h=some ((fl,env'),h')) (k:∀ μ' H' σ',Stp μ h H μ' h' H'->Rep K μ' h' H'->RepE K μ' h' H' env' σ'->zr9 K μ' h' D fl σ' H')
theorem PS.imp (h:PS X st t) (i:∀ D σ H,t' D σ H->t D σ H):PS X st t':=λpins s σ H D I q=>h pins s σ H D I (i D σ H q)
theorem PSs.imp (h:PSs X st t) (i:∀ D σ H,t' D σ H->t D σ H):PSs X st t':=λpins s σ H D I q=>h pins s σ H D I (i D σ H q)
theorem zqB (he:IE X e f):PS X (.Return (some e) pos) (tS X.K λσ=>bnd (f σ) λr=>ok (.ret r,σ)):=by
 refine PS.imp (zrl he) λD σ H q0=>?_;obtain ⟨μ,h,env,R0,re,fl,env',h',e,k⟩:=q0;simp only [zab,zac,Prod.mk.injEq] at e;obtain ⟨r,h1,e1,⟨rfl,rfl⟩,rfl⟩:=e;exact ⟨μ,h,env,R0,re,r,h1,e1,λμ1 H1 v s1 R1 q1=>k μ1 H1 σ s1 R1 (re.stp s1 R0) v q1⟩
theorem zpG (he:IE X e f) (hs:swapsWith e none pos.line X.env=pure false):PS X (.Expr e pos) (tS X.K λσ=>bnd (f σ) λ_=>ok (.nx,σ)):=by
 refine PS.imp (zoR he hs) λD σ H q0=>?_;obtain ⟨μ,h,env,R0,re,fl,env',h',e,k⟩:=q0;simp only [zab,zac,Prod.mk.injEq] at e;obtain ⟨r,h1,e1,⟨rfl,rfl⟩,rfl⟩:=e;exact ⟨μ,h,env,R0,re,r,h1,e1,λμ1 H1 v s1 R1 q1=>k μ1 H1 σ s1 R1 (re.stp s1 R0)⟩
theorem znv (he:IE X e f) (hg:PG X tge (tG X.K t)) (hs:swapsWithSole [tge] e pos.line X.env=pure false) (hw:swappedStores [tge] e X.env=pure none) (h1:(assignEach [tge] X.env).map (·.2)=[assign tge X.env]) :
  PS X (.Assign [tge] e pos) (tS X.K λσ=>bnd (f σ) λr=>bnd (zaz t r σ) λσ'=>ok (.nx,σ')):=by
 refine PS.imp (zj2 he hg hs hw h1) λD σ H q0=>?_;obtain ⟨μ,h,env,R0,re,fl,env',h',e,k⟩:=q0;simp only [zab,zac,Prod.mk.injEq] at e;obtain ⟨r,h1,e1,env1,h2,e2,⟨rfl,rfl⟩,rfl⟩:=e
 have:=zaI _ _ _ _ _ _ e2
 subst this;exact ⟨μ,h,env,R0,re,r,_,e1,λμ1 H1 v s1 R1 q1=>⟨μ1,_,env,r,env1,R1,re.stp s1 R0,q1,e2,λσ' re'=>k μ1 H1 σ' s1 R1 re'⟩⟩
theorem zpu (he:IE X e f) (ho:IE X o g) (hi:IE X i k)
  (ha:∀ v,assign (.Subscript o i p2) X.env v=(do let ov<-holding [v] (eval o X.env);let iv<-holding [v,ov] (eval i X.env);standAt p2;holding [v,ov,iv] (setItem ov iv v);release [v,ov,iv] []))
  (hs:swapsWithSole [.Subscript o i p2] e pos.line X.env=pure false) (hw:swappedStores [.Subscript o i p2] e X.env=pure none) (h1:(assignEach [.Subscript o i p2] X.env).map (·.2)=[assign (.Subscript o i p2) X.env]) :
  PS X (.Assign [.Subscript o i p2] e pos) (tS X.K λσ=>bnd (f σ) λr=>bnd (g σ) λx=>bnd (k σ) λy=>bnd (fz r) λd=>bnd (rd y) λy=>bnd (zec x y d) λ_=>ok (.nx,σ)):=by
 refine PS.imp (zj2 he (znp ho hi zme ha) hs hw h1) λD σ H q0=>?_;obtain ⟨μ,h,env,R0,re,fl,env',h',e,kk⟩:=q0;simp only [zab,zac,Prod.mk.injEq] at e;obtain ⟨r,h1,e1,x,h2,e2,y,h3,e3,d,h4,e4,dy,h5,e5,_,h6,e6,⟨rfl,rfl⟩,rfl⟩:=e;refine ⟨μ,h,env,R0,re,r,h1,e1,λμ1 H1 v s1 R1 q1=>⟨μ1,h1,env,R1,re.stp s1 R0,x,h2,e2,λμ2 H2 u s2 R2 q2=>⟨μ2,h2,env,R2,re.stp (s1.trans s2) R0,y,h3,e3,λμ3 H3 w s3 R3 q3=>?_⟩⟩⟩;obtain ⟨s4,R4,zd⟩:=zje R3 ((q1.stp s2 R1).stp s3 R2) e4;obtain ⟨rfl,zy⟩:=za2 R4 (q3.stp s4 R3) e5
 (delta zec at e6;(try dsimp only at e6))
 split at e6
 ·rename_i l k'
  obtain ⟨a,ea,rfl⟩:=(q2.stp s3 R2).stp s4 R3
  split at e6
  ·rename_i xs hx
   split at e6
   ·rename_i j hj
    simp only [Option.some.injEq,Prod.mk.injEq] at e6;obtain ⟨_,rfl⟩:=e6;obtain ⟨vs4,hH4,z4⟩:=R4.placeL ea hx rfl;simp only [RdD,RepD] at zy
    refine ⟨a,vs4,k',j,rfl,zy,hH4,by rw [<-z4.length];exact hj,?_⟩
    obtain ⟨s5,R5⟩:=write R4 ea hx (z4.set zd j);exact kk μ3 _ σ ((((s1.trans s2).trans s3).trans s4).trans s5) R5 (re.stp ((((s1.trans s2).trans s3).trans s4).trans s5) R0)
   ·cases e6
  ·cases e6
 ·cases e6
theorem zrW (hc:IT' X c ft) (ha:PSs X a (tS X.K fa)) (hb:PSs X b (tS X.K fb)) :
  PS X (.If c a b pos) (tS X.K λσ=>bnd (ft σ) λt=>if t then fa σ else fb σ):=by
 refine PS.imp (zrS hc ha hb) λD σ H q0=>?_;obtain ⟨μ,h,env,R0,re,fl,env',h',e,k⟩:=q0;simp only [zab] at e;obtain ⟨t,h1,e1,e2⟩:=e;refine ⟨μ,h,env,R0,re,t,h1,e1,λμ1 H1 v s1 R1 hv=>?_⟩;subst hv
 cases t with
 | true=>
  simp only [if_true] at e2 ⊢;exact ⟨μ1,h1,env,R1,re.stp s1 R0,fl,env',h',e2,λμ2 H2 σ2 s2 R2 q2=>k μ2 H2 σ2 (s1.trans s2) R2 q2⟩
 | false=>
  simp only [Bool.false_eq_true,if_false] at e2 ⊢;exact ⟨μ1,h1,env,R1,re.stp s1 R0,fl,env',h',e2,λμ2 H2 σ2 s2 R2 q2=>k μ2 H2 σ2 (s1.trans s2) R2 q2⟩
theorem znX:PSs X [] (tS X.K λσ=>ok (.nx,σ)):=by
 refine PSs.imp znR λD σ H q0=>?_;obtain ⟨μ,h,env,R0,re,fl,env',h',e,k⟩:=q0;simp only [zac,Prod.mk.injEq] at e;obtain ⟨⟨rfl,rfl⟩,rfl⟩:=e;exact k μ H σ Stp.refl R0 re
theorem zlR (h1:PS X st (tS X.K f)) (h2:PSs X sts (tS X.K g)):PSs X (st::sts) (tS X.K λσ=>bnd (f σ) λp=>match p.1 with | .nx=>g p.2 | _=>ok p):=by
 refine PSs.imp (zlV h1 h2) λD σ H q0=>?_;obtain ⟨μ,h,env,R0,re,fl,env',h',e,k⟩:=q0;simp only [zab] at e;obtain ⟨⟨fl1,env1⟩,h1,e1,e2⟩:=e;refine ⟨μ,h,env,R0,re,fl1,env1,h1,e1,λμ1 H1 σ1 s1 R1 q1=>?_⟩
 cases fl1 with
 | nx=>exact ⟨μ1,h1,env1,R1,q1,fl,env',h',e2,λμ2 H2 σ2 s2 R2 q2=>k μ2 H2 σ2 (s1.trans s2) R2 q2⟩
 | brk=>simp only [zac,Prod.mk.injEq] at e2;obtain ⟨⟨rfl,rfl⟩,rfl⟩:=e2;exact k μ1 H1 σ1 s1 R1 q1
 | cnt=>simp only [zac,Prod.mk.injEq] at e2;obtain ⟨⟨rfl,rfl⟩,rfl⟩:=e2;exact k μ1 H1 σ1 s1 R1 q1
 | ret r=>simp only [zac,Prod.mk.injEq] at e2;obtain ⟨⟨rfl,rfl⟩,rfl⟩:=e2;exact k μ1 H1 σ1 s1 R1 q1
theorem Ob.same_refl {o:Ob} (n:∀ c fs,o≠.ins c fs):o.same o=true:=by
 cases o with
 | lst xs=>simp only [Ob.same,Ob.isL,Ob.items,Bool.true_and];exact D.sames_refl _
 | fro xs=>simp only [Ob.same,Ob.isL,Ob.items,Bool.true_and];exact D.sames_refl _
 | ins c fs=>exact absurd rfl (n c fs)
 | ols ls=>simp only [Ob.same,beq_self_eq_true]
 | dic kvs=>exact zbX kvs
 | dfr kvs=>exact zbX kvs
theorem Ob.same_trans {a b c:Ob} (h1:a.same b=true) (h2:b.same c=true):a.same c=true:=by
 cases a with
 | ins _ _=>cases h1
 | dic ls=>
  cases b with
  | dic ls'=>have:=zdj (show zaJ ls ls'=true from h1);subst this;exact h2
  | _=>cases h1
 | dfr ls=>
  cases b with
  | dfr ls'=>have:=zdj (show zaJ ls ls'=true from h1);subst this;exact h2
  | _=>cases h1
 | ols ls=>
  cases b with
  | ols ls'=>simp only [Ob.same] at h1;have:=eq_of_beq h1;subst this;exact h2
  | _=>cases h1
 | lst xs=>
  obtain ⟨i1,e1⟩:=Ob.same_isL h1 rfl;obtain ⟨i2,e2⟩:=Ob.same_isL h2 i1;simp only [Ob.same,i2,Bool.true_and];rw [e2,e1];exact D.sames_refl _
 | fro xs=>
  obtain ⟨i1,e1⟩:=Ob.same_isL h1 rfl;obtain ⟨i2,e2⟩:=Ob.same_isL h2 i1;simp only [Ob.same,i2,Bool.true_and];rw [e2,e1];exact D.sames_refl _
noncomputable def WlOk (w:Wk) (h:Sto):Prop:=∀ i,w.l=some i->∃ o,h[i]?=some o/\∀ c fs,o≠.ins c fs
theorem zey (l:Option Nat) (h:Sto) (hl:∀ i,l=some i->∃ o,h[i]?=some o/\∀ c fs,o≠.ins c fs):zaC l h h=true:=by
 cases l with
 | none=>rfl
 | some i=>
  obtain ⟨o,ho,n⟩:=hl i rfl;simp only [zaC,ho];exact Ob.same_refl n
theorem za7 (a:zaC l h h1=true) (b:zaC l h1 h2=true):zaC l h h2=true:=by
 cases l with
 | none=>rfl
 | some i=>
  simp only [zaC] at a b ⊢
  cases e0:h[i]? with
  | none=>rw [e0] at a;cases a
  | some o0=>
   cases e1:h1[i]? with
   | none=>rw [e0,e1] at a;cases a
   | some o1=>
    cases e2:h2[i]? with
    | none=>rw [e1,e2] at b;cases b
    | some o2=>
     rw [e0,e1] at a;rw [e1,e2] at b;exact Ob.same_trans a b
theorem zrF (hp:PassesOwn (model X.prog X.w) X.A X.env X.xe) (hc:X.calm=true) (hi:PI X tg iter (tI X.K fi)) (hg:PG X tg (tGI X.K t)) (hb:PSs X body (tS X.K fb))
  (hs:∀ x,foldedSetIterable iter X.env x=pure x) (hwl:∀ σ h w h',fi σ h=some (w,h')->WlOk w h') :
  PS X (.For tg iter body [] pos) (tS X.K λσ=>bnd (fi σ) λw=>loop w.l (λx σ=>bnd (zaw t x σ) λσ'=>fb σ') w.xs σ):=by
 refine PS.imp (zrG hp hc hi hg hb hs) λD σ H q0=>?_;obtain ⟨μ,h,env,R0,re,fl,env',h',e,k⟩:=q0;simp only [zab] at e;obtain ⟨w,h1,e1,e2⟩:=e;refine ⟨μ,h,env,R0,re,w,h1,e1,λμ1 H1 J s1 R1 W1 _=>?_⟩
 refine ⟨λi m σ2 H2=>∃ μ2 h2 env2,Stp μ1 h1 H1 μ2 h2 H2/\zaC w.l h1 h2=true/\Rep X.K μ2 h2 H2/\RepE X.K μ2 h2 H2 env2 σ2/\i+m=w.xs.length ∧
   loop w.l (λx σ=>bnd (zaw t x σ) λσ'=>fb σ') (w.xs.drop i) env2 h2=some ((fl,env'),h'),⟨w.xs.length,μ1,h1,env,Stp.refl,zey _ _ (hwl _ _ _ _ e1),R1,re.stp s1 R0,by omega,by rw [List.drop_zero];exact e2⟩,?_⟩
 rintro i m σ2 H2 ⟨μ2,h2,env2,s2,sy2,R2,re2,him,el⟩
 cases hx:w.xs[i]? with
 | none=>
  have hi':w.xs.length<=i:=by simpa using hx
  have hi2:i=w.xs.length:=by omega
  subst hi2;rw [List.drop_of_length_le (Nat.le_refl _)] at el;simp only [loop,zac,Prod.mk.injEq] at el;obtain ⟨⟨rfl,rfl⟩,rfl⟩:=el;exact .inl ⟨W1.stop μ2 h2 H2 s2 R2 sy2,k μ2 H2 σ2 (s1.trans s2) R2 re2⟩
 | some x=>
  have hil:i<w.xs.length:=(List.getElem?_eq_some_iff.mp hx).1
  have hdrop:w.xs.drop i=x::w.xs.drop (i+1):=by
   rw [List.drop_eq_getElem_cons hil]
   have:=(List.getElem?_eq_some_iff.mp hx).2
   rw [this]
  rw [hdrop] at el;simp only [loop] at el;obtain ⟨go,yld⟩:=W1.go μ2 h2 H2 i x s2 R2 sy2 hx
  cases ef:bnd (zaw t x env2) (λσ'=>fb σ') h2 with
  | none=>rw [ef] at el;cases el
  | some p=>
   obtain ⟨⟨fl3,env3⟩,h3⟩:=p;rw [ef] at el;simp only [zab] at ef;obtain ⟨env4,h4,e4,e5⟩:=ef
   have:=zgI e4
   subst this
   refine .inr ⟨go,λσ' H'=>∃ m',m'<m/\∃ μ5 h5 env5,Stp μ1 h1 H1 μ5 h5 H'/\zaC w.l h1 h5=true/\Rep X.K μ5 h5 H'/\RepE X.K μ5 h5 H' env5 σ'/\(i+1)+m'=w.xs.length ∧
    loop w.l (λx σ=>bnd (zaw t x σ) λσ'=>fb σ') (w.xs.drop (i+1)) env5 h5=some ((fl,env'),h'),λσ' H' hN=>hN,λv H' hy=>?_⟩
   obtain ⟨sy,Ry,zx⟩:=yld v H' hy;refine ⟨μ2,_,env2,x,env4,Ry,re2.stp sy R2,zx,e4,λσ4 re4=>⟨μ2,_,env4,Ry,re4,fl3,env3,h3,e5,λμ5 H5 σ5 s5' R5 re5=>?_⟩⟩;have s5:=sy.trans s5'
   cases fl3 with
   | nx=>
    simp only at el
    split at el
    ·rename_i sy5
     exact ⟨m-1,by omega,μ5,h3,env3,s2.trans s5,za7 sy2 sy5,R5,re5,by omega,el⟩
    ·cases el
   | cnt=>
    simp only at el
    split at el
    ·rename_i sy5
     exact ⟨m-1,by omega,μ5,h3,env3,s2.trans s5,za7 sy2 sy5,R5,re5,by omega,el⟩
    ·cases el
   | brk=>
    simp only [Option.some.injEq,Prod.mk.injEq] at el;obtain ⟨⟨rfl,rfl⟩,rfl⟩:=el;exact k μ5 H5 σ5 ((s1.trans s2).trans s5) R5 re5
   | ret r=>
    simp only [Option.some.injEq,Prod.mk.injEq] at el;obtain ⟨⟨rfl,rfl⟩,rfl⟩:=el;exact k μ5 H5 σ5 ((s1.trans s2).trans s5) R5 re5
end
end IT
namespace PySem
section
variable {prog:Program} {w:World} {A:Around} {R:Result->Shared->Prop} {s:Shared}
theorem zhz (I:Nat->Shared->Prop)
  (turn : ∀ n s,I n s->wpAny (model prog w) A (pyNext it) (λr s₁=>match r with
   | none=>R (.ok .next) s₁
   | some v=>wpAny (model prog w) A (letOwnedTupleGo target it v) (λ_ s₁'=>wpAny (model prog w) A (assign target env v) (λ_ s₂=>
     wpAny (model prog w) A (forIn ifs true λc r=>if r=true then do let ok<-isTrue c env (eval c env);pure (ForInStep.yield ok) else pure (ForInStep.yield r)) (λok s₃=>
      if ok=true then wpAny (model prog w) A (eval elt env) (λx s₄=>
       wpAny (model prog w) A (call (.builtin "list.append") [acc,x]) (λ_ s₅=>∃ m,m<n/\I m s₅) (λ_ _=>False) s₄) (λ_ _=>False) s₃
      else ∃ m,m<n/\I m s₃) (λ_ _=>False) s₂) (λ_ _=>False) s₁') (λ_ _=>False) s₁) (λ_ _=>False) s)
  (n:Nat) (h:I n s) :
  codeAny (model prog w) A (.compLoop (.ListComp elt [⟨target,iter,ifs,0⟩] scope pos) 0 it acc env) R s:=by
 refine codeAny_loop rfl I (λn s hI=>?_) n h
 show wpAny _ A ((compTurn (.ListComp elt [⟨target,iter,ifs,0⟩] scope pos) 0 it acc env).onRaise (λx=>do noteFrame x env;theTreesLotGoes x)) _ _ s
 refine wpAny_noted ?_;rw [compTurn_list];refine wpAny_bind (wpAny_standAt (wpAny_bind (wpAny_mono (turn n s hI) (λr s₁ h₁=>?_) λ_ _ h'=>h'.elim)))
 cases r with
 | none=>exact wpAny_pure h₁
 | some v=>
  refine wpAny_bind (wpAny_mono h₁ (λ_ s₁' h₁'=>?_) λ_ _ h'=>h'.elim);refine wpAny_bind (wpAny_mono h₁' (λ_ s₂ h₂=>wpAny_bind (wpAny_mono h₂ (λok s₃ h₃=>?_) λ_ _ h'=>h'.elim)) λ_ _ h'=>h'.elim)
  cases ok with
  | false=>exact wpAny_pure ⟨rfl,h₃⟩
  | true=>
   exact wpAny_bind (wpAny_bind (wpAny_mono h₃ (λx s₄ h₄=>wpAny_bind (wpAny_mono h₄ (λ_ s₅ h₅=>wpAny_pure (wpAny_pure ⟨rfl,h₅⟩)) λ_ _ h'=>h'.elim)) λ_ _ h'=>h'.elim))
end
theorem zca (h:∀ x∈scope.names,x.2=.free->∃ c,env.cells.lookup x.1=some c) :
  ∃ cl,closureFor scope env=pure cl/\(∀ x c,cl.lookup x=some c->env.cells.lookup x=some c)/\∀ x∈scope.names,x.2=.free->∃ c,cl.lookup x.1=some c:=by
 unfold closureFor
 have gen:∀ (l:List (Str×NameKind)) (cs:List (Str×Addr)),(∀ x∈l,x.2=.free->∃ c,env.cells.lookup x.1=some c)->(∀ x c,cs.lookup x=some c->env.cells.lookup x=some c) →
   ∃ cl,(forIn l cs λ(x:Str×NameKind) (r:List (Str×Addr))=>(if x.2==.free then do let c<-cellOf env x.1;pure (ForInStep.yield ((x.1,c)::r)) else pure (ForInStep.yield r):Sem (ForInStep (List (Str×Addr)))))=pure cl ∧
    (∀ x c,cl.lookup x=some c->env.cells.lookup x=some c)/\(∀ x c,cs.lookup x=some c->∃ c',cl.lookup x=some c')/\∀ x∈l,x.2=.free->∃ c,cl.lookup x.1=some c:=by
  intro l
  induction l with
  | nil=>intro cs _ h2;exact ⟨cs,rfl,h2,λx c e=>⟨c,e⟩,λx hx=>absurd hx (by simp)⟩
  | cons y l ih=>
   intro cs h1 h2
   by_cases hy:y.2=.free
   ·obtain ⟨c,hc⟩:=h1 y (by simp) hy
    have hcell:cellOf env y.1=pure c:=by unfold cellOf;rw [hc]
    obtain ⟨cl,e,a1,a2,a3⟩:=ih ((y.1,c)::cs) (λx hx=>h1 x (by simp [hx])) (λx c' e=>by
     rw [List.lookup_cons] at e
     split at e
     ·rename_i hb
      cases e;rw [eq_of_beq hb];exact hc
     ·exact h2 x c' e)
    refine ⟨cl,?_,a1,λx c' e'=>?_,λx hx hf=>?_⟩
    ·rw [List.forIn_cons,if_pos (by rw [hy];rfl),hcell]
     exact e
    ·by_cases hb:(x==y.1)=true
     ·exact a2 x c (by rw [List.lookup_cons,hb])
     ·exact a2 x c' (by rw [List.lookup_cons];simp only [Bool.not_eq_true] at hb;rw [hb];exact e')
    ·rcases List.mem_cons.mp hx with rfl | hx
     ·exact a2 x.1 c (by rw [List.lookup_cons];simp)
     ·exact a3 x hx hf
   ·obtain ⟨cl,e,a1,a2,a3⟩:=ih cs (λx hx=>h1 x (by simp [hx])) h2
    refine ⟨cl,?_,a1,a2,λx hx hf=>?_⟩
    ·rw [List.forIn_cons,if_neg (by intro z;exact hy (eq_of_beq z))]
     exact e
    ·rcases List.mem_cons.mp hx with rfl | hx
     ·exact absurd hf hy
     ·exact a3 x hx hf
 obtain ⟨cl,e,a1,_,a3⟩:=gen scope.names [] h (λx c e=>by simp at e);refine ⟨cl,?_,a1,a3⟩
 show (forIn scope.names ([]:List (Str×Addr)) (λ(x:Str×NameKind) (r:List (Str×Addr))=>(if x.2==.free then do let c<-cellOf env x.1;pure (ForInStep.yield ((x.1,c)::r)) else pure (ForInStep.yield r):Sem (ForInStep (List (Str×Addr))))) >>= λcs=>pure cs)=pure cl
 rw [e];rfl
end PySem
namespace IT
open PySem PySem.Spec L2
noncomputable def clrS:List Nat->St->St
 | [],σ=>σ
 | i::r,σ=>clrS r (σ.set i none)
theorem zfD:∀ (own:List Nat) (σ:St),(clrS own σ).length=σ.length
 | [],_=>rfl
 | i::r,σ=>by simp [clrS,zfD r]
theorem zeY:∀ (own:List Nat) (σ:St) (i:Nat) (v:V),(clrS own σ)[i]?=some (some v)->σ[i]?=some (some v)/\i ∉ own
 | [],σ,i,v,e=>⟨e,by simp⟩
 | j::r,σ,i,v,e=>by
  obtain ⟨e1,n1⟩:=zeY r (σ.set j none) i v e
  by_cases hij:i=j
  ·subst hij
   rw [List.getElem?_set] at e1;simp only [if_true] at e1
   split at e1<;>cases e1
  ·rw [List.getElem?_set_ne (Ne.symm hij)] at e1
   exact ⟨e1,by simp [hij,n1]⟩
noncomputable def blk (X:Cx) (N':List Str) (s₂:Shared) (H₂:Hp) (cenv:PySem.Env) (fp:List Addr) (pins:List (Addr×Obj)):Cx:=
 { X with N:=N',s₀:=s₂,H₀:=H₂,env:=cenv,outer:=X.stack,ex:=fp,fn:=λ_=>false,pn:=X.pn++pins }
noncomputable def PTs (X:Cx) (ifs:List Expr) (t:TT):Prop:=
 ∀ (pins:List (Addr×Obj)) (s:Shared) (σ:St) (H:Hp) (Q:Bool->Hp->Prop),Inv X pins σ H s->t σ H Q →
  wpAny (model X.prog X.w) X.A (forIn ifs true λc r=>if r=true then do let ok<-isTrue c X.env (eval c X.env);pure (ForInStep.yield ok) else pure (ForInStep.yield r)) (TP X pins σ Q) X.xe s
theorem zpo:PTs X [] (λ_ H Q=>Q true H):=λpins s σ H Q I q=>wpAny_tests_nil ⟨H,I,q⟩
theorem zop (h:PT X c t):PTs X [c] t:=λpins s σ H Q I q=>wpAny_tests_one (h pins s σ H Q I q)
noncomputable def ziN (wi:TI) (own:List Nat) (g:TG) (tc:TT) (te:TE):TE:=λσ H Q=>wi σ H λJ H1=>∃ W:Nat->Nat->List V->Hp->Prop,(∃ m,W 0 m [] H1)/\∀ i m vs H,W i m vs H →
 (J.stop i H/\vs.length<=sizeLine/\∀ a,H a=none->Q (.ref a) (upd H a (.lst vs))) ∨
 (J.go i H/\vs.length<sizeLine/\∀ x H',J.yld i H x H'->g x (clrS own σ) H' λσ2 H2=>tc σ2 H2 λb H3=>if b=true then te σ2 H3 λv H4=>∃ m',m'<m/\W (i+1) m' (vs++[v]) H4 else ∃ m',m'<m/\W (i+1) m' vs H3)
section
variable {X:Cx}
theorem znl {cl:List (Str×Addr)} (hcell:∀ y∈scope.names,y.2≠.cell) (hcl2:∀ x∈scope.names,x.2=.free->∃ c,cl.lookup x.1=some c):∀ x,Vis (relabel scope X.env) x->(relabel scope X.env).names.lookup x≠some .local->∃ c,cl.lookup x=some c:=by
 intro x hv hnl
 have : ∀ (l:List (Str×NameKind)),(∀ y∈l,y.2≠.cell)->(∀ y∈l,y.2=.free->∃ c,cl.lookup y.1=some c)->∀ k,(k=.cell\/k=.free) →
   (l.map λ(n,k)=>if (k==NameKind.free&&X.env.scope.kind==.function&&X.env.kindOf n==some .cell) then (n,NameKind.cell) else (n,k)).lookup x=some k->∃ c,cl.lookup x=some c:=by
  intro l
  induction l with
  | nil=>intro _ _ k _ e;simp at e
  | cons y l ih=>
   intro h1 h2 k hkk e;obtain ⟨n,kd⟩:=y;rw [List.map_cons] at e
   by_cases hb:(kd==NameKind.free&&X.env.scope.kind==.function&&X.env.kindOf n==some .cell)=true
   ·simp only [hb,if_true] at e
    rw [List.lookup_cons] at e
    split at e
    ·rename_i hx
     rw [eq_of_beq hx];refine h2 (n,kd) (by simp) ?_;rw [Bool.and_eq_true,Bool.and_eq_true] at hb;exact eq_of_beq hb.1.1
    ·exact ih (λy hy=>h1 y (by simp [hy])) (λy hy=>h2 y (by simp [hy])) k hkk e
   ·simp only [hb] at e
    rw [List.lookup_cons] at e
    split at e
    ·rename_i hx
     have e':kd=k:=by simpa using e
     subst e';rw [eq_of_beq hx]
     rcases hkk with z | z
     ·exact absurd z (h1 (n,kd) (by simp))
     ·exact h2 (n,kd) (by simp) z
    ·exact ih (λy hy=>h1 y (by simp [hy])) (λy hy=>h2 y (by simp [hy])) k hkk e
 rcases hv with z | z | z
 ·exact absurd z hnl
 ·exact this scope.names hcell hcl2 .cell (.inl rfl) z
 ·exact this scope.names hcell hcl2 .free (.inr rfl) z
theorem zoN {own:List Nat} {H₂:Hp} {s₂:Shared} {fp:List Addr} {h₄:Heap} {tk:Nat}
  (hkind:scope.kind=.function) (hcell:∀ y∈scope.names,y.2≠.cell)
  (hN:∀ (i:Nat) (x:Str),N'[i]?=some x->Vis (relabel scope X.env) x->i∈own\/(X.N[i]?=some x/\(X.env.kindOf x=some .cell\/X.env.kindOf x=some .free)/\(relabel scope X.env).names.lookup x≠some .local))
  (hlen:N'.length=X.N.length) (hcl1:∀ x c,cl.lookup x=some c->X.env.cells.lookup x=some c) (hcl2:∀ x∈scope.names,x.2=.free->∃ c,cl.lookup x.1=some c)
  (I:Inv X pins σ H₂ s₂) (hf:∀ b∈fp,FpOk X pins H₂ b) (hex:∀ b∈fp,b<s₂.heap.objs.size)
  (hk:∀ b o,s₂.heap.get? b=some o->h₄.get? b=some o) (hns:∃ m,h₄.Ns (s₂.heap.objs.size+1) m) (hacc:h₄.get? s₂.heap.objs.size=some { cls:=.type "list",data:=.seq #[] }) :
  Inv (blk X N' s₂ H₂ (compEnvC scope cl (s₂.heap.objs.size+1) X.env) fp pins) [(s₂.heap.objs.size,{ cls:=.type "list",data:=.seq #[] })] (clrS own σ) H₂ { s₂ with heap:=h₄,toks:=tk }:=by
 have fsub:∀ b∈frs X.stack,b=X.env.locals\/b∈X.fs:=λb hb=>List.mem_cons.mp (I.stkSub b hb);have fresh:∀ b,s₂.heap.objs.size<=b->H₂ b=none:=λb hb=>I.hok.fresh hb
 have flt:∀ b∈frs X.stack,b<s₂.heap.objs.size:=λb hb=>by
  obtain ⟨_,o,ho,_⟩:=I.stack.mem hb;exact Heap.lt_size ho
 have vis_free:=znl (X:=X) hcell hcl2
 refine ⟨⟨I.ok.mod,?_,I.ok.glob,I.ok.blt,Nat.le_succ _,λx y c e1 e2=>I.ok.inj x y c (hcl1 x c e1) (hcl1 y c e2),λx hx=>?_,λx c e=>absurd (show false=true from e) Bool.false_ne_true,I.ok.hd,I.ok.frames,.inl rfl,λb hb=>⟨?_,λx c e=>?_⟩,I.bs,Nat.le_trans I.ok.bsz I.sz,λb o e hb=>?_,λb hb hb2=>?_,I.stack,I.stkFree⟩,
  rfl,I.bare,Un.kept hk,?_,λx c e=>?_,fresh _ (Nat.le_succ _),λx c e=>I.freeC x c (hcl1 x c e),λp hp=>?_,I.hok.kept hk,?_⟩
 ·exact hkind
 ·rcases hx with z | z
  ·exact vis_free x (.inr (.inl z)) (by
    have z':(relabel scope X.env).names.lookup x=some .cell:=z
    rw [z'];decide)
  ·exact vis_free x (.inr (.inr z)) (by
    have z':(relabel scope X.env).names.lookup x=some .free:=z
    rw [z'];decide)
 ·exact Nat.ne_of_lt (Nat.lt_succ_of_lt (hex b hb))
 ·exact (hf b hb).2.2.2.2.1 x c (hcl1 x c e)
 ·rcases (hf b hb).2.2.2.1 with z | z
  ·exact I.ok.noex b o e z
  ·have h1:b<X.base.objs.size:=Heap.lt_size e
   have h2:=I.ok.bsz;exact absurd (Nat.lt_of_lt_of_le h1 (Nat.le_trans h2 z)) (Nat.lt_irrefl _)
 ·rcases fsub b hb2 with z | z
  ·exact (hf b hb).2.1 z
  ·exact (hf b hb).2.2.1 z
 ·obtain ⟨m,hm⟩:=hns
  obtain ⟨mX,_,hl⟩:=I.loc;refine ⟨m,hm,λi x v e1 e2 e3=>?_⟩;obtain ⟨e2',ni⟩:=zeY own σ i v e2
  rcases hN i x e1 e3 with z | ⟨z,zk,nl⟩
  ·exact absurd z ni
  ·have vx:Vis X.env.scope x:=by
    rcases zk with q | q
    ·exact .inr (.inl q)
    ·exact .inr (.inr q)
   obtain ⟨u,ru,lk⟩:=hl i x v z e2' vx;refine ⟨u,ru,?_⟩
   rcases lk with ⟨q,_⟩ | ⟨_,c,ec,hcv⟩
   ·rcases zk with q' | q'
    ·rw [q] at q';cases q'
    ·rw [q] at q';cases q'
   ·obtain ⟨c',ec'⟩:=vis_free x e3 nl
    have:=hcl1 x c' ec'
    rw [ec] at this;cases this;refine .inr ⟨?_,c,ec',hcv.keeps hk⟩
    rcases e3 with q | q | q
    ·exact absurd q nl
    ·exact .inl q
    ·exact .inr q
 ·obtain ⟨v,q⟩:=I.cell x c (hcl1 x c e)
  exact ⟨v,q.keeps hk⟩
 ·rcases List.mem_append.mp hp with z | z
  ·obtain ⟨e1,e2,e3,e4,e5⟩:=I.pin p z
   refine ⟨hk _ _ e1,e2,Nat.ne_of_lt (Nat.lt_succ_of_lt (Heap.lt_size e1)),λhb=>?_,e5⟩
   rcases fsub p.1 hb with q | q
   ·exact e3 q
   ·exact e4 q
  ·have ep:p=(s₂.heap.objs.size,({ cls:=.type "list",data:=.seq #[] }:Obj)):=by simpa using z
   subst ep;exact ⟨hacc,fresh _ (Nat.le_refl _),Nat.ne_of_lt (Nat.lt_succ_self _),λhb=>absurd (flt _ hb) (Nat.lt_irrefl _),λv q=>by cases q⟩
 ·show (clrS own σ).length=N'.length
  rw [zfD,hlen];exact I.len
theorem zfQ {own:List Nat} {σ σ':St} {H₂ H':Hp} {s₂ s':Shared} {fp:List Addr}
  (hcell:∀ y∈scope.names,y.2≠.cell)
  (hN:∀ (i:Nat) (x:Str),N'[i]?=some x->Vis (relabel scope X.env) x->i∈own\/(X.N[i]?=some x/\(X.env.kindOf x=some .cell\/X.env.kindOf x=some .free)/\(relabel scope X.env).names.lookup x≠some .local))
  (hlen:N'.length=X.N.length) (hcl1:∀ x c,cl.lookup x=some c->X.env.cells.lookup x=some c) (hcl2:∀ x∈scope.names,x.2=.free->∃ c,cl.lookup x.1=some c)
  (I:Inv X pins σ H₂ s₂) (hf:∀ b∈fp,FpOk X pins H₂ b) (J:Inv (blk X N' s₂ H₂ (compEnvC scope cl C X.env) fp pins) pl σ' H' s'):Inv (blk X N' s₂ H₂ (compEnvC scope cl C X.env) fp pins) pl (clrS own σ) H' s':=by
 refine ⟨J.ok,J.os,J.bare,J.base,?_,J.cell,J.free,J.freeC,J.pin,J.hok,?_⟩
 ·obtain ⟨m,hm,_⟩:=J.loc
  obtain ⟨mX,_,hl⟩:=I.loc;refine ⟨m,hm,λi x v e1 e2 e3=>?_⟩;obtain ⟨e2',ni⟩:=zeY own σ i v e2
  rcases hN i x e1 e3 with z | ⟨z,zk,nl⟩
  ·exact absurd z ni
  ·have vx:Vis X.env.scope x:=by
    rcases zk with q | q
    ·exact .inr (.inl q)
    ·exact .inr (.inr q)
   obtain ⟨u,ru,lk⟩:=hl i x v z e2' vx;refine ⟨u,ru,?_⟩
   rcases lk with ⟨q,_⟩ | ⟨_,c,ec,o,ho,hd⟩
   ·rcases zk with q' | q'
    ·rw [q] at q';cases q'
    ·rw [q] at q';cases q'
   ·obtain ⟨c',ec'⟩:=znl (X:=X) hcell hcl2 x e3 nl
    have:=hcl1 x c' ec'
    rw [ec] at this;cases this
    have hcv:s'.heap.IsCell c (some u):=by
     obtain ⟨sl,q⟩:=J.base.any ho (I.freeC x c ec) λhb=>(hf c hb).2.2.2.2.1 x c ec rfl;exact ⟨_,q,hd⟩
    refine .inr ⟨?_,c,ec',hcv⟩
    rcases e3 with q | q | q
    ·exact absurd q nl
    ·exact .inl q
    ·exact .inr q
 ·show (clrS own σ).length=N'.length
  rw [zfD,hlen];exact I.len
theorem zmd
  (I:Inv X pins σ H₂ s₂) (hf:∀ b∈fp,FpOk X pins H₂ b) (J:Inv (blk X N' s₂ H₂ cenv fp pins) pl σ' H' s') (hacc:s₂.heap.objs.size<=acc) (hn:H' acc=none)
  (ho:s'.heap.get? acc=some { cls:=.type "list",data:=.seq its.toArray n }) (r:Vals vs its) (hz:vs.length<=sizeLine):Inv X pins σ (upd H' acc (.lst vs)) s':=by
 have lt:∀ b o,s₂.heap.get? b=some o->b≠acc:=λb o e z=>absurd (Nat.lt_of_lt_of_le (Heap.lt_size e) (by rw [z];exact hacc)) (Nat.lt_irrefl _)
 refine I.call' (ch:=fp) J.os ⟨J.base.keep,J.base.slot,λb o e n hx=>?_,J.base.there,λb xs e=>?_,λb o u e=>?_,λb ps e=>?_⟩ (λb u e=>?_) J.bare (λb hb=>?_)
 ·rw [zao (lt b o e)]
  exact J.base.free b o e n hx
 ·have:=J.base.tups b xs e
  rw [zao (zap this hn)];exact this
 ·have:=J.base.frzs b o u e
  rw [zao (zap this hn)];exact this
 ·obtain ⟨more,this⟩:=J.base.tbls b ps e
  refine ⟨more,?_⟩;rw [zao (zap this hn)];exact this
 ·by_cases hb:b=acc
  ·subst hb
   rw [zaj] at e;cases e;exact ⟨hz,its,n,r,ho⟩
  ·rw [zao hb] at e
   exact (J.hok b u e).stay (λc o _ q=>q) (λc q=>by rw [zao (zap q hn)];exact q) λc xs q=>by rw [zao (zap q hn)];exact q
 ·obtain ⟨_,h1,_,h3,h4,h5⟩:=hf b hb
  exact ⟨h3,h1,h4,h5⟩
end
section
variable {X:Cx}
structure Gone (X:Cx) (pins:List (Addr×Obj)) (H:Hp) (C:Addr) (s:Shared):Prop where
 ns:∃ m,s.heap.Ns C m
 free:H C=none
 loc:C≠X.env.locals
 fs:C ∉ X.fs
 new:X.s₀.heap.objs.size<=C
 cel:∀ x c,X.env.cells.lookup x=some c->c≠C
 pin:∀ p∈X.pn++pins,p.1≠C
inductive CI (P:List Value->Nat->Hp->Shared->Prop) (tn:Nat->Heap->Prop) (fp:List Addr) (W:Nat->Nat->List V->Hp->Prop) (n:Nat) (s':Shared):Prop
 | mk (i:Nat) (vs:List V) (H':Hp) (its:List Value) (nn:Nat) (J:P its nn H' s') (st:tn i s'.heap) (fr:∀ b∈fp,H' b=none) (rv:Vals vs its) (w:W i n vs H')
theorem zgt
  {cl:List (Str×Addr)} {RR:Value->Addr->Result->Shared->Prop}
  (hx:X.xe=λ_ _=>False) (hc:X.calm=true) (hkind:scope.kind=.function) (hcell:∀ y∈scope.names,y.2≠.cell)
  (hN:∀ (i:Nat) (x:Str),N'[i]?=some x->Vis (relabel scope X.env) x->i∈own\/(X.N[i]?=some x/\(X.env.kindOf x=some .cell\/X.env.kindOf x=some .free)/\(relabel scope X.env).names.lookup x≠some .local))
  (hlen:N'.length=X.N.length) (hcl1:∀ x c,cl.lookup x=some c->X.env.cells.lookup x=some c) (hcl2:∀ x∈scope.names,x.2=.free->∃ c,cl.lookup x.1=some c)
  (hi:PI X tg iter wi)
  (hB:∀ s₂ H₂ C fp,PG (blk X N' s₂ H₂ (compEnvC scope cl C X.env) fp pins) tg g/\PTs (blk X N' s₂ H₂ (compEnvC scope cl C X.env) fp pins) ifs tc/\PE (blk X N' s₂ H₂ (compEnvC scope cl C X.env) fp pins) elt te)
  (I:Inv X pins σ H s) (q:ziN wi own g tc te σ H Q)
  (hRR:∀ a C s' H',Inv X pins σ H' s'->Q (.ref a) H'->Gone X pins H' C s'->RR (.ref a) C (.ok .next) s') :
  wpAny (model X.prog X.w) X.A (eval iter X.env) (λx s₁=>wpAny (model X.prog X.w) X.A (pyIter x) (λit s₂=>wpAny (model X.prog X.w) X.A (newList []) (λacc s₃=>
   wpAny (model X.prog X.w) X.A (newFunctionEnv scope X.env.globals cl [] X.env.qual none .none (some X.env)) (λcenv s₄=>
    codeAny (model X.prog X.w) X.A (.compStart (.ListComp elt [⟨tg,iter,ifs,0⟩] scope pos) 0 it acc { cenv with scope:=relabel scope X.env }) (RR acc cenv.locals) s₄) X.xe s₃) X.xe s₂) X.xe s₁) X.xe s:=by
 refine thn (hi pins s σ H _ I q) λv s1 h1=>thn h1 λitv s2 h2=>?_;obtain ⟨it,fp,tn,J,H2,e,I2,T,st2,f2,W,⟨m0,w0⟩,turn⟩:=h2;subst e
 refine wpAny_newObj_type (wpAny_newFunctionEnv hcell (by intro y hy;simp at hy) (λh₁ hns₁ hsb₁=>?_) hkind)
 dsimp only at hns₁ hsb₁ ⊢;generalize hG:s2.heap.push { cls:=.type "list",dict:=none,data:=.seq ([]:List Value).toArray }=G at hns₁ hsb₁ ⊢
 have hGs:G.objs.size=s2.heap.objs.size+1:=by rw [<-hG,Heap.size_push]
 rw [hGs] at hns₁ hsb₁ ⊢;have hold:∀ b o,s2.heap.get? b=some o->h₁.get? b=some o:=λb o e=>hsb₁.extBut b o (Nat.ne_of_lt (Nat.lt_succ_of_lt (Heap.lt_size e))) (Heap.get?_push_of_some _ (hG▸Heap.get?_push_of_some _ e));have hacc:h₁.get? s2.heap.objs.size=some { cls:=.type "list",data:=.seq #[] }:=hsb₁.extBut _ _ (Nat.ne_of_lt (Nat.lt_succ_self _)) (Heap.get?_push_of_some _ (hG▸Heap.get?_push_size _ rfl))
 have hex:∀ b∈fp,b<s2.heap.objs.size:=λb hb=>by
  obtain ⟨o,ho,_⟩:=T.obj _ _ st2 b hb;exact Heap.lt_size ho
 have J0:=zoN (X:=X) (own:=own) (tk:=s2.toks+([]:List (Str×Value)).length) hkind hcell hN hlen hcl1 hcl2 I2 f2 hex hold ⟨_,hns₁⟩ hacc;have st4:tn 0 h₁:=T.keep _ _ _ st2 λb hb o e=>hold b o e
 have frame:∀ b∈frs X.stack,b≠X.env.locals->b∈X.fs:=λb hb hne=>by
  rcases List.mem_cons.mp (I2.stkSub b hb) with z | z
  ·exact absurd z hne
  ·exact z
 have stat:∀ {H':Hp} {pl:List (Addr×Obj)},(∀ b∈fp,H' b=none)->(∀ p∈pl,∀ b∈fp,p.1≠b)->∀ b∈fp,FpOk (blk X N' s2 H2 (compEnvC scope cl (s2.heap.objs.size+1) X.env) fp pins) pl H' b:=by
  intro H' pl hn hp b hb;obtain ⟨g0,g1,g2,g3,g4,g5⟩:=f2 b hb;refine ⟨hn b hb,Nat.ne_of_lt (Nat.lt_succ_of_lt (hex b hb)),λhs=>?_,.inl hb,λx c e=>g4 x c (hcl1 x c e),λp hpp=>?_⟩
  ·exact g2 (frame b hs g1)
  ·rcases List.mem_append.mp hpp with z | z
   ·exact g5 p z
   ·exact hp p z b hb
 have accne:∀ b∈fp,s2.heap.objs.size≠b:=λb hb z=>absurd (hex b hb) (by rw [<-z];exact Nat.lt_irrefl _)
 have loop:codeAny (model X.prog X.w) X.A (.compLoop (.ListComp elt [⟨tg,iter,ifs,0⟩] scope pos) 0 (.ref it) (.ref s2.heap.objs.size) (compEnvC scope cl (s2.heap.objs.size+1) X.env)) (RR (.ref s2.heap.objs.size) (s2.heap.objs.size+1))
   { s2 with heap:=h₁,toks:=s2.toks+([]:List (Str×Value)).length }:=by
  refine zhz (CI (λits nn H' s'=>Inv (blk X N' s2 H2 (compEnvC scope cl (s2.heap.objs.size+1) X.env) fp pins) [(s2.heap.objs.size,{ cls:=.type "list",data:=.seq its.toArray nn })] (clrS own σ) H' s') tn fp W) ?_ m0 ⟨0,[],H2,[],0,J0,st4,λb hb=>(f2 b hb).1,.nil,w0⟩
  rintro n s3 ⟨i,vs,H3,its,nn,J3,st3,fr3,rv,w3⟩
  have pne:∀ p∈[(s2.heap.objs.size,({ cls:=.type "list",data:=.seq its.toArray nn }:Obj))],∀ b∈fp,p.1≠b:=by
   intro p hp b hb
   have ep:p=(s2.heap.objs.size,({ cls:=.type "list",data:=.seq its.toArray nn }:Obj)):=by simpa using hp
   rw [ep];exact accne b hb
  rcases turn i n vs H3 w3 with ⟨stop,hz,qn⟩ | ⟨go,hz,step⟩
  ·refine wpAny_mono (T.done (blk X N' s2 H2 (compEnvC scope cl (s2.heap.objs.size+1) X.env) fp pins) rfl rfl rfl hc i _ s3 _ H3 (λ_ _=>False) J3 (stat fr3 pne) st3 stop) (λr s4 q_=>?_) λ_ _ z=>z
   obtain ⟨hr,I4⟩:=q_;subst hr;obtain ⟨ea,na,_,_,_⟩:=I4.pin (s2.heap.objs.size,_) (List.mem_append_right _ (List.mem_singleton.mpr rfl));have I5:=zmd (X:=X) I2 f2 I4 (Nat.le_refl _) na ea rv hz;obtain ⟨m,hm,_⟩:=I4.loc;refine hRR _ _ s4 _ I5 (qn _ na) ⟨⟨m,hm⟩,?_,?_,λhb=>?_,?_,λx c e=>?_,λp hp=>?_⟩
   ·rw [zao (Nat.ne_of_gt (Nat.lt_succ_self _))]
    exact I4.free
   ·exact Nat.ne_of_gt (Nat.lt_succ_of_lt I2.lt)
   ·exact I2.nofs (Nat.le_succ _) hb
   ·exact Nat.le_trans I2.sz (Nat.le_succ _)
   ·obtain ⟨v,z⟩:=I2.cell x c e
    exact Nat.ne_of_lt (Nat.lt_succ_of_lt z.lt)
   ·exact Nat.ne_of_lt (Nat.lt_succ_of_lt (Heap.lt_size (I2.pin p hp).1))
  ·refine wpAny_mono (T.item (blk X N' s2 H2 (compEnvC scope cl (s2.heap.objs.size+1) X.env) fp pins) rfl rfl rfl hc i _ s3 _ H3 (λ_ _=>False) J3 (stat fr3 pne) st3 go) (λr s4 q_=>?_) λ_ _ z=>z
   obtain ⟨u,hr,h4⟩:=q_;subst hr;refine wpAny_mono h4 (λ_ s5 q_=>?_) λ_ _ z=>z;obtain ⟨x,H5,I5,r5,y5,st5,fr5⟩:=q_;have I5':=I5.pinned (stat fr5 pne) (T.obj _ _ st5);obtain ⟨hg,ht,he⟩:=hB s2 H2 (s2.heap.objs.size+1) fp
   have nx:∀ {e:Value} {s:Shared},(blk X N' s2 H2 (compEnvC scope cl (s2.heap.objs.size+1) X.env) fp pins).xe e s->False:=λz=>by
    have z':X.xe _ _:=z;rw [hx] at z';exact z'
   refine wpAny_mono (hg _ s5 _ H5 x u _ I5' r5 (step x H5 y5)) (λ_ s6 q_=>?_) λ_ _ z=>nx z;obtain ⟨σ6,H6,I6,q6⟩:=q_;refine wpAny_mono (ht _ s6 σ6 H6 _ I6 q6) (λok s7 q_=>?_) λ_ _ z=>nx z;obtain ⟨H7,I7,q7⟩:=q_
   have keepIt:∀ {σ8:St} {H8:Hp} {s8:Shared},Inv (blk X N' s2 H2 (compEnvC scope cl (s2.heap.objs.size+1) X.env) fp pins) ([(s2.heap.objs.size,({ cls:=.type "list",data:=.seq its.toArray nn }:Obj))]++zgV fp s5.heap) σ8 H8 s8 →
     tn (i+1) s8.heap/\∀ b∈fp,H8 b=none:=λ{σ8 H8 s8} I8=>by
    refine ⟨T.keep _ _ _ st5 λb hb o e=>(I8.pin (b,o) (List.mem_append_right _ (List.mem_append_right _ (zbG hb e)))).1,λb hb=>?_⟩;obtain ⟨o,e,d⟩:=T.obj _ _ st5 b hb;exact (I8.pin (b,o) (List.mem_append_right _ (List.mem_append_right _ (zbG hb e)))).2.1
   cases ok with
   | false=>
    simp only [Bool.false_eq_true,if_false] at q7 ⊢;obtain ⟨m',hm',w7⟩:=q7;obtain ⟨k1,k2⟩:=keepIt I7;exact ⟨m',hm',i+1,vs,H7,its,nn,zfQ hcell hN hlen hcl1 hcl2 I2 f2 I7.unpinned,k1,k2,rv,w7⟩
   | true=>
    simp only [if_true] at q7 ⊢;refine wpAny_mono (he _ s7 σ6 H7 _ I7 q7) (λy s8 q_=>?_) λ_ _ z=>nx z;obtain ⟨vy,H8,I8,r8,m',hm',w8⟩:=q_;obtain ⟨k1,k2⟩:=keepIt I8;obtain ⟨ea,na,nl,nf,nd⟩:=I8.unpinned.pin (s2.heap.objs.size,_) (List.mem_append_right _ (List.mem_singleton.mpr rfl));have hl:=rv.length
    refine call_meets F.slot_list_append ⟨_,ea,rfl⟩ F.entry_list_append (F.args_list_append_2 _ _) (PySem.list_append s2.heap.objs.size its.toArray nn y (by rw [List.size_toArray];omega)) ⟨ea,?_⟩
    have J8:=zfQ hcell hN hlen hcl1 hcl2 I2 f2 (I8.unpinned);have J8':Inv (blk X N' s2 H2 (compEnvC scope cl (s2.heap.objs.size+1) X.env) fp pins) [] (clrS own σ) H8 s8:=J8.pins_of λp hp=>absurd hp (by simp);have up:=Heap.get?_update_self (Obj.mapSeq λx_1=>x_1.push y) ea rfl;obtain ⟨n',en⟩:∃ n',Obj.mapSeq (λx_1=>x_1.push y) ({ cls:=.type "list",data:=.seq its.toArray nn }:Obj)={ cls:=.type "list",data:=.seq (its.toArray.push y) n' }:=⟨_,rfl⟩
    have J9:=J8'.turned (t':=s8.toks) (it:=s2.heap.objs.size) (h':=s8.heap.update s2.heap.objs.size (Obj.mapSeq λx_1=>x_1.push y)) (λb o hb e=>(Heap.get?_update_other _ _ (Ne.symm hb)).trans e) na nl (.inr (Nat.le_refl _))
     (fun x c e=>by
      obtain ⟨v,z⟩:=I2.cell x c (hcl1 x c e)
      exact Nat.ne_of_lt z.lt)
     (fun p hp=>by
      have hp':p∈X.pn++pins:=by simpa [blk] using hp
      exact Nat.ne_of_lt (Heap.lt_size (I2.pin p hp').1))
    refine ⟨m',hm',i+1,vs++[vy],H8,its++[y],n',?_,T.keep _ _ _ k1 λb hb o e=>(Heap.get?_update_other _ _ (accne b hb)).trans e,k2,rv.append (.cons r8 .nil),w8⟩;refine J9.pins_of λp hp=>?_
    have ep:p=(s2.heap.objs.size,({ cls:=.type "list",data:=.seq (its++[y]).toArray n' }:Obj)):=by simpa using hp
    subst ep;refine ⟨?_,na,nl,nf,λv q=>by cases q⟩;show (s8.heap.update s2.heap.objs.size (Obj.mapSeq λx_1=>x_1.push y)).get? s2.heap.objs.size=_;rw [up];show some (Obj.mapSeq (λx_1=>x_1.push y) ({ cls:=.type "list",data:=.seq its.toArray nn }:Obj))=_;rw [en];simp
 exact codeAny_compStart_list loop (T.self _ 0 _ _ _ st4 loop)
end
section
variable {X:Cx}
structure zhT (X:Cx) (scope:Scope) (N':List Str) (own:List Nat):Prop where
 kind:scope.kind=.function
 cell:∀ y∈scope.names,y.2≠.cell
 names:∀ x∈scope.names,x.2=.local->scope.names.lookup x.1=some .local
 free:∀ x∈scope.names,x.2=.free->X.env.kindOf x.1=some .cell\/X.env.kindOf x.1=some .free
 slots:∀ (i:Nat) (x:Str),N'[i]?=some x->Vis (relabel scope X.env) x->i∈own\/(X.N[i]?=some x/\(X.env.kindOf x=some .cell\/X.env.kindOf x=some .free)/\(relabel scope X.env).names.lookup x≠some .local)
 len:N'.length=X.N.length
theorem Gone.turned (g:Gone X pins H C s) (I:Inv X pins σ H s) (sb:Heap.SameBut C s.heap h'):Inv X pins σ H { s with heap:=h' }:=
 I.turned (t':=s.toks) (λb o hb e=>(sb.2 b hb).trans e) g.free g.loc (.inr g.new) g.cel g.pin
theorem zpa
  (hx:X.xe=λ_ _=>False) (hc:X.calm=true) (K:zhT X scope N' own) (hi:PI X tg iter wi)
  (hB:∀ cl pins s₂ H₂ C fp,PG (blk X N' s₂ H₂ (compEnvC scope cl C X.env) fp pins) tg g/\PTs (blk X N' s₂ H₂ (compEnvC scope cl C X.env) fp pins) ifs tc/\PE (blk X N' s₂ H₂ (compEnvC scope cl C X.env) fp pins) elt te)
  (hs:∀ x,foldedSetIterable iter X.env x=pure x):PE X (.ListComp elt [⟨tg,iter,ifs,0⟩] scope pos) (ziN wi own g tc te):=by
 intro pins s σ H Q I q;obtain ⟨cl,hclos,hcl1,hcl2⟩:=zca (scope:=scope) (env:=X.env) (λx hx hf=>I.ok.has x.1 (K.free x hx hf));rw [eval_ListComp];refine wpAny_comprehension_free (use:=none) rfl hs hclos K.kind K.names (zgt hx hc K.kind K.cell K.slots K.len hcl1 hcl2 hi (hB cl pins) I q ?_);intro a C s' H' I' q' gn;obtain ⟨m,hm⟩:=gn.ns;exact ⟨m,hm,λh' sb=>⟨.ref a,H',gn.turned I' sb,rfl,q'⟩⟩
theorem zhp
  (hx:X.xe=λ_ _=>False) (hc:X.calm=true) (K:zhT X scope N' own) (hi:PI X tg iter wi)
  (hB:∀ cl pins s₂ H₂ C fp,PG (blk X N' s₂ H₂ (compEnvC scope cl C X.env) fp pins) tg g/\PTs (blk X N' s₂ H₂ (compEnvC scope cl C X.env) fp pins) ifs tc/\PE (blk X N' s₂ H₂ (compEnvC scope cl C X.env) fp pins) elt te)
  (hs:∀ x,foldedSetIterable iter X.env x=pure x) (hsw:swapsWith (.ListComp elt [⟨tg,iter,ifs,0⟩] scope pos) (some (.Name y py)) spos.line X.env=pure true)
  (hg:PG X (.Name y py) (zmB iy)):PS X (.Assign [.Name y py] (.ListComp elt [⟨tg,iter,ifs,0⟩] scope pos) spos) (tAsg (ziN wi own g tc te) (zmB iy)):=by
 intro pins s σ H D I q;obtain ⟨cl,hclos,hcl1,hcl2⟩:=zca (scope:=scope) (env:=X.env) (λx hx hf=>I.ok.has x.1 (K.free x hx hf));rw [exec_Assign_Name_used _ _ _ _ hsw];refine wpAny_bind (wpAny_standAt (wpAny_bind ?_));show wpAny _ X.A (do let _<-comprehension (.ListComp elt [⟨tg,iter,ifs,0⟩] scope pos) scope X.env _ (newList []) false (eval iter X.env) (some (assign (.Name y py) X.env))) _ _ s
 refine wpAny_bind (wpAny_mono (wpAny_comprehension_free (use:=some (assign (.Name y py) X.env)) (Q:=λ_ s'=>SP X pins D .next s') rfl hs hclos K.kind K.names
  (zgt hx hc K.kind K.cell K.slots K.len hcl1 hcl2 hi (hB cl pins) I q ?_)) (λ_ s' hq=>wpAny_pure (wpAny_pure hq)) λ_ _ e=>e)
 intro a C s' H' I' q' gn;obtain ⟨m,o,es,ep,ho,hd,hr⟩:=id gn.ns
 have Ip:Inv X (pins++[(C,o)]) σ H' s':=I'.pins_of λp hp=>(List.mem_append.mp hp).elim (λz=>I'.pin p (List.mem_append_right _ z)) λz=>by
  have ep:p=(C,o):=by simpa using z
  subst ep
  exact ⟨ho,gn.free,gn.loc,gn.fs,λv z=>by rw [hd] at z;cases z⟩
 refine thn (hg _ s' σ H' (.ref a) (.ref a) _ Ip rfl q') λ_ s'' q_=>?_;obtain ⟨σ2,H2,I2,q2⟩:=q_;obtain ⟨e1,e2,_,_,_⟩:=I2.pin (C,o) (List.mem_append_right _ (List.mem_append_right _ (List.mem_singleton.mpr rfl)));have gn2:Gone X pins H2 C s'':=⟨⟨m,o,es,ep,e1,hd,hr⟩,e2,gn.loc,gn.fs,gn.new,gn.cel,gn.pin⟩;exact ⟨m,⟨o,es,ep,e1,hd,hr⟩,λh' sb=>⟨σ2,H2,gn2.turned I2.unpinned sb,q2⟩⟩
theorem RepE.clr:∀ (own:List Nat) {env:IT.Env} {σ:St},RepE K μ h H env σ->RepE K μ h H (clr own env) (clrS own σ)
 | [],env,σ,q=>q
 | i::r,env,σ,q=>by
  refine RepE.clr r ⟨by simp [q.len],λj rr e=>?_⟩
  by_cases hj:j=i
  ·subst hj
   rw [List.getElem?_set] at e;simp only [if_true] at e
   split at e<;>cases e
  ·rw [List.getElem?_set_ne (Ne.symm hj)] at e ⊢
   exact q.get j rr e
structure ElK {α:Type} (K:PySem.W.Frag) (kp:R->M α) (Rel:List Addr->Sto->Hp->α->V->Prop):Prop where
 kp:∀ {μ h H r v d h'},Rep K μ h H->RepR K μ h H r v->kp r h=some (d,h')->Stp μ h H μ h' H/\Rep K μ h' H/\Rel μ h' H d v
 stp:∀ {μ h H μ' h' H' d v},Stp μ h H μ' h' H'->Rep K μ h H->Rel μ h H d v->Rel μ' h' H' d v
noncomputable def zgU {α:Type} (kp:R->M α) (t:Tg) (ft:IT.Env->M Bool) (fe:IT.Env->M R) (σ:IT.Env) (x:Ite):M (Option α):=
 bnd (zaw t x (clr t.slots σ)) λσ'=>bnd (ft σ') λb=>if b then bnd (fe σ') λr=>bnd (kp r) λd=>ok (some d) else ok none
noncomputable def tLsG {α:Type} (K:PySem.W.Frag) (Rel:List Addr->Sto->Hp->α->V->Prop) (f:IT.Env->M (List α)):TE:=λσ H Q=>∃ μ h env,Rep K μ h H/\RepE K μ h H env σ/\∃ xs h',f env h=some (xs,h') ∧
 ∀ μ' H' a vs,Stp μ h H μ' h' H'->Rep K μ' h' H'->Paired (Rel μ' h' H') xs vs->H' a=none->Q (.ref a) (upd H' a (.lst vs))
theorem zeo {α β:Type} {F:α->β->Prop}:∀ {xs xs':List α} {ys ys':List β},Paired F xs ys->Paired F xs' ys'->Paired F (xs++xs') (ys++ys')
 | _,_,_,_,.nil,q=>q
 | _,_,_,_,.cons r t,q=>.cons r (zeo t q)
inductive CR {α:Type} (K:PySem.W.Frag) (Rel:List Addr->Sto->Hp->α->V->Prop) (tr:List Ite->M (List α)) (w:Wk) (μ1:List Addr) (h1:Sto) (H1:Hp) (h':Sto) (zs:List α) (i m:Nat) (vs:List V) (H2:Hp):Prop
 | mk (μ2:List Addr) (h2:Sto) (ys rest:List α) (s2:Stp μ1 h1 H1 μ2 h2 H2) (sy2:zaC w.l h1 h2=true) (R2:Rep K μ2 h2 H2) (zy:Paired (Rel μ2 h2 H2) ys vs) (him:i+m=w.xs.length) (hyl:ys.length<=i) (el':tr (w.xs.drop i) h2=some (rest,h')) (eys:ys++rest=zs)
theorem ziY {α:Type} {K:PySem.W.Frag} {kp:R->M α} {Rel:List Addr->Sto->Hp->α->V->Prop} (el:ElK K kp Rel) {t:Tg} {fi:IT.Env->M Wk} {ft:IT.Env->M Bool} {fe:IT.Env->M R} (hwl:∀ σ h w h',fi σ h=some (w,h')->WlOk w h') {σ:St} {H:Hp} {Q:VK}
  (q:tLsG K Rel (λσ=>bnd (fi σ) λw=>turns w.l (zgU kp t ft fe σ) w.xs) σ H Q):ziN (tI K fi) t.slots (tGI K t) (tTv K ft) (tE K fe) σ H Q:=by
 obtain ⟨μ,h,env,R0,re,zs,h',e,k⟩:=q;simp only [zab] at e;obtain ⟨w,h1,e1,e2⟩:=e;refine ⟨μ,h,env,R0,re,w,h1,e1,λμ1 H1 J s1 R1 W1 hz=>?_⟩
 refine ⟨CR K Rel (turns w.l (zgU kp t ft fe env)) w μ1 h1 H1 h' zs,⟨w.xs.length,μ1,h1,[],zs,Stp.refl,zey _ _ (hwl _ _ _ _ e1),R1,.nil,by omega,Nat.le_refl _,by rw [List.drop_zero];exact e2,rfl⟩,?_⟩
 rintro i m vs H2 ⟨μ2,h2,ys,rest,s2,sy2,R2,zy,him,hyl,el',eys⟩
 have hl:=zy.length
 cases hxx:w.xs[i]? with
 | none=>
  have hi':w.xs.length<=i:=by simpa using hxx
  have hi2:i=w.xs.length:=by omega
  subst hi2;rw [List.drop_of_length_le (Nat.le_refl _)] at el';simp only [turns,zac] at el';obtain ⟨rfl,rfl⟩:=el';rw [List.append_nil] at eys;subst eys;exact .inl ⟨W1.stop μ2 h2 H2 s2 R2 sy2,by omega,λa ha=>k μ2 H2 a vs (s1.trans s2) R2 zy ha⟩
 | some x=>
  have hil:i<w.xs.length:=(List.getElem?_eq_some_iff.mp hxx).1
  have hdrop:w.xs.drop i=x::w.xs.drop (i+1):=by
   rw [List.drop_eq_getElem_cons hil]
   have:=(List.getElem?_eq_some_iff.mp hxx).2
   rw [this]
  rw [hdrop] at el';simp only [turns] at el';obtain ⟨go,yld⟩:=W1.go μ2 h2 H2 i x s2 R2 sy2 hxx
  cases ef:zgU kp t ft fe env x h2 with
  | none=>rw [ef] at el';cases el'
  | some p=>
   obtain ⟨od,h3⟩:=p;rw [ef] at el';simp only [zgU,zab] at ef;obtain ⟨env4,h4,e4,tt,h5,e5,e6⟩:=ef
   have:=zgI e4
   subst this;refine .inr ⟨go,by omega,λv H' hy=>?_⟩;obtain ⟨sY,RY,zx⟩:=yld v H' hy;refine ⟨μ2,_,clr t.slots env,x,env4,RY,RepE.clr _ ((re.stp (s1.trans s2) R0).stp sY R2),zx,e4,λσ4 re4=>⟨μ2,_,env4,RY,re4,tt,h5,e5,λμ5 H5 b s5' R5 hb=>?_⟩⟩;have s5:=sY.trans s5';subst hb;simp only at el'
   split at el'
   ·rename_i sy3
    simp only [zab,zac] at el';obtain ⟨rest',h6,el'',er,rfl⟩:=el'
    cases tt with
    | false=>
     simp only [Bool.false_eq_true,if_false,zac] at e6 ⊢;obtain ⟨rfl,rfl⟩:=e6;refine ⟨m-1,by omega,μ5,_,ys,rest',s2.trans s5,za7 sy2 sy3,R5,L2.Paired.mapP zy λd v z=>el.stp s5 R2 z,by omega,by omega,el'',?_⟩;rw [<-eys,<-er]
    | true=>
     simp only [if_true,zab,zac] at e6 ⊢;obtain ⟨r,h7,e7,d,h8,e8,rfl,rfl⟩:=e6;refine ⟨μ5,h5,env4,R5,re4.stp s5' RY,r,h7,e7,λμ6 H6 v6 s6 R6 q6=>?_⟩;obtain ⟨s7,R7,zd⟩:=el.kp R6 q6 e8
     refine ⟨m-1,by omega,μ6,_,ys++[d],rest',((s2.trans s5).trans s6).trans s7,za7 sy2 sy3,R7,zeo (L2.Paired.mapP zy λd v z=>el.stp s7 R6 (el.stp s6 R5 (el.stp s5 R2 z))) (.cons zd .nil),by omega,by simp;omega,el'',?_⟩
     rw [<-eys,<-er];simp
   ·cases el'
theorem zsO (K:PySem.W.Frag):ElK K fz (λμ h H d v=>RepD K (Live μ h) H d v):=⟨zje,λs r q=>RepD.stp s r q⟩
theorem zhQ:∀ {K:PySem.W.Frag} {A:Addr->Prop} {H:Hp} {xs:List D} {vs:List V},Paired (RepD K A H) xs vs->RepDs K A H xs vs
 | _,_,_,_,_,.nil=>.nil
 | _,_,_,_,_,.cons r t=>.cons r (zhQ t)
noncomputable def zrH (t:Tg) (ft:IT.Env->M Bool) (fe:IT.Env->M R) (σ:IT.Env) (x:Ite):M (Option D):=zgU fz t ft fe σ x
theorem zky {t:Tg} {fi:IT.Env->M Wk} (hwl:∀ σ h w h',fi σ h=some (w,h')->WlOk w h') {H:Hp} {Q:VK}
  (q:tLs K (λσ=>bnd (fi σ) λw=>turns w.l (zrH t ft fe σ) w.xs) σ H Q):ziN (tI K fi) t.slots (tGI K t) (tTv K ft) (tE K fe) σ H Q:=by
 refine ziY (zsO K) hwl ?_;obtain ⟨μ,h,env,R0,re,zs,h',e,k⟩:=q;exact ⟨μ,h,env,R0,re,zs,h',e,λμ' H' a vs st R1 z ha=>k μ' H' a vs st R1 (zhQ z) ha⟩
end
end IT
namespace IT
open PySem PySem.Spec L2
section
variable {X:Cx}
theorem zl5:PS X st (tS X.K λ_ _=>none):=λpins s σ H D I ⟨μ,h,env,R0,re,fl,env',h',e,k⟩=>by cases e
theorem zmg:IE X e (λ_ _=>none):=λpins s σ H Q I ⟨μ,h,env,R0,re,r,h',e,k⟩=>by cases e
theorem zrT (hg:Gl X "list") (hm:X.mg "list"=none) (he:IE X e f) (hs:starEach [e] X.env=[(false,eval e X.env)]):IL X (.Call (.Name "list" p) [e] [] pos) (λσ=>bnd (f σ) λr=>bnd (rd r) λd=>opt (items d)):=by
 refine PE.imp (zbB zgw hg hm PyProof.Rows.boot_list (zaH he zbP hs) (by decide) (by decide) hs rfl) λσ H Q q0=>?_;obtain ⟨μ,h,env,R0,re,xs,h',e,k⟩:=q0;simp only [zab,zas] at e;obtain ⟨r,h1,e1,d,h2,e2,e3,rfl⟩:=e;refine ⟨μ,h,env,R0,re,r,h1,e1,λμ1 H1 v s1 R1 q1=>?_⟩;obtain ⟨rfl,z⟩:=za2 R1 q1 e2
 cases d with
 | tup ys=>
  simp only [RdD,RepD] at z;obtain ⟨a,vs,rfl,q,zs⟩:=z;simp only [items,Option.some.injEq] at e3;subst e3;exact ⟨a,vs,rfl,.inr q,λl hl=>k μ1 H1 l vs s1 R1 zs hl⟩
 | lst ys=>
  obtain ⟨a,vs,rfl,q,zs⟩:=z;simp only [items,Option.some.injEq] at e3;subst e3;exact ⟨a,vs,rfl,.inl q,λl hl=>k μ1 H1 l vs s1 R1 zs hl⟩
 | _=>simp [items] at e3
theorem zgk:∀ {xs:List D} {bs:List Bool},zav xs=some bs->bs.length=xs.length
 | [],bs,e=>by simp only [zav,Option.some.injEq] at e;subst e;rfl
 | x :: xs,bs,e=>by
  simp only [zav] at e
  split at e
  ·split at e
   ·rename_i es
    simp only [Option.some.injEq] at e;subst e;simp only [List.length_cons,zgk es]
   ·cases e
  ·cases e
theorem zid:∀ {xs:List D} {bs:List Bool} {i:Nat} {d:D},zav xs=some bs->xs[i]?=some d->∃ b,bs[i]?=some b/\tru d=some b
 | [],bs,i,d,e,ed=>by simp at ed
 | x :: xs,bs,i,d,e,ed=>by
  simp only [zav] at e
  split at e
  ·rename_i b eb
   split at e
   ·rename_i l es
    simp only [Option.some.injEq] at e;subst e
    cases i with
    | zero=>
     simp only [List.getElem?_cons_zero,Option.some.injEq] at ed;subst ed;exact ⟨b,rfl,eb⟩
    | succ i=>
     obtain ⟨c,e1,e2⟩:=zid (i:=i) (d:=d) es (by simpa using ed);exact ⟨c,by simpa using e1,e2⟩
   ·cases e
  ·cases e
theorem zjA (bs:List Bool):(List.range bs.length).all (λi=>bs.getD i false)=bs.all id:=by
 rw [Bool.eq_iff_iff,List.all_eq_true,List.all_eq_true];constructor
 ·intro h b hb
  obtain ⟨i,hi,e⟩:=List.getElem_of_mem hb
  have:=h i (by simpa using hi)
  rw [List.getD_eq_getElem?_getD,List.getElem?_eq_getElem hi] at this
  simpa [e] using this
 ·intro h i hi
  have hi':i<bs.length:=by simpa using hi
  rw [List.getD_eq_getElem?_getD,List.getElem?_eq_getElem hi'];exact h _ (List.getElem_mem hi')
theorem zkJ (bs:List Bool):(List.range bs.length).any (λi=>bs.getD i false)=bs.any id:=by
 rw [Bool.eq_iff_iff,List.any_eq_true,List.any_eq_true];constructor
 ·rintro ⟨i,hi,h⟩
  have hi':i<bs.length:=by simpa using hi
  rw [List.getD_eq_getElem?_getD,List.getElem?_eq_getElem hi'] at h;exact ⟨_,List.getElem_mem hi',by simpa using h⟩
 ·rintro ⟨b,hb,h⟩
  obtain ⟨i,hi,e⟩:=List.getElem_of_mem hb;refine ⟨i,by simpa using hi,?_⟩;rw [List.getD_eq_getElem?_getD,List.getElem?_eq_getElem hi]
  simpa [e] using h
noncomputable def zhr (prog:Program) (w:World) (A:Around) (Hs:Shared->Prop) (P:Nat->Value->Prop) (tr:Nat->Bool):Prop:=
 ∀ i v (t:Shared) (Q:Bool->Shared->Prop) (E:Value->Shared->Prop),P i v->Hs t->(∀ tk,Q (tr i) { t with toks:=tk })->wpAny (model prog w) A (truthy v) Q E t
theorem zbL (h:i<n):(List.range n).drop i=i::(List.range n).drop (i+1):=by
 rw [List.drop_eq_getElem_cons (by simpa using h)];simp
section
variable {prog:Program} {w:World} {A:Around} {R:Result->Shared->Prop} {I:Addr} {fp wr:List Addr} {n:Nat} {P:Nat->Value->Prop} {St:Nat->Heap->Prop} {Hs:Shared->Prop}
theorem zkM (W:Walks prog w A.in1 I fp wr n P St) (tr:Nat->Bool) (hs:∀ t h' tk,Hs t->(∀ b o,b ∉ wr->t.heap.get? b=some o->h'.get? b=some o)->Hs { t with heap:=h',toks:=tk }) (htr:zhr prog w A.in1 Hs P tr) (k:Nat) :
  ∀ (i:Nat) (t:Shared),n-i=k->i<=n->St i t.heap->Hs t →
   (∀ h' tk,(∀ b o,b ∉ wr->t.heap.get? b=some o->h'.get? b=some o)->R (.ok (.ret (.bool (((List.range n).drop i).any tr)))) { t with heap:=h',toks:=tk })->codeAny (model prog w) A (.builtin "any.loop" ⟨[.ref I],[]⟩) R t:=by
 induction k with
 | zero=>
  intro i t hk hi st ht hR
  obtain rfl:i=n:=by omega
  refine codeAny_builtin F.entry_any_loop ?_;rw [Around.under_plainId F.plain_any_loop _];refine wpAny_bind (m:=pyNext (.ref I)) (W.done t _ _ st λh' tk e=>wpAny_bind (wpAny_rule (wpAny_pure ?_)));have z:=hR h' tk e
  rwa [List.drop_of_length_le (by simp)] at z
 | succ k ih=>
  intro i t hk hi st ht hR
  have hlt:i<n:=by omega
  refine codeAny_builtin F.entry_any_loop ?_;rw [Around.under_plainId F.plain_any_loop _];refine wpAny_bind (m:=pyNext (.ref I)) (W.item i t _ _ hlt st λv h' tk hP st' e=>wpAny_bind (wpAny_holding (htr i v _ _ _ hP (hs t h' tk ht e) λtk2=>wpAny_bind (wpAny_letGo ?_))))
  cases hb:tr i with
  | false=>
   simp only [Bool.false_eq_true,if_false];refine wpAny_pure ⟨plainId_quiet F.plain_any_loop _,ih (i+1) _ (by omega) hlt st' (hs t h' tk2 ht e) λh2 tk3 e2=>?_⟩;have z:=hR h2 tk3 λb o hbw eb=>e2 b o hbw (e b o hbw eb)
   rwa [zbL hlt,List.any_cons,hb,Bool.false_or] at z
  | true=>
   simp only [if_true];refine wpAny_bind (wpAny_rule (wpAny_pure ?_));have z:=hR h' tk2 e
   rwa [zbL hlt,List.any_cons,hb,Bool.true_or] at z
theorem zkc (W:Walks prog w A.in1 I fp wr n P St) (tr:Nat->Bool) (hs:∀ t h' tk,Hs t->(∀ b o,b ∉ wr->t.heap.get? b=some o->h'.get? b=some o)->Hs { t with heap:=h',toks:=tk }) (htr:zhr prog w A.in1 Hs P tr) (k:Nat) :
  ∀ (i:Nat) (t:Shared),n-i=k->i<=n->St i t.heap->Hs t →
   (∀ h' tk,(∀ b o,b ∉ wr->t.heap.get? b=some o->h'.get? b=some o)->R (.ok (.ret (.bool (((List.range n).drop i).all tr)))) { t with heap:=h',toks:=tk })->codeAny (model prog w) A (.builtin "all.loop" ⟨[.ref I],[]⟩) R t:=by
 induction k with
 | zero=>
  intro i t hk hi st ht hR
  obtain rfl:i=n:=by omega
  refine codeAny_builtin F.entry_all_loop ?_;rw [Around.under_plainId F.plain_all_loop _];refine wpAny_bind (m:=pyNext (.ref I)) (W.done t _ _ st λh' tk e=>wpAny_bind (wpAny_rule (wpAny_pure ?_)));have z:=hR h' tk e
  rwa [List.drop_of_length_le (by simp)] at z
 | succ k ih=>
  intro i t hk hi st ht hR
  have hlt:i<n:=by omega
  refine codeAny_builtin F.entry_all_loop ?_;rw [Around.under_plainId F.plain_all_loop _];refine wpAny_bind (m:=pyNext (.ref I)) (W.item i t _ _ hlt st λv h' tk hP st' e=>wpAny_bind (wpAny_holding (htr i v _ _ _ hP (hs t h' tk ht e) λtk2=>wpAny_bind (wpAny_letGo ?_))))
  cases hb:tr i with
  | true=>
   simp only [if_true];refine wpAny_pure ⟨plainId_quiet F.plain_all_loop _,ih (i+1) _ (by omega) hlt st' (hs t h' tk2 ht e) λh2 tk3 e2=>?_⟩;have z:=hR h2 tk3 λb o hbw eb=>e2 b o hbw (e b o hbw eb)
   rwa [zbL hlt,List.all_cons,hb,Bool.true_and] at z
  | false=>
   simp only [Bool.false_eq_true,if_false];refine wpAny_bind (wpAny_rule (wpAny_pure ?_));have z:=hR h' tk2 e
   rwa [zbL hlt,List.all_cons,hb,Bool.false_and] at z
end
theorem zhb (hc:X.calm=true) (all:Bool):zjs X (.builtin (if all then "all" else "any")) (biD (if all then .all else .any)):=by
 intro pins s σ H vs us Q I r q;obtain ⟨μ,h,ds,z,R0,pr,e,k⟩:=q
 cases pr with
 | nil=>cases all<;>exact zad e
 | @cons d v ds vs qd pr=>
  cases pr with
  | cons _ _=>cases all<;>cases d<;>exact zad e
  | nil=>
   cases d with
   | lst xs=>
    obtain ⟨p,ws,rfl,q1,z1⟩:=qd
    have eb:∃ bs,zav xs=some bs/\z=.bl (if all then bs.all id else bs.any id):=by
     cases hb:zav xs with
     | none=>cases all<;>(change (match zav xs with | some bs=>_ | none=>_)=_ at e;rw [hb] at e;exact zad e)
     | some bs=>cases all<;>(change (match zav xs with | some bs=>_ | none=>_)=_ at e;rw [hb] at e;exact ⟨bs,rfl,(Option.some.inj e).symm⟩)
    obtain ⟨bs,eb,rfl⟩:=eb;obtain ⟨u,rfl,rx⟩:=zeI r;cases rx;obtain ⟨its,ri,pl,hz⟩:=I.list q1;have hl1:=z1.length;have hl2:=ri.length;have hl3:=zgk eb
    have hne:p≠s.heap.objs.size:=by
     obtain ⟨o,n,eo,_⟩:=id pl;exact Nat.ne_of_lt (Heap.lt_size eo)
    have W:=Walks.list (prog:=X.prog) (w:=X.w) (A:=X.A.in1) (I.ok.hd hc) s.heap.objs.size p hne its.toArray
    let Hs:Shared->Prop:=λt=>∃ h' tk,t={ s with heap:=h',toks:=tk }/\∀ a o,s.heap.get? a=some o->h'.get? a=some o
    have hs:∀ t h' tk,Hs t->(∀ b o,b ∉ [s.heap.objs.size]->t.heap.get? b=some o->h'.get? b=some o)->Hs { t with heap:=h',toks:=tk }:=by
     rintro t h' tk ⟨h1,tk1,rfl,e1⟩ e2
     exact ⟨h',tk,rfl,λa o ea=>e2 a o (by simp;exact Nat.ne_of_lt (Heap.lt_size ea)) (e1 a o ea)⟩
    have htr:zhr X.prog X.w X.A.in1 Hs (λi v=>its.toArray[i]?=some v) (λi=>bs.getD i false):=by
     rintro i v t Q1 E1 ei ⟨h1,tk1,rfl,e1⟩ hq
     have ei':its[i]?=some v:=by simpa using ei
     have hi:i<its.length:=(List.getElem?_eq_some_iff.mp ei').1;obtain ⟨d,ed⟩:∃ d,xs[i]?=some d:=⟨xs[i]'(by omega),List.getElem?_eq_getElem _⟩;obtain ⟨b,e2,e3⟩:=zid eb ed;obtain ⟨v2,e4,e5⟩:=z1.get ed
     have rv:RelV v2 v:=by
      have:=zlP ri e4 hi
      rwa [(List.getElem?_eq_some_iff.mp ei').2] at this
     have e6:bs.getD i false=b:=by rw [List.getD_eq_getElem?_getD,e2];rfl
     simp only [e6] at hq;exact zjp (I.kept (t':=tk1) e1) (RdD.of e5) rv e3 hq
    have st0:(s.heap.push { cls:=.type "list_iterator",data:=.fields #[.ref p,.int 0 0] }).IsListIter s.heap.objs.size p 0/\(s.heap.push { cls:=.type "list_iterator",data:=.fields #[.ref p,.int 0 0] }).IsList p its.toArray:=by
     refine ⟨⟨_,Heap.get?_push_size _ rfl,rfl,rfl⟩,?_⟩;obtain ⟨o,eo,hcl,n,hd⟩:=pl.isList;exact ⟨o,Heap.get?_push_of_some _ eo,hcl,n,hd⟩
    have hs0:Hs { s with heap:=s.heap.push { cls:=.type "list_iterator",data:=.fields #[.ref p,.int 0 0] } }:=⟨_,s.toks,rfl,λa o ea=>Heap.get?_push_of_some _ ea⟩
    have hsz:its.toArray.size=bs.length:=by simp;omega
    have fin:∀ (b:Bool) (h':Heap) (tk:Nat),(∀ b o,b ∉ [s.heap.objs.size]->(s.heap.push { cls:=.type "list_iterator",data:=.fields #[.ref p,.int 0 0] }).get? b=some o->h'.get? b=some o)->Q (.bl b) H->EP X pins σ Q (.bool b) { s with heap:=h',toks:=tk }:=by
     intro b h' tk hk q
     refine ⟨.bl b,H,I.kept (t':=tk) λa o ea=>hk a o (by simp;exact Nat.ne_of_lt (Heap.lt_size ea)) (Heap.get?_push_of_some _ ea),rfl,q⟩
    have hq:=k μ H (.bl (if all then bs.all id else bs.any id)) Stp.refl R0 (by simp only [RepD])
    cases all with
    | true=>
     refine call_function_tree F.kind_all F.plain_all F.entry_all (F.args_all1 _) ?_;unfold Builtin.«all»;refine wpAny_bind (m:=oneArg "all" _) (wpAny_pure (wpAny_bind (wpAny_pyIter_list pl.isList (wpAny_pure ⟨plainId_quiet F.plain_all_loop _,zkc W _ hs htr _ 0 _ rfl (Nat.zero_le _) st0 hs0 λh' tk hk=>?_⟩))));rw [List.drop_zero,hsz,zjA];exact fin _ h' tk hk hq
    | false=>
     refine call_function_tree F.kind_any F.plain_any F.entry_any (F.args_any1 _) ?_;unfold Builtin.«any»;refine wpAny_bind (m:=oneArg "any" _) (wpAny_pure (wpAny_bind (wpAny_pyIter_list pl.isList (wpAny_pure ⟨plainId_quiet F.plain_any_loop _,zkM W _ hs htr _ 0 _ rfl (Nat.zero_le _) st0 hs0 λh' tk hk=>?_⟩))));rw [List.drop_zero,hsz,zkJ];exact fin _ h' tk hk hq
   | _=>cases all<;>exact zad e
end
noncomputable def tyS:Ty->String
 | .int=>"int"
 | .str=>"str"
 | .bool=>"bool"
 | .list=>"list"
 | .tuple=>"tuple"
section
variable {K:PySem.W.Frag}
theorem zoW (t:Ty):PySem.W.kitOne K (.type "NoneType") (.type (tyS t))=some (isiD t .non):=by cases t<;>rfl
theorem zqz (t:Ty) (b:Bool):PySem.W.kitOne K (.type "bool") (.type (tyS t))=some (isiD t (.bl b)):=by cases t<;>rfl
theorem zpm (t:Ty) (i:Int):PySem.W.kitOne K (.type "int") (.type (tyS t))=some (isiD t (.int i)):=by cases t<;>rfl
theorem zpp (t:Ty) (x:List Nat):PySem.W.kitOne K (.type "str") (.type (tyS t))=some (isiD t (.str x)):=by cases t<;>rfl
theorem zoA (t:Ty) (x:List D):PySem.W.kitOne K (.type "tuple") (.type (tyS t))=some (isiD t (.tup x)):=by cases t<;>rfl
theorem zpx (t:Ty) (x:List D):PySem.W.kitOne K (.type "list") (.type (tyS t))=some (isiD t (.lst x)):=by cases t<;>rfl
end
section
variable {X:Cx}
theorem zl0 (t:Ty):zbj X (.builtin "isinstance") (λvs H Q=>∃ A d v,RdD X.K A H d v/\vs=[v,.ty (tyS t)]/\Q (.bl (isiD t d)) H):=by
 intro pins s σ H vs us Q I r q;obtain ⟨A,d,v,qd,rfl,q⟩:=q
 cases r with
 | cons r1 r=>
  cases r with
  | cons r2 r=>
   cases r;rename_i u1 u2;have e2:u2=Value.type (tyS t):=r2;subst e2;have fin:∀ tk:Nat,EP X pins σ Q (.bool (isiD t d)) { s with toks:=tk }:=λtk=>⟨.bl (isiD t d),H,I.tok tk,rfl,q⟩
   cases d with
   | non=>
    simp only [RdD,RepD] at qd;subst qd
    have e1:u1=Value.none:=r1;subst e1;exact PySem.W.kia_one PySem.W.kitx_none I.kIn True.intro (zoW t) (λz=>nomatch z) fin
   | bl b=>
    simp only [RdD,RepD] at qd;subst qd
    have e1:u1=Value.bool b:=r1;subst e1;exact PySem.W.kia_one PySem.W.kitx_bool I.kIn True.intro (zqz t b) (λz=>nomatch z) fin
   | int i=>
    simp only [RdD,RepD] at qd;subst qd
    obtain ⟨t',e1⟩:=(show ∃ t',u1=Value.int i t' from r1);subst e1;exact PySem.W.kia_one PySem.W.kitx_int I.kIn True.intro (zpm t i) (λz=>nomatch z) fin
   | str x=>
    simp only [RdD,RepD] at qd;subst qd
    obtain ⟨t',e1⟩:=(show ∃ t',u1=Value.str (zaa x) t' from r1);subst e1;exact PySem.W.kia_one PySem.W.kitx_str I.kIn True.intro (zpp t x) (λz=>nomatch z) fin
   | tup xs=>
    simp only [RdD,RepD] at qd;obtain ⟨a,ws,rfl,q1,_⟩:=qd;have e1:u1=Value.ref a:=r1;subst e1;obtain ⟨its,ri,⟨o,h1,h2,_⟩,hz⟩:=I.tuple q1;exact PySem.W.kia_one PySem.W.kitx_tuple I.kIn ⟨o,h1,h2⟩ (zoA t xs) (λz=>nomatch z) fin
   | lst xs=>
    obtain ⟨a,ws,rfl,q1,_⟩:=qd;have e1:u1=Value.ref a:=r1;subst e1;obtain ⟨its,ri,⟨o,n,h1,h2,_⟩,hz⟩:=I.list q1;exact PySem.W.kia_one PySem.W.kitx_list I.kIn ⟨o,h1,h2⟩ (zpx t xs) (λz=>nomatch z) fin
theorem zpe (t:Ty):bootBuiltins (Str.ofString (tyS t))=some (.type (tyS t)):=by cases t<;>decide +kernel
theorem zpN (hg:Gl X "isinstance") (hm:X.mg "isinstance"=none) (he:IE X e f) (hx:x=Str.ofString (tyS t)) (hg2:Gl X x) (hm2:X.mg x=none) (hs:starEach [e,.Name x p2] X.env=[(false,eval e X.env),(false,eval (.Name x p2) X.env)]) :
  IE X (.Call (.Name "isinstance" p) [e,.Name x p2] [] pos) (λσ=>bnd (f σ) λr=>bnd (rd r) λd=>ok (.d (.bl (isiD t d)))):=by
 subst hx
 have hn:Str.ofString (tyS t) ≠ "__name__":=by cases t<;>decide
 have hdb:(Str.ofString (tyS t)==("__debug__":Str))=false:=by cases t<;>decide
 have h2:PE X (.Name (Str.ofString (tyS t)) p2) (tC (.ty (tyS t))):=zoD hg2 hm2 (zpe t) rfl hn hdb;refine PE.imp (zco (zl0 t) hg hm PyProof.Rows.boot_isinstance (zaH he (zaH h2 zbP rfl) hs) (by decide) (by decide) hs rfl) λσ H Q q0=>?_;obtain ⟨μ,h,env,R0,re,r,h',e,k⟩:=q0;simp only [zab,zac] at e;obtain ⟨r1,h1,e1,d,h2',e2,rfl,rfl⟩:=e;refine ⟨μ,h,env,R0,re,r1,h1,e1,λμ1 H1 v s1 R1 q1=>?_⟩;obtain ⟨rfl,z⟩:=za2 R1 q1 e2;exact ⟨_,d,v,z,rfl,k μ1 H1 _ s1 R1 (by simp only [RepR,RepD])⟩
theorem RepDs.dropLast (q:RepDs K A H xs vs):RepDs K A H xs.dropLast vs.dropLast:=by
 rw [List.dropLast_eq_take,List.dropLast_eq_take,q.length];exact q.take _
theorem RepDs.eraseIdx (k:Nat) (q:RepDs K A H xs vs):RepDs K A H (xs.eraseIdx k) (vs.eraseIdx k):=by
 rw [List.eraseIdx_eq_take_drop_succ,List.eraseIdx_eq_take_drop_succ];exact (q.take k).app (q.drop (k+1))
theorem zms (ho:IE X o f) (hname:name=("clear":Str)) (hbase:attributeBase o name X.env (eval o X.env)=eval o X.env) (hline:(apos.endLine==cpos.line)=true) :
  IE X (.Call (.Attribute o name apos) [] [] cpos) (λσ=>bnd (f σ) λx=>bnd (zdZ x) λ_=>bnd (ok []) λrs=>meth .clear x rs):=by
 subst hname;refine PE.imp (znh PySem.F.plainAttrs_list PySem.F.slot_list_clear PySem.F.type_list_clear zmH ho hbase hline) λσ H Q q0=>?_;obtain ⟨μ,h,env,R0,re,r,h',e,k⟩:=q0;simp only [zab,zac] at e;obtain ⟨x,h1,e1,_,h1',e0,rs,h2,⟨rfl,rfl⟩,e3⟩:=e;obtain ⟨l,o1,rfl,ho1,il1,rfl⟩:=zeB e0;refine ⟨μ,h,env,R0,re,.loc l,_,e1,λμ1 H1 v s1 R1 q1=>?_⟩
 ·skip
  obtain ⟨a,ea,rfl⟩:=q1;obtain ⟨vs1,hH1,z1⟩:=R1.placeL ea ho1 il1
  (delta meth at e3;(try dsimp only at e3))
  rw [ho1] at e3
  cases o1 with
  | fro xs=>simp at e3
  | ins _ _=>cases il1
  | ols _=>cases il1
  | dic _=>cases il1
  | dfr _=>cases il1
  | lst xs=>
   simp only [Option.some.injEq,Prod.mk.injEq] at e3;obtain ⟨rfl,rfl⟩:=e3;refine ⟨.inl ⟨rfl,vs1,.inl (.inl hH1)⟩,a,vs1,rfl,rfl,hH1,?_⟩;obtain ⟨s4,R4⟩:=write R1 ea ho1 (ys:=[]) (ws:=[]) .nil;exact k μ1 _ .non (s1.trans s4) R4 (by simp only [RepR,RepD])
end
open PySem PyProof.Rows PySem.Calls
theorem zio {M:Model} {A:Around} {E:Value->Shared->Prop} {s s':Shared} {β:Type} {f:Nat->β->Sem (ForInStep β)} {b r:β} {j:Nat} {Q:β->Shared->Prop} (hd:∀ Q':ForInStep β->Shared->Prop,Q' (.done r) s'->wpAny M A (f j b) Q' E s) (q:Q r s') :
  ∀ (m i:Nat),i<=j->j<i+m->(∀ k,i<=k->k<j->∀ Q':ForInStep β->Shared->Prop,Q' (.yield b) s->wpAny M A (f k b) Q' E s)->wpAny M A (forIn (List.range' i m) b f) Q E s
 | 0,i,h1,h2,_=>by omega
 | m+1,i,h1,h2,hy=>by
  rw [List.range'_succ,List.forIn_cons]
  by_cases e:i=j
  ·subst e
   exact wpAny_bind (hd _ (wpAny_pure q))
  ·refine wpAny_bind (hy i (Nat.le_refl _) (by omega) _ ?_)
   exact zio hd q m (i+1) (by omega) (by omega) λk h3 h4=>hy k (by omega) h4
theorem zlg {M:Model} {A:Around} {E:Value->Shared->Prop} {s s':Shared} {β:Type} {f:Nat->β->Sem (ForInStep β)} {b r:β} {j n:Nat} {Q:β->Shared->Prop} (hd:∀ Q':ForInStep β->Shared->Prop,Q' (.done r) s'->wpAny M A (f j b) Q' E s) (hj:j<n)
  (hy:∀ k,k<j->∀ Q':ForInStep β->Shared->Prop,Q' (.yield b) s->wpAny M A (f k b) Q' E s) (q:Q r s'):wpAny M A (forIn [:n] b f) Q E s:=by
 rw [Std.Legacy.Range.forIn_eq_forIn_range'];exact zio hd q _ 0 (Nat.zero_le _) (by simpa using hj) λk _ h=>hy k h
theorem zli (l:Addr) (items:Array Value) (n:Nat) (dd:Option Addr) (sl:Array (Option Value)) (x:Value) (e:Value->Bool) (j:Nat) (hj:j<items.size) (hit:e items[j]=true) (hno:∀ m (hm:m<items.size),m<j->e items[m]=false) :
  Meets (Builtin.«tuple.index» ⟨[.ref l,x],[]⟩)
   (λA R s=>s.heap.get? l=some { cls:=.type "tuple",dict:=dd,data:=.seq items n,slots:=sl }/\(∀ y,y∈items->SeqAt.EqAt A.in1 s y x (e y))/\R (.ok (.ret (.int j s.toks))) { s with toks:=s.toks+1 }):=
 .of_wp λprog w A R s h=>by
  obtain ⟨hp,g,d,tk,os⟩:=s;obtain ⟨hl,he,h⟩:=h
  wp_walk using wpAny_loadPart' hl,zlg (j:=j) (r:=(some (.done (.ret (.int (j:Int) tk))),())) (s':=⟨hp,g,d,tk+1,os⟩) ?hd ?hj ?hy ?hq
  case hd=>
   intro Q' q';rw [Array.getElem?_eq_getElem hj];refine wpAny_bind (he _ (Array.getElem_mem hj) prog w _ _ ?_);rw [hit]
   wp_walk
   exact q'
  case hj=>omega
  case hy=>
   intro k hk Q' q'
   have hk':k<items.size:=by omega
   rw [Array.getElem?_eq_getElem hk'];refine wpAny_bind (he _ (Array.getElem_mem hk') prog w _ _ ?_);rw [hno k hk' hk];exact wpAny_pure q'
  case hq=>exact wpAny_pure ⟨_,rfl,h⟩
end IT
namespace IT
open PySem PySem.Spec L2
open PySem.StrLaws Builtin.Str
section
variable {X:Cx}
theorem zlF:MtR X "str.startswith" (λx vs H Q=>∃ z y:List Nat,x=.str (zaa z)/\vs=[.str (zaa y)]/\Q (.bl (y.isPrefixOf z)) H):=by
 intro pins s σ H x xs v us Q I rx rs q;obtain ⟨z,y,rfl,rfl,q⟩:=q;obtain ⟨t,rfl⟩:=(show ∃ t',v=Value.str (zaa z) t' from rx);obtain ⟨u,rfl,ru⟩:=rs.one;obtain ⟨t2,rfl⟩:=(show ∃ t',u=Value.str (zaa y) t' from ru);refine call_meets F.slot_str_startswith (typeIs_str _ _ _) F.entry_str_startswith (F.args_str_startswith_2 _ _) (gives_str_startswith _ _ _ _).meets ?_
 have e:(decide (0+(zaa y).length<=(zaa z).length)&&subAt (zaa z) (zaa y) 0)=y.isPrefixOf z:=by
  have h:=zdp z y 0;unfold At at h;rw [Bool.eq_iff_iff,Bool.and_eq_true,decide_eq_true_iff];refine h.trans ?_;simp only [List.drop_zero,Nat.zero_add];constructor
  ·exact λh=>h.2
  ·exact λh=>⟨(List.isPrefixOf_iff_prefix.mp h).length_le,h⟩
 rw [e];exact ⟨.bl _,H,I,rfl,q⟩
theorem zdA:∀ {l:List (List Nat)} {us:List Value},Vals (l.map λx=>V.str (zaa x)) us->∃ ps:List (Str×Tok),us=strValues ps/\ps.map (·.1)=l.map zaa
 | [],us,r=>⟨[],r.zero,rfl⟩
 | x::l,us,r=>by
  cases r with
  | cons r1 r=>
   obtain ⟨t,rfl⟩:=(show ∃ t',_=Value.str (zaa x) t' from r1);obtain ⟨ps,rfl,e⟩:=zdA r;exact ⟨(zaa x,t)::ps,rfl,by simp [e]⟩
theorem ziv (z:Str):∀ (l:List Str) (n:Nat),l.foldl (λa y=>a+y.length+z.length) n=n+(l.map λy=>y.length+z.length).sum
 | [],n=>by simp
 | y::l,n=>by
  simp only [List.foldl_cons,List.map_cons,List.sum_cons];rw [ziv z l];omega
theorem zgH (z:List Nat):∀ (l:List (List Nat)) (x:List Nat),(l.map zaa).foldl (λacc p=>acc++(zaa z).cps++p.cps) (zaa x).cps=(zaa (x++(l.map λy=>z++y).flatten)).cps
 | [],x=>by simp
 | y::l,x=>by
  simp only [List.map_cons,List.foldl_cons,List.flatten_cons]
  have e:(zaa x).cps++(zaa z).cps++(zaa y).cps=(zaa (x++(z++y))).cps:=by simp [zaa]
  rw [e,zgH z l];simp
theorem zjb (z:List Nat):∀ l:List (List Nat),glued (zaa z) (l.map zaa)=zaa (catS z l)
 | []=>rfl
 | x::l=>by
  have:=zgH z l x
  show (⟨(l.map zaa).foldl (λacc p=>acc++(zaa z).cps++p.cps) (zaa x).cps⟩:Str)=_;rw [this];rfl
theorem cat_len (z:List Nat):∀ l:List (List Nat),(catS z l).length<=(l.map λy=>y.length+z.length).sum
 | []=>by simp [catS]
 | x::l=>by
  have h:∀ l:List (List Nat),((l.map λy=>z++y).flatten).length=(l.map λy=>y.length+z.length).sum:=by
   intro l
   induction l with
   | nil=>rfl
   | cons y l ih=>simp [ih];omega
  simp only [catS,List.length_append,h,List.map_cons,List.sum_cons];omega
theorem zo5:MtR X "str.join" (λx vs H Q=>∃ (z:List Nat) (p:Addr) (l:List (List Nat)),x=.str (zaa z)/\vs=[.ref p]/\(SqL X.K H p (l.map λx=>V.str (zaa x))\/SqT X.K H p (l.map λx=>V.str (zaa x)))/\(l.map λy=>y.length+z.length).sum<=sizeLine/\Q (.str (zaa (catS z l))) H):=by
 intro pins s σ H x xs v us Q I rx rs q;obtain ⟨z,p,l,rfl,rfl,sq,hz,q⟩:=q;obtain ⟨t,rfl⟩:=(show ∃ t',v=Value.str (zaa z) t' from rx);obtain ⟨u,rfl,ru⟩:=rs.one;cases ru
 have long:∀ ps:List (Str×Tok),ps.map (·.1)=l.map zaa->Builtin.Str.tooLong ((ps.map (·.1)).toArray.foldl (·+·.length+(zaa z).length) 0)=false:=by
  intro ps e;rw [e]
  have h2:(l.map zaa).toArray.foldl (λa y=>a+y.length+(zaa z).length) 0=(l.map λy=>y.length+z.length).sum:=by
   rw [List.foldl_toArray,ziv];simp [zae,Function.comp_def]
  unfold Builtin.Str.tooLong;have h3:=h2▸hz;simp only [decide_eq_false_iff_not];exact Nat.not_lt.mpr h3
 have fin:∀ ps:List (Str×Tok),ps.map (·.1)=l.map zaa->(joinMade (zaa z) ps).post (λv s'=>wants (EP X pins σ Q) X.xe (.ok (.ret v)) s') s:=by
  intro ps e
  have many:(Made.str (glued (zaa z) (ps.map (·.1)))).post (λv s'=>wants (EP X pins σ Q) X.xe (.ok (.ret v)) s') s:=by
   rw [e,zjb];refine ⟨?_,⟨.str (zaa (catS z l)),H,I.tok _,⟨_,rfl⟩,q⟩⟩;rw [zae];exact Nat.le_trans (cat_len z l) hz
  match ps,e with
  | [],e=>exact many
  | [p1],e=>
   have e1:p1.1=zaa (catS z l):=by
    match l,e with
    | [],e=>simp at e
    | [x1],e=>simpa [catS] using e
    | _::_::_,e=>simp at e
   obtain ⟨px,pt⟩:=p1;simp only at e1;subst e1;exact ⟨.str (zaa (catS z l)),H,I,⟨pt,rfl⟩,q⟩
  | p1::p2::r,e=>exact many
 rcases sq with sq | sq
 ·obtain ⟨its,ri,pl,hn⟩:=I.list sq
  obtain ⟨ps,rfl,e⟩:=zdA ri;exact call_meets F.slot_str_join (typeIs_str _ _ _) F.entry_str_join (F.args_str_join_2 _ _) (meets_str_join_list (zaa z) t p ps (long ps e)) ⟨pl.isList,fin ps e⟩
 ·obtain ⟨its,ri,pl,hn⟩:=I.tuple sq
  obtain ⟨ps,rfl,e⟩:=zdA ri;obtain ⟨o,h1,h2,n,h3⟩:=pl;exact call_meets F.slot_str_join (typeIs_str _ _ _) F.entry_str_join (F.args_str_join_2 _ _) (meets_str_join_tuple (zaa z) t p ps (long ps e)) ⟨⟨o,n,h1,h2,h3⟩,fin ps e⟩
theorem zmf:MtR X "str.partition" (λx vs H Q=>∃ z y:List Nat,x=.str (zaa z)/\vs=[.str (zaa y)]/\y≠[]/\z.length<=sizeLine ∧
  ∀ p,H p=none->Q (.ref p) (upd H p (.tup (match fnd y z with | some i=>[.str (zaa (z.take i)),.str (zaa y),.str (zaa (z.drop (i+y.length)))] | none=>[.str (zaa z),.str (zaa []),.str (zaa [])])))):=by
 intro pins s σ H x xs v us Q I rx rs q;obtain ⟨z,y,rfl,rfl,hy,hz,q⟩:=q;obtain ⟨t,rfl⟩:=(show ∃ t',v=Value.str (zaa z) t' from rx);obtain ⟨u,rfl,ru⟩:=rs.one;obtain ⟨t2,rfl⟩:=(show ∃ t',u=Value.str (zaa y) t' from ru)
 have hy2:((zaa y).length==0)=false:=by
  rw [zae]
  cases y with
  | nil=>exact absurd rfl hy
  | cons _ _=>rfl
 refine call_meets F.slot_str_partition (typeIs_str _ _ _) F.entry_str_partition (F.args_str_partition_2 _ _) (meets_str_partition (zaa z) (zaa y) t t2 hy2 (by rw [zae];exact hz)) ?_
 have hf:=I.fresh;have q:=q _ hf
 rcases zhh (x:=z) (y:=y) 1 (by omega) with ⟨e1,e2⟩ | ⟨i,r,e1,hi,e2⟩
 ·rw [e1] at q
  simp only [e2];refine ⟨.ref s.heap.objs.size,_,I.laid (o:=.tup [.str (zaa z),.str (zaa []),.str (zaa [])]) (t':=s.toks+1) (λb u e=>Heap.get?_push_of_some _ e) (Nat.le_refl _) ?_,rfl,q⟩;exact ⟨show 3<=sizeLine by decide,_,.cons ⟨_,rfl⟩ (.cons ⟨_,rfl⟩ (.cons ⟨_,rfl⟩ .nil)),zbm.new _ _⟩
 ·rw [e1] at q
  simp only [e2]
  have z1:strSub (zaa z) 0 i=zaa (z.take i):=by rw [zic];simp
  have z2:strSub (zaa z) (i+(zaa y).length) (zaa z).length=zaa (z.drop (i+y.length)):=by
   rw [zic,zae,zae,List.take_of_length_le (by simp)]
  rw [z1,z2];refine ⟨.ref s.heap.objs.size,_,I.laid (o:=.tup [.str (zaa (z.take i)),.str (zaa y),.str (zaa (z.drop (i+y.length)))]) (t':=s.toks+1+1) (λb u e=>Heap.get?_push_of_some _ e) (Nat.le_refl _) ?_,rfl,q⟩;exact ⟨show 3<=sizeLine by decide,_,.cons ⟨_,rfl⟩ (.cons ⟨_,rfl⟩ (.cons ⟨_,rfl⟩ .nil)),zbm.new _ _⟩
theorem zfN:∀ (l:List (List Nat)) (k:Nat),Vals (l.map λx=>V.str (zaa x)) (strsFrom k (l.map zaa))
 | [],_=>.nil
 | x::l,k=>.cons ⟨_,rfl⟩ (zfN l (k+1))
theorem zlZ:MtR X "str.split" (λx vs H Q=>∃ z y:List Nat,x=.str (zaa z)/\vs=[.str (zaa y)]/\y≠[]/\z.length+1<=sizeLine/\(splS y z.length z).length<=sizeLine ∧
  ∀ p,H p=none->Q (.ref p) (upd H p (.lst ((splS y z.length z).map λx=>V.str (zaa x))))):=by
 intro pins s σ H x xs v us Q I rx rs q;obtain ⟨z,y,rfl,rfl,hy,hz,hn,q⟩:=q;obtain ⟨t,rfl⟩:=(show ∃ t',v=Value.str (zaa z) t' from rx);obtain ⟨u,rfl,ru⟩:=rs.one;obtain ⟨t2,rfl⟩:=(show ∃ t',u=Value.str (zaa y) t' from ru)
 have hy2:((zaa y).length==0)=false:=by
  rw [zae]
  cases y with
  | nil=>exact absurd rfl hy
  | cons _ _=>rfl
 have q:=q _ I.fresh
 have self:fnd y z=none->EP X pins σ Q (.ref s.heap.objs.size) { s with heap:=s.heap.push { cls:=.type "list",data:=.seq [Value.str (zaa z) t].toArray } }:=by
  intro e;rw [zjM _ e] at q;exact ⟨.ref s.heap.objs.size,_,I.lnew (t':=s.toks) (ys:=[.str (zaa z)]) (its:=[Value.str (zaa z) t]) (.cons ⟨_,rfl⟩ .nil) (show 1<=sizeLine by decide),rfl,q⟩
 cases h1:(decide ((zaa z).length<(zaa y).length)||decide (Builtin.Str.strKind (zaa z)<Builtin.Str.strKind (zaa y)))
 ·rcases zhh (x:=z) (y:=y) ((zaa z).length+1) (by omega) with ⟨e1,e2⟩ | ⟨i,r,e1,hi,e2⟩
  ·exact call_meets F.slot_str_split (typeIs_str _ _ _) F.entry_str_split (F.args_str_split_2 _ _) (meets_str_split_not_found (zaa z) (zaa y) t t2 h1 hy2 (by rw [e2];rfl)) (self e1)
  ·obtain ⟨f,c1,c2⟩:=occ_tight (zaa z) (zaa y) (by rw [zae];exact List.length_pos_iff.mpr hy)
   have ep:partsBetween (zaa z) (occurrences (zaa z) (zaa y) 0 (zaa z).length ((zaa z).length+1)) (zaa y).length=(splS y z.length z).map zaa:=by
    rw [partsBetween_eq];exact zgL hy _ 0 f z.length (Nat.zero_le _) c1 c2 (by omega)
   refine call_meets F.slot_str_split (typeIs_str _ _ _) F.entry_str_split (F.args_str_split_2 _ _) (meets_str_split_sep (zaa z) (zaa y) t t2 h1 hy2 (by rw [e2];rfl) (by rw [zae];omega) (by rw [ep];simpa using hn)) ?_
   rw [ep];exact ⟨.ref s.heap.objs.size,_,I.lnew (t':=s.toks+((splS y z.length z).map zaa).length) (its:=strsFrom s.toks ((splS y z.length z).map zaa)) (zfN _ _) (by simpa using hn),rfl,q⟩
 ·exact call_meets F.slot_str_split (typeIs_str _ _ _) F.entry_str_split (F.args_str_split_2 _ _) (meets_str_split_cannot_occur (zaa z) (zaa y) t t2 h1) (self (zrC hy h1))
theorem zlm (q:RepDs K A H (d::xs) (v::vs)):RepD K A H d v/\RepDs K A H xs vs:=by
 rw [RepDs] at q;obtain ⟨v',r,e,q1,q2⟩:=q;cases e;exact ⟨q1,q2⟩
theorem zcE (x:List Nat):RepD K A H (.str x) (.str (zaa x)):=by simp only [RepD]
theorem zhL:∀ {xs:List D} {vs:List V} {l:List (List Nat)},RepDs K A H xs vs->txts xs=some l->vs=l.map λx=>V.str (zaa x)
 | [],vs,l,q,e=>by
  cases e
  cases vs with
  | nil=>rfl
  | cons _ _=>simp [RepDs] at q
 | d :: xs,vs,l,q,e=>by
  cases vs with
  | nil=>simp [RepDs] at q
  | cons v vs=>
   obtain ⟨q1,q2⟩:=zlm q
   cases d with
   | str x=>
    simp only [txts] at e
    cases hr:txts xs with
    | none=>rw [hr] at e;cases e
    | some l'=>
     rw [hr] at e;cases e;simp only [RepD] at q1;rw [zhL q2 hr,q1];rfl
   | _=>simp [txts] at e
noncomputable def tmS:Tm->Str
 | .starts=>"startswith"
 | .parti=>"partition"
 | .join=>"join"
theorem zsC {fs:IT.Env->M (List R)} (ho:IE X o f) (ha:IA X (e::es) fs)
  (hname:name=tmS m)
  (hbase:attributeBase o name X.env (eval o X.env)=eval o X.env)
  (hfew:((backTo cpos (starEach (e::es) X.env)).all (λx=>!x.1)&&(backToKw cpos (keywordEach [] X.env)).all (λx=>x.1.isSome)
   && decide ((e::es).length+([]:List Keyword).length+(if ([]:List Keyword).isEmpty then 0 else 1)<30))=true)
  (hline:(apos.endLine==cpos.line)=true) (hs:starEach (e::es) X.env=(false,eval e X.env)::starEach es X.env) (hplain:(backTo cpos (starEach es X.env)).any (·.1)=false) :
  IE X (.Call (.Attribute o name apos) (e::es) [] cpos) (λσ=>bnd (f σ) λx=>bnd (fs σ) λrs=>bnd (rd x) λd=>bnd (rds rs) λds=>bnd (opt (tmD m d ds)) λz=>ok (.d z)):=by
 have key:∀ (id:String) (rr:V->List V->Hp->VK->Prop),MtR X id rr->Slot "str" name id->typeOf (.builtin id)=pure (.type "method_descriptor") →
   (∀ μ h H (z:List Nat) ds vs d Q,Rep X.K μ h H->Paired (RdD X.K (Live μ h) H) ds vs->tmD m (.str z) ds=some d->(∀ μ' H' w,Stp μ h H μ' h H'->Rep X.K μ' h H'->RepD X.K (Live μ' h) H' d w->Q w H')->rr (.str (zaa z)) vs H Q) →
   IE X (.Call (.Attribute o name apos) (e::es) [] cpos) (λσ=>bnd (f σ) λx=>bnd (fs σ) λrs=>bnd (rd x) λd=>bnd (rds rs) λds=>bnd (opt (tmD m d ds)) λz=>ok (.d z)):=by
  intro id rr hm slot hty hk;refine PE.imp (zjv PySem.F.plainAttrs_str slot hty hm ho ha hbase hfew hline hs hplain) λσ H Q q0=>?_;obtain ⟨μ,h,env,R0,re,r,h',e,k⟩:=q0;simp only [zab,zas,zac] at e;obtain ⟨x,h1,e1,rs,h2,e2,d,h3,e3,ds,h4,e4,z,h5,⟨e5,rfl⟩,rfl,rfl⟩:=e;refine ⟨μ,h,env,R0,re,x,h1,e1,λμ1 H1 v s1 R1 q1=>?_⟩
  have hd:∃ z',d=.str z':=by
   cases d with
   | str z'=>exact ⟨z',rfl⟩
   | _=>cases m<;>exact zad e5
  obtain ⟨z',rfl⟩:=hd
  have hx:x=.d (.str z')/\h3=h2:=by
   cases x with
   | d y=>simp only [rd,zac] at e3;exact ⟨by rw [e3.1],e3.2.symm⟩
   | loc l=>
    simp only [rd] at e3
    cases hl:h2[l]? with
    | none=>rw [hl] at e3;cases e3
    | some ob=>rw [hl] at e3;simp at e3
  obtain ⟨rfl,rfl⟩:=hx;simp only [RepR,RepD] at q1;subst q1;refine ⟨rfl,μ1,h1,env,R1,re.stp s1 R0,rs,_,e2,λμ2 H2 vs s2 R2 q2=>?_⟩;obtain ⟨rfl,zs⟩:=zk0 R2 q2 e4;exact hk μ2 _ H2 z' ds vs z Q R2 zs e5 λμ' H' w st R' q'=>k μ' H' w ((s1.trans s2).trans st) R' q'
 cases m with
 | starts=>
  subst hname;refine key _ _ zlF PySem.F.slot_str_startswith PySem.F.type_str_startswith λμ h H z ds vs d Q R0 pr e k=>?_
  cases pr with
  | nil=>exact zad e
  | @cons d1 v1 ds vs q1 pr=>
   cases pr with
   | cons _ _=>cases d1<;>exact zad e
   | nil=>
    cases d1 with
    | str y=>
     simp only [RdD,RepD] at q1;subst q1;cases e;exact ⟨z,y,rfl,rfl,k μ H _ Stp.refl R0 (by simp only [RepD])⟩
    | _=>exact zad e
 | parti=>
  subst hname;refine key _ _ zmf PySem.F.slot_str_partition PySem.F.type_str_partition λμ h H z ds vs d Q R0 pr e k=>?_
  cases pr with
  | nil=>exact zad e
  | @cons d1 v1 ds vs q1 pr=>
   cases pr with
   | cons _ _=>cases d1<;>exact zad e
   | nil=>
    cases d1 with
    | str y=>
     simp only [RdD,RepD] at q1;subst q1
     (delta tmD at e;(try dsimp only at e))
     split at e
     ·cases e
     ·rename_i hc
      simp only [Bool.or_eq_true,not_or,Bool.not_eq_true',Bool.not_eq_true] at hc;cases e
      refine ⟨z,y,rfl,rfl,by intro z;rw [z] at hc;simp at hc,(show z.length<=big from by simpa [fit] using hc.2),λp hp=>?_⟩
      have s2:∀ u:List V,Stp μ h H μ h (upd H p (.tup u)):=λu=>Stp.fresh hp;refine k μ _ (.ref p) (s2 _) (R0.fresh hp) ?_
      have hrep:∀ (A:Addr->Prop) (H:Hp),RepDs X.K A H (match fnd y z with | some i=>[D.str (z.take i),.str y,.str (z.drop (i+y.length))] | none=>[.str z,.str [],.str []]) (match fnd y z with | some i=>[V.str (zaa (z.take i)),.str (zaa y),.str (zaa (z.drop (i+y.length)))] | none=>[.str (zaa z),.str (zaa []),.str (zaa [])]):=by
       intro A H
       cases fnd y z with
       | none=>exact .cons (zcE _) (.cons (zcE _) (.cons (zcE _) .nil))
       | some i=>exact .cons (zcE _) (.cons (zcE _) (.cons (zcE _) .nil))
      simp only [RepD];exact ⟨p,_,rfl,SqT.of zaj,hrep _ _⟩
    | _=>exact zad e
 | join =>
  subst hname;refine key _ _ zo5 PySem.F.slot_str_join PySem.F.type_str_join λμ h H z ds vs d Q R0 pr e k=>?_
  cases pr with
  | nil=>exact zad e
  | @cons d1 v1 ds vs q1 pr=>
   cases pr with
   | cons _ _=>cases d1<;>exact zad e
   | nil=>
    have fin:∀ xs:List D,items d1=some xs->(∃ (p:Addr) (ws:List V),v1=.ref p/\(SqL X.K H p ws\/SqT X.K H p ws)/\RepDs X.K (Live μ h) H xs ws)->∃ (z':List Nat) (p:Addr) (l:List (List Nat)),V.str (zaa z)=.str (zaa z')/\[v1]=[.ref p]/\(SqL X.K H p (l.map λx=>V.str (zaa x))\/SqT X.K H p (l.map λx=>V.str (zaa x)))/\(l.map λy=>y.length+z'.length).sum<=sizeLine/\Q (.str (zaa (catS z' l))) H:=by
     intro xs hi ⟨p,ws,e1,sq,zz⟩
     (delta tmD at e;(try dsimp only at e);simp only [hi] at e)
     cases hl:txts xs with
     | none=>rw [hl] at e;cases e
     | some l=>
      rw [hl] at e;simp only at e
      split at e
      ·rename_i hf
       cases e;have ew:=zhL zz hl;subst ew;exact ⟨z,p,l,rfl,by rw [e1],sq,of_decide_eq_true hf,k μ H _ Stp.refl R0 (by simp only [RepD])⟩
      ·cases e
    cases d1 with
    | tup xs=>
     simp only [RdD,RepD] at q1;obtain ⟨p,ws,rfl,sq,zz⟩:=q1;exact fin xs rfl ⟨p,ws,rfl,.inr sq,zz⟩
    | lst xs=>
     obtain ⟨p,ws,rfl,sq,zz⟩:=q1;exact fin xs rfl ⟨p,ws,rfl,.inl sq,zz⟩
    | _=>exact zad e
theorem zq2 (ho:IE X o f) (he:IE X e g) (hname:name=("split":Str))
  (hbase:attributeBase o name X.env (eval o X.env)=eval o X.env)
  (hfew:((backTo cpos (starEach [e] X.env)).all (λx=>!x.1)&&(backToKw cpos (keywordEach [] X.env)).all (λx=>x.1.isSome)
   && decide ([e].length+([]:List Keyword).length+(if ([]:List Keyword).isEmpty then 0 else 1)<30))=true)
  (hline:(apos.endLine==cpos.line)=true) (hs:starEach [e] X.env=[(false,eval e X.env)]) (hplain:(backTo cpos (starEach [] X.env)).any (·.1)=false) :
  IL X (.Call (.Attribute o name apos) [e] [] cpos) (λσ=>bnd (f σ) λx=>bnd (g σ) λy=>bnd (rd x) λx=>bnd (rd y) λy=>opt (splD x y)):=by
 subst hname;refine PE.imp (zjv PySem.F.plainAttrs_str PySem.F.slot_str_split PySem.F.type_str_split zlZ ho (zaH he zbP hs) hbase hfew hline hs hplain) λσ H Q q0=>?_;obtain ⟨μ,h,env,R0,re,xs,h',e,k⟩:=q0;simp only [zab,zas] at e;obtain ⟨x,h1,e1,y,h2,e2,dx,h3,e3,dy,h4,e4,e5,rfl⟩:=e;refine ⟨μ,h,env,R0,re,x,h1,e1,λμ1 H1 v s1 R1 q1=>?_⟩
 have hd:∃ z w,dx=.str z/\dy=.str w:=by
  cases dx with
  | str z=>
   cases dy with
   | str w=>exact ⟨z,w,rfl,rfl⟩
   | _=>exact zad e5
  | _=>exact zad e5
 obtain ⟨z,w,rfl,rfl⟩:=hd
 have one:∀ (r:R) (t:List Nat) (ha hb:Sto),rd r ha=some (.str t,hb)->r=.d (.str t)/\hb=ha:=by
  intro r t ha hb e
  cases r with
  | d y=>simp only [rd,zac] at e;exact ⟨by rw [e.1],e.2.symm⟩
  | loc l=>
   simp only [rd] at e
   cases hl:ha[l]? with
   | none=>rw [hl] at e;cases e
   | some ob=>rw [hl] at e;simp at e
 obtain ⟨rfl,rfl⟩:=one _ _ _ _ e3;obtain ⟨rfl,rfl⟩:=one _ _ _ _ e4;simp only [RepR,RepD] at q1;subst q1;refine ⟨rfl,μ1,h1,env,R1,re.stp s1 R0,_,_,e2,λμ2 H2 vs s2 R2 q2=>?_⟩;simp only [RepR,RepD] at q2;subst q2
 (delta splD at e5;(try dsimp only at e5))
 split at e5
 ·cases e5
 ·rename_i hc
  simp only [Bool.or_eq_true,not_or,Bool.not_eq_true',Bool.not_eq_true] at hc;cases e5
  refine ⟨z,w,rfl,rfl,by intro z;rw [z] at hc;simp at hc,(show z.length+1<=big from by simpa [fit] using hc.1.2),(show (splS w z.length z).length<=big from by simpa [fit] using hc.2),λp hp=>?_⟩
  refine k μ2 H2 p _ (s1.trans s2) R2 ?_ hp
  have all:∀ l:List (List Nat),RepDs X.K (Live μ2 h4) H2 (l.map D.str) (l.map λx=>V.str (zaa x)):=by
   intro l
   induction l with
   | nil=>exact RepDs.nil
   | cons a l ih=>exact RepDs.cons (by simp only [RepD]) ih
  exact all _
theorem zdX {α β:Type} {p:α->Bool} {f:β->Bool}:∀ {xs:List α} {ys:List β},xs.length=ys.length->(∀ (j:Nat) (x:α) (y:β),xs[j]?=some x->ys[j]?=some y->f y=p x)->ys.countP f=xs.countP p
 | [],[],_,_=>rfl
 | [],_::_,h,_=>by simp at h
 | _::_,[],h,_=>by simp at h
 | x::xs,y::ys,h,k=>by
  rw [List.countP_cons,List.countP_cons,zdX (xs:=xs) (ys:=ys) (by simpa using h) (λj x y hx hy=>k (j+1) x y (by simpa using hx) (by simpa using hy)),k 0 x y rfl rfl]
noncomputable def lmI:Lm->String
 | .count=>"list.count"
 | .index=>"list.index"
 | .countT=>"tuple.count"
 | .indexT=>"tuple.index"
theorem zsm (hu:X.A.units+64<cLine) (m:Lm):MtR X (lmI m) (λx vs H Q=>∃ μ h xs d v z,Rep X.K μ h H/\RdD X.K (Live μ h) H (.lst xs) x/\vs=[v]/\RdD X.K (Live μ h) H d v/\lmD m (.lst xs) d=some z/\(∀ w,RepD X.K (Live μ h) H z w->Q w H)):=by
 intro pins s σ H x vs v us Q I rx rs q;obtain ⟨μ,h,xs,d,vd,z,R0,qx,rfl,qd,e,k⟩:=q;obtain ⟨p,ws,rfl,sq,zz⟩:=qx;cases rx;obtain ⟨u,rfl,ru⟩:=rs.one;obtain ⟨its,ri,⟨o,n,e1,hc,hdd,hs⟩,hz⟩:=I.list sq;obtain ⟨cls,dd,data,sl⟩:=o;simp only at hc hdd hs;subst hc hdd hs
 have hlen:xs.length=its.length:=by rw [zz.length,ri.length]
 cases m with
 | count=>
  (delta lmD at e;(try dsimp only at e))
  split at e
  ·rename_i hd
   cases e;obtain ⟨f,f1,f2⟩:=zfV hu I qd ru (of_decide_eq_true hd) zz ri;refine call_meets F.slot_list_count ⟨_,e1,rfl⟩ F.entry_list_count (F.args_list_count_2 _ _) (SeqAt.list_countAt p its.toArray n none sl u f) ⟨e1,f1,?_⟩
   have ec:(its.toArray.toList.countP f:Nat)=xs.countP λy=>y.eqb d:=by simpa using zdX hlen f2
   rw [ec];exact ⟨.int _,H,I.tok _,⟨_,rfl⟩,k _ (by simp only [RepD])⟩
  ·cases e
 | index=>
  (delta lmD at e;(try dsimp only at e))
  split at e
  ·rename_i hd
   cases hj:xs.findIdx? (λy=>y.eqb d) with
   | none=>rw [hj] at e;cases e
   | some j=>
    rw [hj] at e;cases e;obtain ⟨f,f1,f2⟩:=zfV hu I qd ru (of_decide_eq_true hd) zz ri;obtain ⟨jl,j1,j2⟩:=List.findIdx?_eq_some_iff_getElem.mp hj
    have fa:∀ (i:Nat) (hi:i<its.toArray.size),f its.toArray[i]=(xs[i]'(by rw [hlen];simpa using hi)).eqb d:=by
     intro i hi
     have hi2:i<its.length:=by simpa using hi
     exact f2 i _ _ (List.getElem?_eq_getElem (by rw [hlen];exact hi2)) (by simp)
    refine call_meets F.slot_list_index ⟨_,e1,rfl⟩ F.entry_list_index (F.args_list_index_2 _ _) (SeqAt.list_indexAt p its.toArray n none sl u f j (by simp;omega) ?_ ?_ ?_) ⟨e1,f1,?_⟩
    ·have h5:ws.length<=sizeLine:=hz
     have h6:sizeLine=16777216:=rfl;have h7:=zz.length;omega
    ·rw [fa];exact j1
    ·intro i hi hij
     rw [fa]
     simpa using j2 i hij
    ·exact ⟨.int _,H,I.tok _,⟨_,rfl⟩,k _ (by simp only [RepD])⟩
  ·cases e
 | countT=>exact zad e
 | indexT=>exact zad e
noncomputable def lmS:Lm->Str
 | .count=>"count"
 | .index=>"index"
 | .countT=>"count"
 | .indexT=>"index"
theorem zsR (hu:X.A.units+64<cLine) (hnt:m≠.countT) (hnx:m≠.indexT) (ho:IE X o f) (he:IE X e g) (hname:name=lmS m)
  (hbase:attributeBase o name X.env (eval o X.env)=eval o X.env)
  (hfew:((backTo cpos (starEach [e] X.env)).all (λx=>!x.1)&&(backToKw cpos (keywordEach [] X.env)).all (λx=>x.1.isSome)
   && decide ([e].length+([]:List Keyword).length+(if ([]:List Keyword).isEmpty then 0 else 1)<30))=true)
  (hline:(apos.endLine==cpos.line)=true) (hs:starEach [e] X.env=[(false,eval e X.env)]) (hplain:(backTo cpos (starEach [] X.env)).any (·.1)=false) :
  IE X (.Call (.Attribute o name apos) [e] [] cpos) (λσ=>bnd (f σ) λx=>bnd (rd x) λ_=>bnd (g σ) λy=>bnd (rd x) λx=>bnd (rd y) λy=>bnd (opt (lmD m x y)) λz=>ok (.d z)):=by
 have slot:Slot "list" name (lmI m):=by
  subst hname
  cases m with
  | count=>exact PySem.F.slot_list_count
  | index=>exact PySem.F.slot_list_index
  | countT=>exact absurd rfl hnt
  | indexT=>exact absurd rfl hnx
 have hty:typeOf (.builtin (lmI m))=pure (.type "method_descriptor"):=by
  cases m with
  | count=>exact PySem.F.type_list_count
  | index=>exact PySem.F.type_list_index
  | countT=>exact absurd rfl hnt
  | indexT=>exact absurd rfl hnx
 refine PE.imp (zjv PySem.F.plainAttrs_list slot hty (zsm hu m) ho (zaH he zbP hs) hbase hfew hline hs hplain) λσ H Q q0=>?_;obtain ⟨μ,h,env,R0,re,r,h',e,k⟩:=q0;simp only [zab,zas,zac] at e;obtain ⟨x,h1,e1,d1,h1',e0,y,h2,e2,dx,h3,e3,dy,h4,e4,z,h5,⟨e5,rfl⟩,rfl,rfl⟩:=e;refine ⟨μ,h,env,R0,re,x,h1,e1,λμ1 H1 v s1 R1 q1=>?_⟩;obtain ⟨rfl,_⟩:=za2 R1 q1 e0
 have hd:∃ xs,dx=.lst xs:=by
  cases dx with
  | lst xs=>exact ⟨xs,rfl⟩
  | _=>cases m<;>first | exact absurd rfl hnt | exact absurd rfl hnx | exact zad e5
 obtain ⟨xs,rfl⟩:=hd
 have ty:tyV X.K "list" v H1:=by
  cases x with
  | loc l=>
   obtain ⟨a,ea,rfl⟩:=q1;obtain ⟨o1,ho1,il1,_,_⟩:=zew e0;obtain ⟨vs1,hH1,z1⟩:=R1.placeL ea ho1 il1;exact .inl ⟨rfl,vs1,.inl (.inl hH1)⟩
  | d d0=>
   simp only [rd,zac] at e3;obtain ⟨rfl,rfl⟩:=e3;simp only [RepR,RepD] at q1;obtain ⟨a,ws,rfl,sq,zz⟩:=q1;exact .inl ⟨rfl,ws,sq.sq⟩
 refine ⟨ty,μ1,_,env,R1,re.stp s1 R0,y,h2,e2,λμ2 H2 w s2 R2 q2=>?_⟩;have q1':=RepR.stp s2 R1 q1;obtain ⟨rfl,zx⟩:=za2 R2 q1' e3;obtain ⟨rfl,zy⟩:=za2 R2 q2 e4;exact ⟨μ2,_,xs,dy,w,z,R2,zx,rfl,zy,e5,λu qu=>k μ2 H2 u (s1.trans s2) R2 qu⟩
theorem zql (hu:X.A.units+64<cLine):MtR X "tuple.count" (λx vs H Q=>∃ μ h xs d v z,Rep X.K μ h H/\RdD X.K (Live μ h) H (.tup xs) x/\vs=[v]/\RdD X.K (Live μ h) H d v/\lmD .countT (.tup xs) d=some z/\(∀ w,RepD X.K (Live μ h) H z w->Q w H)):=by
 intro pins s σ H x vs v us Q I rx rs q;obtain ⟨μ,h,xs,d,vd,z,R0,qx,rfl,qd,e,k⟩:=q;simp only [RdD,RepD] at qx;obtain ⟨p,ws,rfl,sq,zz⟩:=qx;cases rx;obtain ⟨u,rfl,ru⟩:=rs.one;obtain ⟨its,ri,pt,hz⟩:=I.tuple sq;obtain ⟨⟨cls,dd,data,sl⟩,e1,hc,n,hdd⟩:=id pt;simp only at hc hdd;subst hc hdd
 have hlen:xs.length=its.length:=by rw [zz.length,ri.length]
 change (if _=true then _ else _)=some _ at e
 split at e
 ·rename_i hd
  cases e;obtain ⟨f,f1,f2⟩:=zfV hu I qd ru (of_decide_eq_true hd) zz ri;refine call_meets F.slot_tuple_count ⟨_,e1,rfl⟩ F.entry_tuple_count (F.args_tuple_count_2 _ _) (SeqAt.tuple_countAt p its.toArray n dd sl u f) ⟨e1,f1,?_⟩
  have ec:(its.toArray.toList.countP f:Nat)=xs.countP λy=>y.eqb d:=by simpa using zdX hlen f2
  rw [ec];exact ⟨.int _,H,I.tok _,⟨_,rfl⟩,k _ (by simp only [RepD])⟩
 ·cases e
theorem znt {id:String} {m:Lm} (slot:Slot "tuple" name id) (hty:typeOf (.builtin id)=pure (.type "method_descriptor")) (mt:MtR X id (λx vs H Q=>∃ μ h xs d v z,Rep X.K μ h H/\RdD X.K (Live μ h) H (.tup xs) x/\vs=[v]/\RdD X.K (Live μ h) H d v/\lmD m (.tup xs) d=some z/\(∀ w,RepD X.K (Live μ h) H z w->Q w H)))
  (hm:m=.countT\/m=.indexT) (ho:IE X o f) (he:IE X e g)
  (hbase:attributeBase o name X.env (eval o X.env)=eval o X.env)
  (hfew:((backTo cpos (starEach [e] X.env)).all (λx=>!x.1)&&(backToKw cpos (keywordEach [] X.env)).all (λx=>x.1.isSome)
   && decide ([e].length+([]:List Keyword).length+(if ([]:List Keyword).isEmpty then 0 else 1)<30))=true)
  (hline:(apos.endLine==cpos.line)=true) (hs:starEach [e] X.env=[(false,eval e X.env)]) (hplain:(backTo cpos (starEach [] X.env)).any (·.1)=false) :
  IE X (.Call (.Attribute o name apos) [e] [] cpos) (λσ=>bnd (f σ) λx=>bnd (rd x) λ_=>bnd (g σ) λy=>bnd (rd x) λx=>bnd (rd y) λy=>bnd (opt (lmD m x y)) λz=>ok (.d z)):=by
 refine PE.imp (zjv PySem.F.plainAttrs_tuple slot hty mt ho (zaH he zbP hs) hbase hfew hline hs hplain) λσ H Q q0=>?_;obtain ⟨μ,h,env,R0,re,r,h',e,k⟩:=q0;simp only [zab,zas,zac] at e;obtain ⟨x,h1,e1,d1,h1',e0,y,h2,e2,dx,h3,e3,dy,h4,e4,z,h5,⟨e5,rfl⟩,rfl,rfl⟩:=e;refine ⟨μ,h,env,R0,re,x,h1,e1,λμ1 H1 v s1 R1 q1=>?_⟩;obtain ⟨rfl,_⟩:=za2 R1 q1 e0
 have hd:∃ xs,dx=.tup xs:=by
  cases dx with
  | tup xs=>exact ⟨xs,rfl⟩
  | _=>rcases hm with rfl | rfl<;>exact zad e5
 obtain ⟨xs,rfl⟩:=hd
 have ty:tyV X.K "tuple" v H1:=by
  cases x with
  | loc l=>
   obtain ⟨o1,ho1,il1,z1,_⟩:=zew e3;cases z1
  | d d0=>
   simp only [rd,zac] at e3;obtain ⟨rfl,rfl⟩:=e3;simp only [RepR,RepD] at q1;obtain ⟨a,ws,rfl,sq,zz⟩:=q1;exact .inr (.inl ⟨rfl,ws,sq⟩)
 refine ⟨ty,μ1,_,env,R1,re.stp s1 R0,y,h2,e2,λμ2 H2 w s2 R2 q2=>?_⟩;have q1':=RepR.stp s2 R1 q1;obtain ⟨rfl,zx⟩:=za2 R2 q1' e3;obtain ⟨rfl,zy⟩:=za2 R2 q2 e4;exact ⟨μ2,_,xs,dy,w,z,R2,zx,rfl,zy,e5,λu qu=>k μ2 H2 u (s1.trans s2) R2 qu⟩
theorem zp3 (hu:X.A.units+64<cLine) (ho:IE X o f) (he:IE X e g) (hname:name=lmS .countT)
  (hbase:attributeBase o name X.env (eval o X.env)=eval o X.env)
  (hfew:((backTo cpos (starEach [e] X.env)).all (λx=>!x.1)&&(backToKw cpos (keywordEach [] X.env)).all (λx=>x.1.isSome)
   && decide ([e].length+([]:List Keyword).length+(if ([]:List Keyword).isEmpty then 0 else 1)<30))=true)
  (hline:(apos.endLine==cpos.line)=true) (hs:starEach [e] X.env=[(false,eval e X.env)]) (hplain:(backTo cpos (starEach [] X.env)).any (·.1)=false) :
  IE X (.Call (.Attribute o name apos) [e] [] cpos) (λσ=>bnd (f σ) λx=>bnd (rd x) λ_=>bnd (g σ) λy=>bnd (rd x) λx=>bnd (rd y) λy=>bnd (opt (lmD .countT x y)) λz=>ok (.d z)):=
 znt (by subst hname;exact PySem.F.slot_tuple_count) PySem.F.type_tuple_count (zql hu) (.inl rfl) ho he hbase hfew hline hs hplain
theorem zpI (hu:X.A.units+64<cLine):MtR X "tuple.index" (λx vs H Q=>∃ μ h xs d v z,Rep X.K μ h H/\RdD X.K (Live μ h) H (.tup xs) x/\vs=[v]/\RdD X.K (Live μ h) H d v/\lmD .indexT (.tup xs) d=some z/\(∀ w,RepD X.K (Live μ h) H z w->Q w H)):=by
 intro pins s σ H x vs v us Q I rx rs q;obtain ⟨μ,h,xs,d,vd,z,R0,qx,rfl,qd,e,k⟩:=q;simp only [RdD,RepD] at qx;obtain ⟨p,ws,rfl,sq,zz⟩:=qx;cases rx;obtain ⟨u,rfl,ru⟩:=rs.one;obtain ⟨its,ri,pt,hz⟩:=I.tuple sq;obtain ⟨⟨cls,dd,data,sl⟩,e1,hc,n,hdd⟩:=id pt;simp only at hc hdd;subst hc hdd
 have hlen:xs.length=its.length:=by rw [zz.length,ri.length]
 change (if _=true then _ else _)=some _ at e
 split at e
 ·rename_i hd
  cases hj:xs.findIdx? (λy=>y.eqb d) with
  | none=>rw [hj] at e;cases e
  | some j=>
   rw [hj] at e;cases e;obtain ⟨f,f1,f2⟩:=zfV hu I qd ru (of_decide_eq_true hd) zz ri;obtain ⟨jl,j1,j2⟩:=List.findIdx?_eq_some_iff_getElem.mp hj
   have fa:∀ (i:Nat) (hi:i<its.toArray.size),f its.toArray[i]=(xs[i]'(by rw [hlen];simpa using hi)).eqb d:=by
    intro i hi
    have hi2:i<its.length:=by simpa using hi
    exact f2 i _ _ (List.getElem?_eq_getElem (by rw [hlen];exact hi2)) (by simp)
   refine call_meets F.slot_tuple_index ⟨_,e1,rfl⟩ F.entry_tuple_index (F.args_tuple_index_2 _ _) (zli p its.toArray n dd sl u f j (by simp;omega) ?_ ?_) ⟨e1,f1,?_⟩
   ·rw [fa];exact j1
   ·intro i hi hij
    rw [fa]
    simpa using j2 i hij
   ·exact ⟨.int _,H,I.tok _,⟨_,rfl⟩,k _ (by simp only [RepD])⟩
 ·cases e
theorem zqb (hu:X.A.units+64<cLine) (ho:IE X o f) (he:IE X e g) (hname:name=lmS .indexT)
  (hbase:attributeBase o name X.env (eval o X.env)=eval o X.env)
  (hfew:((backTo cpos (starEach [e] X.env)).all (λx=>!x.1)&&(backToKw cpos (keywordEach [] X.env)).all (λx=>x.1.isSome)
   && decide ([e].length+([]:List Keyword).length+(if ([]:List Keyword).isEmpty then 0 else 1)<30))=true)
  (hline:(apos.endLine==cpos.line)=true) (hs:starEach [e] X.env=[(false,eval e X.env)]) (hplain:(backTo cpos (starEach [] X.env)).any (·.1)=false) :
  IE X (.Call (.Attribute o name apos) [e] [] cpos) (λσ=>bnd (f σ) λx=>bnd (rd x) λ_=>bnd (g σ) λy=>bnd (rd x) λx=>bnd (rd y) λy=>bnd (opt (lmD .indexT x y)) λz=>ok (.d z)):=
 znt (by subst hname;exact PySem.F.slot_tuple_index) PySem.F.type_tuple_index (zpI hu) (.inr rfl) ho he hbase hfew hline hs hplain
end
end IT
namespace PySem
open Sem (wp)
open Builtin
section
variable {prog:Program} {w:World} {A:Around} {E:Value->Shared->Prop} {s:Shared}
end
section
variable {prog:Program} {w:World} {K:Type} [DecidableEq K] {knd:KeyKind prog w K} {A:Around} {E:Value->Shared->Prop} {R:Result->Shared->Prop}
end
end PySem
namespace IT
open PySem PySem.Spec L2
section
variable {X:Cx}
theorem zrI {pins:List (Addr×Obj)} {σ:St} {H:Hp} {s:Shared} (I:Inv X pins σ H s):sysModules<s.heap.objs.size:=by
 refine Nat.lt_trans (by decide) ((I.mod.glob.keeps I.bk).lt)
end
end IT
namespace IT
open PySem PySem.Spec L2
section
variable {X:Cx}
structure zrm (X:Cx) (n:Nat) (c m:Str) (np:Nat) (mm:List R->M R):Prop where
 ex:∃ C f fd ps,PySem.W.nsIn X.K mainGlobals c=some (some (.ref C))/\Cls X.K C/\Meth X.K C m f/\FnOk X.prog X.w X.K X.mg X.base CX0 n f fd ps (spF X.K np mm)/\zgS X.K fd ps []
 len:∀ rs h p,mm rs h=some p->rs.length=np
structure zqn (X:Cx) (n:Nat) (c:Str) (np:Nat) (mm:List R->M R):Prop where
 ex:∃ C f fd ps,X.mg c=some (.ref C)/\PySem.W.nsIn X.K mainGlobals c=some (some (.ref C))/\Cls X.K C/\Mk X.K C f/\FnOk X.prog X.w X.K X.mg X.base CX0 n f fd ps (spF X.K np mm)/\zgS X.K fd ps []
 len:∀ rs h p,mm rs h=some p->rs.length=np
end
end IT
namespace IT
open PySem
noncomputable def rise:List Nat->Bool
 | []=>true
 | a::r=>(match r with
  | []=>true
  | b::_=>decide (a<b))&&rise r
noncomputable def okP (P:List Nat):Bool:=decide (P.length<=4)&&(P.all λj=>decide (j<8))&&rise P
noncomputable def forP (f:List Nat->Bool):Bool:=f []&&((List.range 8).all λa=>f [a]&&((List.range 8).all λb=>f [a,b]&&((List.range 8).all λc=>f [a,b,c]&&(List.range 8).all λd=>f [a,b,c,d])))
theorem zcy {f:List Nat->Bool} (h:forP f=true) {P:List Nat} (o:okP P=true):f P=true:=by
 simp only [okP,Bool.and_eq_true,List.all_eq_true,decide_eq_true_eq] at o;obtain ⟨⟨h4,h8⟩,_⟩:=o;simp only [forP,Bool.and_eq_true,List.all_eq_true,List.mem_range] at h;obtain ⟨h0,h1⟩:=h
 match P,h4,h8 with
 | [],_,_=>exact h0
 | [a],_,h8=>exact (h1 a (h8 a (by simp))).1
 | [a,b],_,h8=>exact ((h1 a (h8 a (by simp))).2 b (h8 b (by simp))).1
 | [a,b,c],_,h8=>exact (((h1 a (h8 a (by simp))).2 b (h8 b (by simp))).2 c (h8 c (by simp))).1
 | [a,b,c,d],_,h8=>exact (((h1 a (h8 a (by simp))).2 b (h8 b (by simp))).2 c (h8 c (by simp))).2 d (h8 d (by simp))
 | _::_::_::_::_::_,h4,_=>simp at h4
noncomputable def zoY (P:List Nat) (j:Nat):SetTable.Slot:=if P.toArray[SetTable.below P.toArray j]?==some j then .live (SetTable.below P.toArray j) else .empty
noncomputable def zg0 (P:List Nat) (j:Nat):SetTable.Slot:=match P.findIdx? (·==j) with
 | some i=>.live i
 | none=>.empty
theorem zsV:forP (λP=>!okP P||(List.range 8).all λj=>decide (zoY P j=zg0 P j))=true:=by decide +kernel
theorem zsD:forP (λP=>!okP P||(List.range 8).all λj=>P.length==4||P.contains j||(okP (P.take (SetTable.below P.toArray j)++j::P.drop (SetTable.below P.toArray j))&&decide (SetTable.below P.toArray j<=P.length)))=true:=by decide +kernel
theorem zrZ:forP (λP=>!okP P||(List.range (P.length+1)).all λi=>SetTable.below P.toArray (if i=0 then 0 else P.getD (i-1) 0+1)==i)=true:=by decide +kernel
noncomputable def itr:Nat->Nat->Nat
 | 0,j=>j
 | m+1,j=>(itr m j*5+1) % 8
theorem zsp:forP (λP=>!okP P||(List.range 8).all λj=>(List.range 8).any λm=>!P.contains (itr m j))=true:=by decide +kernel
theorem zsd:forP (λP=>!okP P||(List.range P.length).all λi=>P.findIdx? (·==P.getD i 0)==some i)=true:=by decide +kernel
section
variable {P:List Nat} (o:okP P=true)
include o
theorem znU {j:Nat} (hj:j<8):zoY P j=zg0 P j:=by
 have h:=zcy zsV o;simp only [o,Bool.not_true,Bool.false_or,List.all_eq_true,List.mem_range,decide_eq_true_eq] at h;exact h j hj
theorem zqK {j:Nat} (hj:j<8) (h4:P.length<4) (hn:j ∉ P):okP (P.take (SetTable.below P.toArray j)++j::P.drop (SetTable.below P.toArray j))=true/\SetTable.below P.toArray j<=P.length:=by
 have h:=zcy zsD o;simp only [o,Bool.not_true,Bool.false_or,List.all_eq_true,List.mem_range] at h;have h:=h j hj
 have e1:(P.length==4)=false:=by simp;omega
 have e2:P.contains j=false:=by simp [hn]
 rw [e1,e2,Bool.false_or,Bool.false_or,Bool.and_eq_true,decide_eq_true_eq] at h;exact h
theorem zoQ {i:Nat} (hi:i<=P.length):SetTable.below P.toArray (if i=0 then 0 else P.getD (i-1) 0+1)=i:=by
 have h:=zcy zrZ o;simp only [o,Bool.not_true,Bool.false_or,List.all_eq_true,List.mem_range,beq_iff_eq] at h;exact h i (by omega)
theorem zqP {j:Nat} (hj:j<8):∃ m,m<8/\itr m j ∉ P:=by
 have h:=zcy zsp o;simp only [o,Bool.not_true,Bool.false_or,List.all_eq_true,List.mem_range,List.any_eq_true] at h;obtain ⟨m,hm,h⟩:=h j hj;exact ⟨m,hm,by simpa using h⟩
theorem zqp {i j:Nat} (hi:P[i]?=some j):P.findIdx? (·==j)=some i:=by
 have h:=zcy zsd o;simp only [o,Bool.not_true,Bool.false_or,List.all_eq_true,List.mem_range,beq_iff_eq] at h;obtain ⟨h1,h2⟩:=List.getElem?_eq_some_iff.mp hi
 have:=h i h1
 rw [List.getD_eq_getElem?_getD,hi] at this;exact this
theorem zgX:P.length<=4:=by
 simp only [okP,Bool.and_eq_true,decide_eq_true_eq] at o;exact o.1.1
end
noncomputable def pth (h:Int):Nat->Nat×Nat
 | 0=>(SetTable.bits h % 8,SetTable.bits h)
 | k+1=>SetTable.leap 7 (pth h k).1 (pth h k).2
theorem zgF (h:Int):∀ k,(pth h k).1<8
 | 0=>Nat.mod_lt _ (by omega)
 | k+1=>Nat.mod_lt _ (by omega)
theorem zoG (h:Int):SetTable.bits h<2 ^ 64:=by
 unfold SetTable.bits;have h1:=Int.emod_lt_of_pos h (b:=2 ^ 64) (by omega);have h2:=Int.emod_nonneg h (b:=2 ^ 64) (by omega);omega
theorem zh2 (h:Int):∀ k,(pth h k).2=SetTable.bits h / 32 ^ k
 | 0=>by simp [pth]
 | k+1=>by
  show (pth h k).2 / 32=_;rw [zh2 h k,Nat.div_div_eq_div_mul,Nat.pow_succ]
theorem zok (h:Int):(pth h 13).2=0:=by
 rw [zh2]
 have:=zoG h
 exact Nat.div_eq_of_lt (by omega)
theorem zln (h:Int):∀ m,pth h (13+m)=(itr m (pth h 13).1,0)
 | 0=>by
  show pth h 13=((pth h 13).1,0);rw [<-zok h]
 | m+1=>by
  show SetTable.leap 7 (pth h (13+m)).1 (pth h (13+m)).2=_;rw [zln h m];simp [SetTable.leap,itr]
theorem zsn {p:Nat->Prop} [DecidablePred p]:∀ n,p n->∃ m,m<=n/\p m/\∀ k,k<m->¬ p k
 | 0,h=>⟨0,Nat.le_refl _,h,λk hk=>absurd hk (Nat.not_lt_zero _)⟩
 | n + 1,h=>by
  by_cases e:∃ k,k<=n/\p k
  ·obtain ⟨k,hk,hp⟩:=e
   have:∀ j,j<=n->p j->∃ m,m<=j/\p m/\∀ k,k<m->¬ p k:=by
    intro j
    induction j using Nat.strongRecOn with
    | ind j ih=>
     intro hj hp
     by_cases e2:∃ i,i<j/\p i
     ·obtain ⟨i,hi,hpi⟩:=e2
      obtain ⟨m,h1,h2⟩:=ih i hi (by omega) hpi;exact ⟨m,by omega,h2⟩
     ·exact ⟨j,Nat.le_refl _,hp,λk hk hpk=>e2 ⟨k,hk,hpk⟩⟩
   obtain ⟨m,h1,h2⟩:=this k hk hp;exact ⟨m,by omega,h2⟩
  ·exact ⟨n+1,Nat.le_refl _,h,λk hk hpk=>e ⟨k,by omega,hpk⟩⟩
theorem gap {P:List Nat} (o:okP P=true) (h:Int):∃ N,N<=20/\(pth h N).1 ∉ P/\∀ k,k<N->(pth h k).1∈P:=by
 obtain ⟨m,hm,hn⟩:=zqP o (zgF h 13)
 obtain ⟨N,h1,h2,h3⟩:=zsn (p:=λk=>(pth h k).1 ∉ P) (13+m) (by rw [zln];exact hn)
 exact ⟨N,by omega,h2,λk hk=>Decidable.not_not.mp (h3 k hk)⟩
structure zd7 (t:SetTable) (P:List Nat):Prop where
 mask:t.mask=7
 dum:t.dummies=#[]
 pl:t.place.toList=P
 ok:okP P=true
noncomputable def stp (h:Int) (k:Nat):SetTable.Probe:={ j:=(pth h k).1,more:=0,i:=(pth h k).1,perturb:=(pth h k).2,dummy:=none }
section
variable {t:SetTable} {P:List Nat} (T:zd7 t P)
include T
theorem zd7.arr:t.place=P.toArray:=by rw [<-T.pl]
theorem zd7.slot {j:Nat} (hj:j<8):t.slot j=zg0 P j:=by
 rw [<-znU T.ok hj];unfold SetTable.slot zoY;rw [T.dum,T.arr];rfl
theorem zd7.start (h:Int):t.probeStart h=stp h 0:=by
 unfold SetTable.probeStart stp;rw [T.mask]
 have e:SetTable.runEnd 7 (SetTable.bits h % (7+1))=SetTable.bits h % (7+1):=by
  unfold SetTable.runEnd;rw [if_neg (by omega)]
 dsimp only;rw [e,Nat.sub_self];rfl
theorem zd7.adv (h:Int) (k:Nat):t.advance (stp h k)=stp h (k+1):=by
 unfold SetTable.advance
 rw [if_neg (by show ¬ (0>0);omega),T.mask]
 show ({ j:=(pth h (k+1)).1,more:=SetTable.runEnd 7 (pth h (k+1)).1-(pth h (k+1)).1,i:=(pth h (k+1)).1,perturb:=(pth h (k+1)).2,dummy:=none }:SetTable.Probe)=_
 have e:SetTable.runEnd 7 (pth h (k+1)).1=(pth h (k+1)).1:=by
  unfold SetTable.runEnd;rw [if_neg (by omega)]
 rw [e,Nat.sub_self];rfl
theorem zd7.go {hashAt:Nat->Int} {h:Int} {N:Nat} (hN:(pth h N).1 ∉ P) (hb:∀ k,k<N->(pth h k).1∈P):∀ (m k fuel:Nat),N-k=m->k<=N->m<fuel →
  ∃ k1,k<=k1/\k1<=N/\(∀ k',k<=k'->k'<k1->∀ i,P.findIdx? (·==(pth h k').1)=some i->hashAt i≠h) ∧
   ((k1=N/\SetTable.probe.go t hashAt h fuel (stp h k)=some (.empty (pth h N).1 none)) ∨
    (k1<N/\∃ i,P.findIdx? (·==(pth h k1).1)=some i/\hashAt i=h/\SetTable.probe.go t hashAt h fuel (stp h k)=some (.candidate (pth h k1).1 i (stp h (k1+1)))))
 | m,k,0,hm,hk,hf=>by omega
 | m, k,fuel+1,hm,hk,hf=>by
  unfold SetTable.probe.go;have es:t.slot (stp h k).j=zg0 P (pth h k).1:=T.slot (zgF h k);rw [es]
  by_cases e:k=N
  ·subst e
   have:P.findIdx? (·==(pth h k).1)=none:=by
    rw [List.findIdx?_eq_none_iff];intro x hx;simp only [beq_eq_false_iff_ne];exact λz=>hN (z▸hx)
   refine ⟨k,Nat.le_refl _,Nat.le_refl _,λk' h1 h2=>by omega,.inl ⟨rfl,?_⟩⟩;simp only [zg0,this];rfl
  ·have hlt:k<N:=by omega
   obtain ⟨j,hj⟩:=List.getElem?_of_mem (hb k hlt);have hi:=zqp T.ok hj;simp only [zg0,hi]
   by_cases eh:hashAt j=h
   ·refine ⟨k,Nat.le_refl _,hk,λk' h1 h2=>by omega,.inr ⟨hlt,j,hi,eh,?_⟩⟩
    rw [if_pos (by rw [eh];exact beq_self_eq_true h),T.adv]
    rfl
   ·obtain ⟨k1,g1,g2,g3,g4⟩:=zd7.go hN hb (N-(k+1)) (k+1) fuel rfl (by omega) (by omega)
    refine ⟨k1,by omega,g2,λk' h1 h2 i hi'=>?_,?_⟩
    ·by_cases ek:k'=k
     ·subst ek
      rw [hi] at hi';cases hi';exact eh
     ·exact g3 k' (by omega) h2 i hi'
    ·rw [if_neg (by simp [eh]),T.adv]
     exact g4
theorem zd7.probe {hashAt:Nat->Int} {h:Int} {N:Nat} (hN:(pth h N).1 ∉ P) (hb:∀ k,k<N->(pth h k).1∈P) (h20:N<=20) (k:Nat) (hk:k<=N) :
  ∃ k1,k<=k1/\k1<=N/\(∀ k',k<=k'->k'<k1->∀ i,P.findIdx? (·==(pth h k').1)=some i->hashAt i≠h) ∧
   ((k1=N/\t.probe hashAt h (stp h k)=some (.empty (pth h N).1 none)) ∨
    (k1<N/\∃ i,P.findIdx? (·==(pth h k1).1)=some i/\hashAt i=h/\t.probe hashAt h (stp h k)=some (.candidate (pth h k1).1 i (stp h (k1+1))))):=by
 unfold SetTable.probe;rw [T.mask]
 exact T.go hN hb (N-k) k _ rfl hk (by show N-k<10*(7+15);omega)
end
end IT
namespace IT
open PySem
noncomputable def byTx (w:World):Bool:=w.params.followText "set-order"
theorem zaZ {k:D} (h:zaq k=true):k.dep<=8:=by
 cases k with
 | tup xs=>
  rw [zaq,Bool.and_eq_true] at h
  have:=of_decide_eq_true h.2
  simp only [D.dep];omega
 | _=>cases h
structure zaW (w:World) (h:Heap) (a:Addr) (rs:List (D×Addr)) (es:Array (Int×Value)) (ep:Nat) (t:SetTable) (P:List Nat):Prop where
 get:h.get? a=some { cls:=.type "set",dict:=none,data:=.set es ep t,slots:=#[] }
 tab:zd7 t P
 len:P.length=rs.length
 led:t.led=!byTx w
 ents:es.toList=rs.map λr=>(zaf w r.1,Value.ref r.2)
 key:∀ r∈rs,zaq r.1=true/\KAt h r.1 (.ref r.2)
 nd:(rs.map (·.1)).Nodup
 way:∀ z∈P.zip rs,∃ k,(pth (zaf w z.2.1) k).1=z.1/\∀ k',k'<k->(pth (zaf w z.2.1) k').1∈P
section
variable {w:World} {h:Heap} {a:Addr} {rs:List (D×Addr)} {es:Array (Int×Value)} {ep:Nat} {t:SetTable} {P:List Nat}
theorem zaW.size (S:zaW w h a rs es ep t P):es.size=rs.length:=by rw [<-Array.length_toList,S.ents,List.length_map]
theorem zaW.psize (S:zaW w h a rs es ep t P):t.place.size=rs.length:=by rw [<-Array.length_toList,S.tab.pl,S.len]
theorem zaW.le4 (S:zaW w h a rs es ep t P):rs.length<=4:=by rw [<-S.len];exact zgX S.tab.ok
theorem zaW.fits (S:zaW w h a rs es ep t P):t.fits es.size=true:=by
 have:=S.le4
 simp only [SetTable.fits,SetTable.fill,S.psize,S.size,S.tab.dum,S.tab.mask,beq_self_eq_true,Bool.true_and,decide_eq_true_eq];show rs.length+0<=7;omega
theorem zaW.at (S:zaW w h a rs es ep t P) {i:Nat} {r:D×Addr} (e:rs[i]?=some r):es[i]?=some (zaf w r.1,Value.ref r.2):=by
 rw [<-Array.getElem?_toList,S.ents,List.getElem?_map,e];rfl
theorem zaW.mono {h':Heap} (S:zaW w h a rs es ep t P) (k:∀ o,h.get? a=some o->h'.get? a=some o) (kt:∀ b its,h.IsTuple b its->h'.IsTuple b its):zaW w h' a rs es ep t P:=
 ⟨k _ S.get,S.tab,S.len,S.led,S.ents,λr hr=>⟨(S.key r hr).1,KAt.keep kt _ _ (S.key r hr).2⟩,S.nd,S.way⟩
end
section
variable {prog:Program} {w:World} {A:Around} {E:Value->Shared->Prop} {s:Shared}
theorem zle:∀ (n:Nat) (x:D) (A:Around) (s:Shared) (u:Value) (Q:Bool->Shared->Prop),x.dep<=n->KAt s.heap x u->Q false s->wpAny (model prog w) A (ofAClassStatement n u) Q E s
 | n,.int a,A,s,u,Q,hn,p,q=>by
  simp only [KAt] at p;obtain ⟨t,rfl⟩:=p
  cases n<;>exact wpAny_pure q
 | n,.str a,A,s,u,Q,hn,p,q=>by
  simp only [KAt] at p;obtain ⟨t,rfl⟩:=p
  cases n<;>exact wpAny_pure q
 | 0,.tup a,A,s,u,Q,hn,p,q=>by simp only [D.dep] at hn;omega
 | n + 1,.tup a,A,s,u,Q,hn,p,q=>by
  simp only [KAt] at p;obtain ⟨c,its,rfl,t,r⟩:=p;have T:=zaG t;obtain ⟨o,ho,_,m,hd⟩:=t
  have hdep:D.deps a<=n:=by simp only [D.dep] at hn;omega
  unfold ofAClassStatement;refine wpAny_bind (wpAny_typeOf T ?_);show wpAny _ _ (if ("tuple"=="tuple")=true then _ else _) _ _ _;rw [if_pos (by decide)];refine wpAny_bind (wpAny_pure ?_);show wpAny _ _ (seqItems? (.ref c) >>= _) _ _ _;unfold seqItems?;refine wpAny_bind (wpAny_bind (wpAny_load ho ?_));rw [hd];refine wpAny_pure (wpAny_bind ?_);rw [<-Array.forIn_toList];refine wpAny_forIn_list _ (λrest r s1=>r.1=none/\s1=s/\∃ left,D.deps left<=n/\KAts s.heap left rest) _ ?_ ?_ _ _ ⟨rfl,rfl,a,hdep,r⟩
  ·rintro v rest r s1 ⟨hr,rfl,left,hl,hk⟩
   cases left with
   | nil=>simp only [KAts] at hk;cases hk
   | cons k ks=>
    simp only [KAts] at hk;obtain ⟨v',rest',ez,k1,k2⟩:=hk;cases ez;simp only [D.deps] at hl;refine wpAny_bind (zle n k A _ v _ (by omega) k1 ?_);simp only [Bool.false_eq_true,if_false];exact wpAny_pure ⟨rfl,rfl,ks,by omega,k2⟩
  ·rintro ⟨r1,r2⟩ s1 ⟨hr,rfl,_⟩
   simp only at hr;subst hr;exact wpAny_pure q
 | _,.non,_,_,_,_,_,p,_=>by simp only [KAt] at p
 | _,.bl _,_,_,_,_,_,p,_=>by simp only [KAt] at p
 | _,.lst _,_,_,_,_,_,p,_=>by simp only [KAt] at p
theorem zjf:∀ (n:Nat) (x:D) (s:Shared) (u:Value) (Q:Bool->Shared->Prop),KAt s.heap x u->(∀ b,Q b s)->wpAny (model prog w) A (hashByValue n u) Q E s
 | n,.int a,s,u,Q,p,q=>by
  simp only [KAt] at p;obtain ⟨t,rfl⟩:=p
  cases n<;>exact wpAny_pure (q _)
 | n,.str a,s,u,Q,p,q=>by
  simp only [KAt] at p;obtain ⟨t,rfl⟩:=p
  cases n<;>exact wpAny_pure (q _)
 | 0,.tup a,s,u,Q,p,q=>by
  simp only [KAt] at p;obtain ⟨c,its,rfl,t,r⟩:=p;exact wpAny_pure (q _)
 | n + 1,.tup a,s,u,Q,p,q=>by
  simp only [KAt] at p;obtain ⟨c,its,rfl,t,r⟩:=p;have T:=zaG t;obtain ⟨o,ho,_,m,hd⟩:=t;unfold hashByValue;refine wpAny_bind (wpAny_specialOf T F.slot_tuple_hash.lookup ?_);show wpAny _ _ (seqItems? (.ref c) >>= _) _ _ _;unfold seqItems?;refine wpAny_bind (wpAny_bind (wpAny_load ho ?_));rw [hd];refine wpAny_pure (wpAny_bind ?_);show wpAny _ _ (forIn its _ _) _ _ _;rw [<-Array.forIn_toList];refine wpAny_forIn_list _ (λrest r s1=>r.1=none/\s1=s/\∃ left,KAts s.heap left rest) _ ?_ ?_ _ _ ⟨rfl,rfl,a,r⟩
  ·rintro v rest r s1 ⟨hr,rfl,left,hk⟩
   cases left with
   | nil=>simp only [KAts] at hk;cases hk
   | cons k ks=>
    simp only [KAts] at hk;obtain ⟨v',rest',ez,k1,k2⟩:=hk;cases ez;refine wpAny_bind (zjf n k _ v _ k1 λb=>?_)
    cases b with
    | false=>
     simp only [Bool.not_false,if_true];exact wpAny_pure (wpAny_pure (q _))
    | true=>
     simp only [Bool.not_true,Bool.false_eq_true,if_false];exact wpAny_pure ⟨rfl,rfl,ks,k2⟩
  ·rintro ⟨r1,r2⟩ s1 ⟨hr,rfl,_⟩
   simp only at hr;subst hr;exact wpAny_pure (q _)
 | _,.non,_,_,_,p,_=>by simp only [KAt] at p
 | _,.bl _,_,_,_,p,_=>by simp only [KAt] at p
 | _,.lst _,_,_,_,p,_=>by simp only [KAt] at p
theorem zn7 {d:D} {b:Addr} {st:List Value} {Q:Bool->Shared->Prop} (hd:zaq d=true) (hk:KAt s.heap d (.ref b)) (hst:∀ v∈st,∃ d' b',v=.ref b'/\zaq d'=true/\KAt s.heap d' (.ref b')) (q:Q false s):wpAny (model prog w) A (searchCouldBeSeen (.ref b) st) Q E s:=by
 unfold searchCouldBeSeen;refine wpAny_bind ?_;refine wpAny_forIn_list _ (λrest r s1=>r.1=none/\s1=s/\∀ v∈rest,v∈st) _ ?_ ?_ _ _ ⟨rfl,rfl,λv hv=>hv⟩
 ·rintro v rest r s1 ⟨hr,rfl,hm⟩
  obtain ⟨d',b',rfl,h1,h2⟩:=hst v (hm v List.mem_cons_self);refine wpAny_ite_split (λ_=>wpAny_pure ⟨rfl,rfl,λv hv=>hm v (List.mem_cons_of_mem _ hv)⟩) (λ_=>?_);refine wpAny_bind (zh6 8 d A _ _ _ (zaZ hd) hk ?_);simp only [Bool.not_true,Bool.false_eq_true,if_false];refine wpAny_bind (zh6 8 d' A _ _ _ (zaZ h1) h2 ?_);simp only [Bool.not_true,Bool.false_eq_true,if_false];refine wpAny_bind (zle 8 d A _ _ _ (zaZ hd) hk ?_);simp only [Bool.false_eq_true,if_false];refine wpAny_bind (zle 8 d' A _ _ _ (zaZ h1) h2 ?_);simp only [Bool.false_eq_true,if_false];exact wpAny_pure ⟨rfl,rfl,λv hv=>hm v (List.mem_cons_of_mem _ hv)⟩
 ·rintro ⟨r1,r2⟩ s1 ⟨hr,rfl,_⟩
  simp only at hr;subst hr;exact wpAny_pure q
variable {a:Addr} {rs:List (D×Addr)} {es:Array (Int×Value)} {ep:Nat} {t:SetTable} {P:List Nat}
theorem zf3 {d:D} {b:Addr} {N:Nat} {Q:SetFound->Shared->Prop} (S:zaW w s.heap a rs es ep t P) (hd:zaq d=true) (hk:KAt s.heap d (.ref b)) (hu:A.units+8<cLine)
  (hN:(pth (zaf w d) N).1 ∉ P) (hb:∀ k,k<N->(pth (zaf w d) k).1∈P) (h20:N<=20)
  (q1:d∈rs.map (·.1)->Q (.there none) s) (q2:d ∉ rs.map (·.1)->Q (.free (pth (zaf w d) N).1 false) s):∀ (m k fuel:Nat) (stand:Option SetTable.Probe),N-k=m->k<=N->m<fuel->stand.getD (t.probeStart (zaf w d))=stp (zaf w d) k →
  (∀ k',k'<k->∀ i r,P.findIdx? (·==(pth (zaf w d) k').1)=some i->rs[i]?=some r->r.1≠d)->wpAny (model prog w) A (setSearchFrom a (.ref b) (zaf w d) true fuel stand) Q E s:=by
 intro m
 induction m using Nat.strongRecOn with
 | ind m ih=>
  intro k fuel stand hm hkN hf hst hpast
  match fuel,hf with
  | fuel + 1,hf=>
   unfold setSearchFrom;refine wpAny_bind (wpAny_setState_of S.get rfl S.fits ?_);dsimp only
   have hg:t.gaveWay=false:=by unfold SetTable.gaveWay;rw [S.tab.mask];decide
   rw [hg,hst];simp only [Bool.false_eq_true,if_false];obtain ⟨k1,g1,g2,g3,g4⟩:=S.tab.probe (hashAt:=λi=>(es[i]?.map (·.1)).getD 0) hN hb h20 k hkN
   have hpast1:∀ k',k'<k1->∀ i r,P.findIdx? (·==(pth (zaf w d) k').1)=some i->rs[i]?=some r->r.1≠d:=by
    intro k' hk' i r hi hr e
    by_cases hlt:k'<k
    ·exact hpast k' hlt i r hi hr e
    ·refine g3 k' (by omega) hk' i hi ?_
     simp only [S.at hr,Option.map_some,Option.getD_some,e]
   generalize hp:SetTable.probe t _ (zaf w d) (stp (zaf w d) k)=mt
   rcases g4 with ⟨e1,e2⟩ | ⟨e1,i,e2,e3,e4⟩
   ·have emt:=hp.symm.trans e2
    subst emt;refine wpAny_pure (q2 λhm=>?_);obtain ⟨r,hr,er⟩:=List.mem_map.mp hm;obtain ⟨i,hi⟩:=List.getElem?_of_mem hr;have hil:i<rs.length:=(List.getElem?_eq_some_iff.mp hi).1
    have hiP:i<P.length:=by rw [S.len];exact hil
    obtain ⟨k0,w1,w2⟩:=S.way (P[i],r) (List.mem_of_getElem? (i:=i) (by rw [List.getElem?_zip_eq_some];exact ⟨List.getElem?_eq_getElem hiP,hi⟩))
    simp only at w1 w2;rw [er] at w1 w2
    have hk0:k0<N:=by
     rcases Nat.lt_or_ge k0 N with h | h
     ·exact h
     ·rcases Nat.lt_or_eq_of_le h with h | h
      ·exact absurd (w2 N h) hN
      ·subst h
       rw [w1] at hN;exact absurd (List.getElem_mem hiP) hN
    refine hpast1 k0 (by omega) i r (zqp S.tab.ok ?_) hi er;rw [w1];exact List.getElem?_eq_getElem hiP
   ·have emt:=hp.symm.trans e4
    subst emt;dsimp only
    have hiP:i<P.length:=by
     rw [List.findIdx?_eq_some_iff_findIdx_eq] at e2;exact e2.1
    have hir:i<rs.length:=by rw [<-S.len];exact hiP
    have hi:=List.getElem?_eq_getElem hir;have ei:=S.at hi;obtain ⟨hk1,hk2⟩:=S.key rs[i] (List.getElem_mem ..)
    have rest:wpAny (model prog w) A (do
      let some (_,y):=es[i]? | unsupported "internal:set-entry"
      let equal<-holding [y] (eqBool y (.ref b))
      let (es',_,t')<-setState a
      if true&&equal then return .there none
      let some same:=t'.sameMemory t.moves t.mask | unsupported "set.changed-during-lookup:is-the-new-block-at-the-old-address"
      let still<-match (if same then t'.slot (pth (zaf w d) k1).1 else .empty) with
       | .live i'=>match es'[i']? with
        | some (_,y')=>do pure (if<-isSame y' y then some i' else none)
        | none=>pure none
       | _=>pure none
      match still with
      | none=>rule "set.search.anew";setSearchFrom a (.ref b) (zaf w d) true fuel none
      | some i'=>if equal then return .there (some i') else setSearchFrom a (.ref b) (zaf w d) true fuel (some (stp (zaf w d) (k1+1)))) Q E s:=by
     rw [ei];dsimp only;refine wpAny_bind (wpAny_holding (kEq 8 rs[i].1 d A _ _ (zaZ hk1) hk2 hk hu prog w _ _ ?_));refine wpAny_bind (wpAny_setState_of S.get rfl S.fits ?_);dsimp only
     cases hs:rs[i].1.same d with
     | true=>
      simp only [Bool.and_self,if_true];exact wpAny_pure (q1 (List.mem_map.mpr ⟨rs[i],List.getElem_mem ..,D.same_eq _ _ hs⟩))
     | false=>
      simp only [Bool.and_false,Bool.false_eq_true,if_false]
      have hsm:t.sameMemory t.moves t.mask=some true:=by unfold SetTable.sameMemory;rw [if_pos (beq_self_eq_true _)]
      rw [hsm];dsimp only;rw [if_pos rfl,S.tab.slot (zgF _ _)];simp only [zg0,e2];rw [ei];dsimp only;refine wpAny_bind (wpAny_isSame_ref_self (wpAny_bind (wpAny_pure ?_)));refine ih (N-(k1+1)) (by omega) (k1+1) fuel _ rfl (by omega) (by omega) rfl λk' hk' i' r hi' hr=>?_
      by_cases ek:k'=k1
      ·subst ek
       rw [e2] at hi';cases hi';rw [hi] at hr;cases hr
       exact λz=>by rw [z,D.same_refl] at hs;cases hs
      ·exact hpast1 k' (by omega) i' r hi' hr
    cases hl:t.led with
    | true=>
     simp only [Bool.not_true,Bool.false_eq_true,if_false];exact rest
    | false=>
     simp only [Bool.not_false,if_true];refine wpAny_bind (zn7 hd hk (λv hv=>?_) ?_)
     ·obtain ⟨e,he,rfl⟩:=List.mem_map.mp hv
      rw [Array.toList_filter,List.mem_filter,S.ents] at he;obtain ⟨r,hr,rfl⟩:=List.mem_map.mp he.1;exact ⟨r.1,r.2,rfl,S.key r hr⟩
     ·simp only [Bool.false_eq_true,if_false]
      exact rest
theorem ziu (j:Nat):SetTable.has #[] j=false:=rfl
theorem zqJ {d:D} {b:Addr} {Q:Bool->Shared->Prop} (S:zaW w s.heap a rs es ep t P) (hd:zaq d=true) (hk:KAt s.heap d (.ref b)) (hu:A.units+8<cLine) (h4:d ∉ rs.map (·.1)->rs.length<4)
  (q:∀ c h' rs' es' ep' t' P',zaW w h' a rs' es' ep' t' P'->Heap.SameBut a s.heap h'->(∀ y,y∈rs'.map (·.1)↔y=d\/y∈rs.map (·.1))->(∀ r∈rs',r∈rs\/r=(d,b))->Q c { s with heap:=h' }) :
  wpAny (model prog w) A (setAddHashed a (.ref b) (zaf w d)) Q E s:=by
 unfold setAddHashed;refine wpAny_holding ?_;rw [show (100000:Nat)=99999+1 from rfl];unfold setAddHashedIn;refine wpAny_bind (wpAny_setState_of S.get rfl S.fits ?_);dsimp only;rw [if_neg (by simp [byScan,Value.scannable])];obtain ⟨N,h20,hN,hb⟩:=gap S.tab.ok (zaf w d);unfold setSearch;refine wpAny_bind (zf3 S hd hk hu hN hb h20 (λhm=>?_) (λhm=>?_) N 0 100000 none (by omega) (Nat.zero_le _) (by omega) (S.tab.start _) (λk' hk'=>by omega))
 ·dsimp only
  exact wpAny_pure (q _ s.heap rs es ep t P S (Heap.SameBut.refl _ _) (λy=>⟨.inr,λh=>h.elim (λe=>e▸hm) id⟩) λr hr=>.inl hr)
 ·dsimp only
  refine wpAny_bind (wpAny_setState_of S.get rfl S.fits ?_);dsimp only;have hj:=zgF (zaf w d) N;have h4':=h4 hm
  obtain ⟨ok',hp⟩:=zqK S.tab.ok hj (by rw [S.len];exact h4') hN
  have ebl:SetTable.below t.place (pth (zaf w d) N).1=SetTable.below P.toArray (pth (zaf w d) N).1:=by rw [S.tab.arr]
  have fin:∀ t':SetTable,t'.mask=7->t'.dummies=#[]->t'.place=SetTable.insertAt t.place (SetTable.below t.place (pth (zaf w d) N).1) (pth (zaf w d) N).1->t'.led=t.led->wpAny (model prog w) A (do
    storeSet a (SetTable.insertAt es (SetTable.below t.place (pth (zaf w d) N).1) (zaf w d,.ref b)) t'
    if !false&&t'.tooFull then setRelay a (SetTable.grown (es.size+1))
    return true) Q E s:=by
   intro t' e1 e2 e3 e4
   have hsz:(SetTable.insertAt es (SetTable.below t.place (pth (zaf w d) N).1) (zaf w d,Value.ref b)).toList=(rs.take (SetTable.below P.toArray (pth (zaf w d) N).1)++(d,b)::rs.drop (SetTable.below P.toArray (pth (zaf w d) N).1)).map λr=>(zaf w r.1,Value.ref r.2):=by
    rw [SetTable.toList_insertAt,S.ents,ebl];simp [List.map_take,List.map_drop]
   have hpl:t'.place.toList=P.take (SetTable.below P.toArray (pth (zaf w d) N).1)++(pth (zaf w d) N).1::P.drop (SetTable.below P.toArray (pth (zaf w d) N).1):=by
    rw [e3,SetTable.toList_insertAt,S.tab.pl,ebl]
   have hlen:(P.take (SetTable.below P.toArray (pth (zaf w d) N).1)++(pth (zaf w d) N).1::P.drop (SetTable.below P.toArray (pth (zaf w d) N).1)).length=P.length+1:=by
    simp only [List.length_append,List.length_take,List.length_cons,List.length_drop];omega
   have htf:t'.tooFull=false:=by
    unfold SetTable.tooFull SetTable.fill;rw [e1,e2]
    have:t'.place.size=P.length+1:=by rw [<-Array.length_toList,hpl,hlen]
    rw [this]
    have:=S.len
    simp;omega
   generalize SetTable.below P.toArray (pth (zaf w d) N).1=p at *;rw [ebl] at hsz ⊢
   have hz:(SetTable.insertAt es p (zaf w d,Value.ref b)).size<=sizeLine:=by
    rw [<-Array.length_toList,hsz,List.length_map];simp only [List.length_append,List.length_take,List.length_cons,List.length_drop]
    rw [sizeLine_eq];omega
   refine wpAny_bind (wpAny_storeSet_of S.get rfl ?_ hz);rw [htf];simp only [Bool.and_false,Bool.false_eq_true,if_false];have sb:=Heap.SameBut.update s.heap a (Obj.putSet (SetTable.insertAt es p (zaf w d,Value.ref b)) t')
   refine wpAny_pure (q true _ (rs.take p++(d,b)::rs.drop p) (SetTable.insertAt es p (zaf w d,Value.ref b)) (ep+1) t' (P.take p++(pth (zaf w d) N).1::P.drop p) ⟨?_,⟨e1,e2,hpl,ok'⟩,?_,by rw [e4];exact S.led,hsz,λr hr=>?_,?_,λz hz=>?_⟩ sb (λy=>?_) λr hr=>?_)
   ·exact Heap.get?_update_self _ S.get rfl
   ·rw [hlen]
    simp only [List.length_append,List.length_take,List.length_cons,List.length_drop]
    have:=S.len
    omega
   ·have kt:∀ c its,s.heap.IsTuple c its->(s.heap.update a (Obj.putSet (SetTable.insertAt es p (zaf w d,Value.ref b)) t')).IsTuple c its:=λc its ⟨o,e,cc,r⟩=>by
     have ne:c≠a:=λz=>by
      subst z;rw [S.get] at e;cases e;injection cc with z;exact absurd z (by decide)
     exact ⟨o,(sb.2 c ne).trans e,cc,r⟩
    have hr':r∈rs\/r=(d,b):=by
     rcases List.mem_append.mp hr with h | h
     ·exact .inl (List.mem_of_mem_take h)
     ·rcases List.mem_cons.mp h with h | h
      ·exact .inr h
      ·exact .inl (List.mem_of_mem_drop h)
    rcases hr' with h | rfl
    ·exact ⟨(S.key r h).1,KAt.keep kt _ _ (S.key r h).2⟩
    ·exact ⟨hd,KAt.keep kt _ _ hk⟩
   ·have e0:(rs.take p++(d,b)::rs.drop p).Perm ((d,b)::rs):=by
     refine List.perm_middle.trans ?_;rw [List.take_append_drop]
    rw [(e0.map (·.1)).nodup_iff,List.map_cons,List.nodup_cons];exact ⟨hm,S.nd⟩
   ·have ez:(P.take p++(pth (zaf w d) N).1::P.drop p).zip (rs.take p++(d,b)::rs.drop p)=(P.take p).zip (rs.take p)++((pth (zaf w d) N).1,(d,b))::(P.drop p).zip (rs.drop p):=by
     rw [List.zip_append (by rw [List.length_take,List.length_take,S.len]),List.zip_cons_cons]
    rw [ez] at hz
    have sub:∀ j,j∈P->j∈P.take p++(pth (zaf w d) N).1::P.drop p:=λj hj=>by
     rw [<-List.take_append_drop p P] at hj
     rcases List.mem_append.mp hj with h | h
     ·exact List.mem_append_left _ h
     ·exact List.mem_append_right _ (List.mem_cons_of_mem _ h)
    have old:z∈P.zip rs->∃ k,(pth (zaf w z.2.1) k).1=z.1/\∀ k',k'<k->(pth (zaf w z.2.1) k').1∈P.take p++(pth (zaf w d) N).1::P.drop p:=λh=>by
     obtain ⟨k,g1,g2⟩:=S.way z h;exact ⟨k,g1,λk' hk'=>sub _ (g2 k' hk')⟩
    rcases List.mem_append.mp hz with h | h
    ·rw [List.zip,<-List.take_zipWith] at h
     exact old (List.mem_of_mem_take h)
    ·rcases List.mem_cons.mp h with h | h
     ·subst h
      exact ⟨N,rfl,λk' hk'=>sub _ (hb k' hk')⟩
     ·rw [List.zip,<-List.drop_zipWith] at h
      exact old (List.mem_of_mem_drop h)
   ·simp only [List.map_append,List.map_cons,List.mem_append,List.mem_cons]
    rw [<-List.take_append_drop p rs];simp only [List.map_append,List.mem_append]
    have et:(rs.take p++rs.drop p).take p=rs.take p:=by rw [List.take_append_drop]
    have ed:(rs.take p++rs.drop p).drop p=rs.drop p:=by rw [List.take_append_drop]
    rw [et,ed];constructor
    ·rintro (h | h | h)
     ·exact .inr (.inl h)
     ·exact .inl h
     ·exact .inr (.inr h)
    ·rintro (h | h | h)
     ·exact .inr (.inl h)
     ·exact .inl h
     ·exact .inr (.inr h)
   ·rcases List.mem_append.mp hr with h | h
    ·exact .inl (List.mem_of_mem_take h)
    ·rcases List.mem_cons.mp h with h | h
     ·exact .inr h
     ·exact .inl (List.mem_of_mem_drop h)
  unfold SetTable.put;dsimp only;rw [S.tab.dum,ziu];simp only [Bool.false_eq_true,if_false]
  cases hpl:t.plain with
  | true=>
   simp only [if_true];refine wpAny_bind (zjf 8 d _ _ _ hk λbv=>?_)
   cases bv with
   | true=>
    simp only [if_true];exact fin _ S.tab.mask rfl rfl rfl
   | false=>
    simp only [Bool.false_eq_true,if_false];exact fin _ S.tab.mask rfl rfl rfl
  | false=>
   simp only [Bool.false_eq_true,if_false];refine wpAny_bind (wpAny_pure ?_);simp only [if_true];exact fin _ S.tab.mask rfl rfl rfl
end
end IT
namespace IT
open PySem
noncomputable def lp:Nat->Nat×Nat->Nat×Nat
 | 0,z=>z
 | n+1,z=>lp n (SetTable.leap 31 z.1 z.2)
theorem zeT:∀ n z,lp (n+1) z=SetTable.leap 31 (lp n z).1 (lp n z).2
 | 0,_=>rfl
 | n+1,z=>zeT n (SetTable.leap 31 z.1 z.2)
theorem znx:∀ n z,(lp n z).2=z.2 / 32 ^ n
 | 0,z=>by simp [lp]
 | n+1,z=>by
  rw [zeT];show (lp n z).2 / 32=_;rw [znx n z,Nat.div_div_eq_div_mul,Nat.pow_succ]
noncomputable def it32:Nat->Nat->Nat
 | 0,j=>j
 | m+1,j=>(it32 m j*5+1) % 32
theorem zqu (z:Nat×Nat) (n:Nat) (e:(lp n z).2=0):∀ m,lp (n+m) z=(it32 m (lp n z).1,0)
 | 0=>Prod.ext rfl e
 | m+1=>by
  rw [<-Nat.add_assoc,zeT,zqu z n e m];simp [SetTable.leap,it32]
theorem zmZ:∀ j:Fin 32,∃ m:Fin 32,it32 m j<=22:=by decide +kernel
theorem zpz {i p:Nat} (hp:p<2 ^ 64):∃ n,n<46/\(lp n (i,p)).1<=22:=by
 have e:(lp 13 (i,p)).2=0:=by
  rw [znx];exact Nat.div_eq_of_lt (Nat.lt_of_lt_of_le hp (by decide))
 have hl:(lp 13 (i,p)).1<32:=by
  rw [zeT];exact Nat.mod_lt _ (by decide)
 obtain ⟨m,hm⟩:=zmZ ⟨_,hl⟩;refine ⟨13+m.1,by omega,?_⟩;rw [zqu _ _ e];exact hm
section
variable {owner:Array (Option Nat)}
theorem zmT (hs:owner.size=32) (hc:owner.toList.countP Option.isSome<=4) {i:Nat} (hi:i<=22):∃ k,((List.range (SetTable.runEnd 31 i+1-i)).find? λk=>(owner.getD (i+k) (some 0)).isNone)=some k:=by
 rw [<-Option.isSome_iff_exists,List.find?_isSome];refine Classical.byContradiction λhn=>?_
 have hr:SetTable.runEnd 31 i+1-i=10:=by unfold SetTable.runEnd;rw [if_pos (by omega)];omega
 rw [hr] at hn
 have ha:∀ x∈(owner.toList.drop i).take 10,Option.isSome x=true:=by
  intro x hx;obtain ⟨k,hk⟩:=List.getElem?_of_mem hx;rw [List.getElem?_take] at hk
  by_cases h10:k<10
  ·rw [if_pos h10,List.getElem?_drop] at hk
   have hn':¬ (owner.getD (i+k) (some 0)).isNone=true:=λz=>hn ⟨k,List.mem_range.mpr h10,z⟩;rw [Array.getElem?_toList] at hk;rw [Array.getD_eq_getD_getElem?,hk] at hn'
   cases x with
   | none=>simp at hn'
   | some _=>rfl
  ·rw [if_neg h10] at hk
   cases hk
 have hl:((owner.toList.drop i).take 10).length=10:=by
  rw [List.length_take,List.length_drop,Array.length_toList,hs];omega
 have h1:((owner.toList.drop i).take 10).countP Option.isSome=10:=by
  rw [List.countP_eq_length.mpr ha,hl]
 have h2:((owner.toList.drop i).take 10).countP Option.isSome<=owner.toList.countP Option.isSome:=
  List.Sublist.countP_le ((List.take_sublist _ _).trans (List.drop_sublist _ _))
 omega
theorem zjx (hs:owner.size=32) (hc:owner.toList.countP Option.isSome<=4):∀ (n fuel i p:Nat),(lp n (i,p)).1<=22->n<fuel->∃ j,SetTable.layClean.free 31 owner fuel i p=some j/\(owner.getD j (some 0)).isNone=true
 | _,0,_,_,_,hf=>by omega
 | n, fuel+1,i,p,hl,hf=>by
  unfold SetTable.layClean.free
  cases e:(List.range (SetTable.runEnd 31 i+1-i)).find? λk=>(owner.getD (i+k) (some 0)).isNone with
  | some k=>exact ⟨i+k,rfl,List.find?_some (p:=λk=>(owner.getD (i+k) (some 0)).isNone) e⟩
  | none=>
   cases n with
   | zero=>
    have hl:i<=22:=hl;obtain ⟨k,hk⟩:=zmT hs hc hl;rw [hk] at e;cases e
   | succ n=>exact zjx hs hc n fuel _ _ hl (by omega)
theorem zjZ (hs:owner.size=32) (hc:owner.toList.countP Option.isSome<=4) (h:Int):∃ j,SetTable.layClean.free 31 owner (SetTable.turns 31) (SetTable.bits h % (31+1)) (SetTable.bits h)=some j/\j<32/\owner.toList[j]?=some none:=by
 have hb:SetTable.bits h<2 ^ 64:=by
  unfold SetTable.bits
  have:=Int.emod_lt_of_pos h (show (0:Int)<2 ^ 64 by decide)
  have:=Int.emod_nonneg h (show (2 ^ 64:Int)≠0 by decide)
  omega
 obtain ⟨n,hn,hl⟩:=zpz (i:=SetTable.bits h % (31+1)) hb
 obtain ⟨j,e,hj⟩:=zjx hs hc n (SetTable.turns 31) _ _ hl (by show n<31+15;omega)
 refine ⟨j,e,?_⟩;rw [Array.getD_eq_getD_getElem?] at hj
 cases e2:owner[j]? with
 | none=>rw [e2] at hj;cases hj
 | some x=>
  rw [e2] at hj
  have hx:x=none:=by simpa using hj
  subst hx
  have:=(Array.getElem?_eq_some_iff.mp e2).1
  exact ⟨by omega,by rw [Array.getElem?_toList];exact e2⟩
end
theorem zcn {k:Nat}:∀ {l:List (Option Nat)} {j:Nat},l[j]?=some none->((l.set j (some k)).filterMap id).Perm (k::l.filterMap id)
 | [],_,h=>by cases h
 | x::r,0,h=>by
  simp only [List.getElem?_cons_zero,Option.some.injEq] at h;subst h;exact List.Perm.refl _
 | x::r,j+1,h=>by
  have:=zcn (k:=k) (l:=r) (j:=j) (by simpa using h)
  cases x with
  | none=>simpa using this
  | some y=>
   simp only [List.set_cons_succ,List.filterMap_cons_some (f:=id) (a:=some y) rfl];exact (this.cons y).trans (List.Perm.swap ..)
theorem zcJ:∀ l:List (Option Nat),l.countP Option.isSome=(l.filterMap id).length
 | []=>rfl
 | none::r=>by simp [zcJ r]
 | some y::r=>by simp [zcJ r]
theorem zpU (hs:List Int) (h5:hs.length<=5):∃ owner,SetTable.layClean 31 hs.toArray=some owner/\owner.size=32/\(owner.toList.filterMap id).Perm (List.range hs.length):=by
 unfold SetTable.layClean;rw [List.foldl_toArray]
 have key:∀ (ys:List Int) (owner:Array (Option Nat)) (k:Nat),k+ys.length<=5->owner.size=32->(owner.toList.filterMap id).Perm (List.range k) →
   ∃ owner',ys.foldl (init:=some (owner,k)) (λacc h=>do
    let (owner,k)<-acc
    let j<-SetTable.layClean.free 31 owner (SetTable.turns 31) (SetTable.bits h % (31+1)) (SetTable.bits h)
    pure (owner.setIfInBounds j (some k),k+1))=some (owner',k+ys.length)/\owner'.size=32/\(owner'.toList.filterMap id).Perm (List.range (k+ys.length)):=by
  intro ys
  induction ys with
  | nil=>exact λowner k _ h1 h2=>⟨owner,rfl,h1,h2⟩
  | cons y ys ih=>
   intro owner k hk h1 h2;simp only [List.length_cons] at hk
   obtain ⟨j,e,hj,hn⟩:=zjZ (owner:=owner) h1 (by rw [zcJ,h2.length_eq,List.length_range];omega) y
   obtain ⟨o',e2,h3,h4⟩:=ih (owner.setIfInBounds j (some k)) (k+1) (by omega) (by rw [Array.size_setIfInBounds];exact h1) (by
    rw [Array.toList_setIfInBounds,List.range_succ]
    exact (zcn hn).trans ((h2.cons k).trans (List.perm_append_singleton k _).symm))
   refine ⟨o',?_,h3,by rw [List.length_cons,show k+(ys.length+1)=k+1+ys.length by omega];exact h4⟩
   rw [List.foldl_cons,List.length_cons,show k+(ys.length+1)=k+1+ys.length by omega,<-e2]
   congr 1
   show (do let j<-SetTable.layClean.free 31 owner (SetTable.turns 31) (SetTable.bits y % (31+1)) (SetTable.bits y);pure (owner.setIfInBounds j (some k),k+1))=_
   rw [e];rfl
 obtain ⟨o',e,h1,h2⟩:=key hs (Array.replicate (31+1) none) 0 (by omega) (by simp) (by simp);rw [e];exact ⟨o',rfl,h1,by simpa using h2⟩
theorem ze4 {α β:Type} {f g:α->Option β}:∀ {l:List α},(∀ x∈l,f x=g x)->l.filterMap f=l.filterMap g
 | [],_=>rfl
 | x::r,h=>by
  rw [List.filterMap_cons,List.filterMap_cons,h x (List.mem_cons_self ..),ze4 λy hy=>h y (List.mem_cons_of_mem _ hy)]
theorem zeU:∀ (l:List (Option Nat)) (b:Nat),(((List.range' b l.length).filterMap λj=>(l.getD (j-b) none).map (Prod.mk j)).map (·.2))=l.filterMap id
 | [],_=>rfl
 | x::r,b=>by
  have e:((List.range' (b+1) r.length).filterMap λj=>((x::r).getD (j-b) none).map (Prod.mk j))=((List.range' (b+1) r.length).filterMap λj=>(r.getD (j-(b+1)) none).map (Prod.mk j)):=by
   refine ze4 λj hj=>?_
   have:=(List.mem_range'_1.mp hj).1
   rw [show j-b=(j-(b+1))+1 by omega];rfl
  rw [List.length_cons,List.range'_succ]
  cases x with
  | none=>
   rw [List.filterMap_cons_none (by simp),List.filterMap_cons_none (by rfl),e];exact zeU r (b+1)
  | some y=>
   rw [List.filterMap_cons_some (b:=(b,y)) (by simp),List.filterMap_cons_some (b:=y) (by rfl),List.map_cons,e,zeU r (b+1)]
theorem zdc {g:Nat->Option Nat}:∀ l:List Nat,((l.filterMap λj=>(g j).map (Prod.mk j)).map (·.1)).Sublist l
 | []=>List.Sublist.refl _
 | x::r=>by
  cases e:g x with
  | none=>rw [List.filterMap_cons_none (by rw [e];rfl)];exact (zdc r).cons x
  | some y=>rw [List.filterMap_cons_some (b:=(x,y)) (by rw [e];rfl)];exact (zdc r).cons₂ x
theorem zoj (hs:List Int) (h5:hs.length<=5) (fg mv:Nat) (ld pn:Bool):∃ (P o:List Nat),SetTable.laid 31 fg mv ld pn hs.toArray=some ({ mask:=31,place:=P.toArray,dummies:=#[],finger:=fg,led:=ld,moves:=mv,plain:=pn },o.toArray)/\P.Pairwise (·<·)/\(∀ j∈P,j<32)/\o.Perm (List.range hs.length)/\P.length=hs.length:=by
 obtain ⟨ow,e,h1,h2⟩:=zpU hs h5
 refine ⟨_,_,by unfold SetTable.laid;rw [e];rfl,?_,λj hj=>?_,?_,?_⟩
 ·exact List.Pairwise.sublist (zdc _) List.pairwise_lt_range
 ·exact List.mem_range.mp ((zdc _).mem hj)
 all_goals
  have e2:(((List.range (31+1)).filterMap λj=>(ow.getD j none).map (Prod.mk j)).map (·.2))=ow.toList.filterMap id:=by
   rw [<-zeU ow.toList 0,Array.length_toList,h1,<-List.range_eq_range']
   congr 1
   refine ze4 λj _=>?_;rw [Array.getD_eq_getD_getElem?,List.getD_eq_getElem?_getD,Array.getElem?_toList];rfl
 ·rw [e2];exact h2
 ·have:=h2.length_eq
  rw [<-e2] at this
  simpa using this
end IT
namespace IT
open PySem PyProof.Rows
theorem zeV {xs:Array Nat} {j:Nat} (hr:∀ a b,(hab:a<b)->(hb:b<xs.size)->xs[a]'(Nat.lt_trans hab hb)<xs[b]):∀ (fuel lo hi:Nat),hi<=xs.size->lo<=hi->hi-lo<=fuel->(∀ a,(h:a<xs.size)->a<lo->xs[a]<j)->(∀ a,(h:a<xs.size)->hi<=a->j<=xs[a]) →
  SetTable.below.go xs j fuel lo hi<=xs.size/\(∀ a,(h:a<xs.size)->a<SetTable.below.go xs j fuel lo hi->xs[a]<j)/\∀ a,(h:a<xs.size)->SetTable.below.go xs j fuel lo hi<=a->j<=xs[a]
 | 0,lo,hi,h1,h2,h3,h4,h5=>by
  have e:lo=hi:=by omega
  subst e;exact ⟨h1,h4,h5⟩
 | fuel+1,lo,hi,h1,h2,h3,h4,h5=>by
  unfold SetTable.below.go
  by_cases hl:lo<hi
  ·rw [if_pos hl]
   have hm:(lo+hi) / 2<xs.size:=by omega
   have eg:xs.getD ((lo+hi) / 2) j=xs[(lo+hi) / 2]:=by rw [Array.getD_eq_getD_getElem?,Array.getElem?_eq_getElem hm];rfl
   dsimp only;rw [eg]
   by_cases hc:xs[(lo+hi) / 2]<j
   ·rw [if_pos hc]
    refine zeV hr fuel _ hi h1 (by omega) (by omega) (λa h ha=>?_) h5
    rcases Nat.lt_or_eq_of_le (Nat.le_of_lt_succ ha) with z | z
    ·exact Nat.lt_trans (hr a _ z hm) hc
    ·subst z;exact hc
   ·rw [if_neg hc]
    refine zeV hr fuel lo _ (by omega) (by omega) (by omega) h4 (λa h ha=>?_)
    rcases Nat.lt_or_eq_of_le ha with z | z
    ·exact Nat.le_trans (Nat.le_of_not_lt hc) (Nat.le_of_lt (hr _ a z h))
    ·subst z;exact Nat.le_of_not_lt hc
  ·rw [if_neg hl]
   have e:lo=hi:=by omega
   subst e;exact ⟨h1,h4,h5⟩
theorem ziX {P:List Nat} (hp:P.Pairwise (·<·)) (i:Nat) (hi:i<=P.length):SetTable.below P.toArray (if i=0 then 0 else P.getD (i-1) 0+1)=i:=by
 have hr:∀ a b,(hab:a<b)->(hb:b<P.toArray.size)->P.toArray[a]'(Nat.lt_trans hab hb)<P.toArray[b]:=λa b h hb=>by
  simp only [List.getElem_toArray]
  exact List.pairwise_iff_getElem.mp hp a b (by simp at hb;omega) (by simpa using hb) h
 obtain ⟨g1,g2,g3⟩:=zeV (xs:=P.toArray) (j:=if i=0 then 0 else P.getD (i-1) 0+1) hr P.toArray.size 0 P.toArray.size (Nat.le_refl _) (Nat.zero_le _) (by omega) (λa _ h=>by omega) (λa h1 h2=>by omega);show SetTable.below.go _ _ _ _ _=i;generalize SetTable.below.go P.toArray (if i=0 then 0 else P.getD (i-1) 0+1) P.toArray.size 0 P.toArray.size=r at g1 g2 g3
 have g1:r<=P.length:=by simpa using g1
 have g2:∀ a,(h:a<P.length)->a<r->P[a]<(if i=0 then 0 else P.getD (i-1) 0+1):=λa h z=>g2 a (by simpa using h) z;have g3:∀ a,(h:a<P.length)->r<=a->(if i=0 then 0 else P.getD (i-1) 0+1)<=P[a]:=λa h z=>g3 a (by simpa using h) z
 by_cases e0:i=0
 ·subst e0
  rcases Nat.eq_zero_or_pos r with z | z
  ·exact z
  ·have:=g2 0 (by omega) z
   simp at this
 ·have ei:P.getD (i-1) 0=P[i-1]'(by omega):=by rw [List.getD_eq_getElem?_getD,List.getElem?_eq_getElem (by omega)];rfl
  rw [if_neg e0,ei] at g2 g3
  rcases Nat.lt_trichotomy r i with z | z | z
  ·have:=g3 (i-1) (by omega) (by omega)
   omega
  ·exact z
  ·have:=g2 i (by omega) z
   have:=List.pairwise_iff_getElem.mp hp (i-1) i (by omega) (by omega) (by omega)
   omega
structure TabW (t:SetTable) (P:List Nat):Prop where
 fit:P.length<=t.mask
 few:P.length<=5
 dum:t.dummies=#[]
 pl:t.place.toList=P
 walk:∀ i,i<=P.length->SetTable.below P.toArray (if i=0 then 0 else P.getD (i-1) 0+1)=i
theorem TabW.arr {t:SetTable} {P:List Nat} (T:TabW t P):t.place=P.toArray:=by rw [<-T.pl]
theorem zd7.toW {t:SetTable} {P:List Nat} (T:zd7 t P):TabW t P:=
 ⟨by have:=zgX T.ok;rw [T.mask];omega,by have:=zgX T.ok;omega,T.dum,T.pl,λi hi=>zoQ T.ok hi⟩
structure SetW (w:World) (h:Heap) (a:Addr) (rs:List (D×Addr)) (es:Array (Int×Value)) (ep:Nat) (t:SetTable) (P:List Nat):Prop where
 get:h.get? a=some { cls:=.type "set",dict:=none,data:=.set es ep t,slots:=#[] }
 tab:TabW t P
 len:P.length=rs.length
 led:t.led=!byTx w
 ents:es.toList=rs.map λr=>(zaf w r.1,Value.ref r.2)
 key:∀ r∈rs,zaq r.1=true/\KAt h r.1 (.ref r.2)
 nd:(rs.map (·.1)).Nodup
theorem zaW.toW {w:World} {h:Heap} {a:Addr} {rs:List (D×Addr)} {es:Array (Int×Value)} {ep:Nat} {t:SetTable} {P:List Nat} (S:zaW w h a rs es ep t P):SetW w h a rs es ep t P:=
 ⟨S.get,S.tab.toW,S.len,S.led,S.ents,S.key,S.nd⟩
section
variable {w:World} {h:Heap} {a:Addr} {rs:List (D×Addr)} {es:Array (Int×Value)} {ep:Nat} {t:SetTable} {P:List Nat}
theorem SetW.size (S:SetW w h a rs es ep t P):es.size=rs.length:=by rw [<-Array.length_toList,S.ents,List.length_map]
theorem SetW.psize (S:SetW w h a rs es ep t P):t.place.size=rs.length:=by rw [<-Array.length_toList,S.tab.pl,S.len]
theorem SetW.le5 (S:SetW w h a rs es ep t P):rs.length<=5:=by rw [<-S.len];exact S.tab.few
theorem SetW.fits (S:SetW w h a rs es ep t P):t.fits es.size=true:=by
 have:=S.tab.fit
 have:=S.len
 simp only [SetTable.fits,SetTable.fill,S.psize,S.size,S.tab.dum,beq_self_eq_true,Bool.true_and,decide_eq_true_eq];show rs.length+0<=t.mask;omega
theorem SetW.mono {h':Heap} (S:SetW w h a rs es ep t P) (k:∀ o,h.get? a=some o->h'.get? a=some o) (kt:∀ b its,h.IsTuple b its->h'.IsTuple b its):SetW w h' a rs es ep t P:=
 ⟨k _ S.get,S.tab,S.len,S.led,S.ents,λr hr=>⟨(S.key r hr).1,KAt.keep kt _ _ (S.key r hr).2⟩,S.nd⟩
end
section
variable {prog:Program} {w:World} {A:Around} {E:Value->Shared->Prop} {s:Shared}
theorem zmo {α:Type} (l:List α) {o:List Nat} (p:o.Perm (List.range l.length)):(o.filterMap λi=>l[i]?).Perm l:=by
 have e:∀ (l:List α),((List.range l.length).filterMap λi=>l[i]?)=l:=by
  intro l
  induction l with
  | nil=>rfl
  | cons x r ih=>
   rw [List.length_cons,List.range_succ_eq_map,List.filterMap_cons_some (f:=λi=>(x::r)[i]?) (a:=0) (b:=x) rfl,List.filterMap_map];exact congrArg _ ih
 exact (p.filterMap _).trans (by rw [e l])
variable {a:Addr} {rs:List (D×Addr)} {es:Array (Int×Value)} {ep:Nat} {t:SetTable} {P:List Nat}
theorem zm6 {rs:List (D×Addr)} {es:Array (Int×Value)} {ep:Nat} {t:SetTable} {Q:Unit->Shared->Prop} (hg:s.heap.get? a=some { cls:=.type "set",dict:=none,data:=.set es ep t,slots:=#[] }) (hf:t.fits es.size=true) (h5:rs.length=5) (hl:t.led=!byTx w) (he:es.toList=rs.map λr=>(zaf w r.1,Value.ref r.2)) (hkey:∀ r∈rs,zaq r.1=true/\KAt s.heap r.1 (.ref r.2)) (hnd:(rs.map (·.1)).Nodup)
  (q:∀ h' rs' es' t' P',SetW w h' a rs' es' (ep+1) t' P'->Heap.SameBut a s.heap h'->rs'.Perm rs->Q () { s with heap:=h' }):wpAny (model prog w) A (setRelay a 20) Q E s:=by
 unfold setRelay;refine wpAny_bind (wpAny_setState_of hg rfl hf ?_);dsimp only
 have hz:es.size=5:=by rw [<-Array.length_toList,he,List.length_map,h5]
 have hsl:¬ SetTable.sizeAbove 20>sizeLine:=by rw [sizeLine_eq];decide
 rw [if_neg hsl]
 obtain ⟨P',o,e,p1,p2,p3,p4⟩:=zoj (es.toList.map (·.1)) (by rw [List.length_map,Array.length_toList,hz];omega) t.finger (t.movedTo 31) t.led t.plain
 have e':t.relaid (es.map (·.1)) 20=some ({ mask:=31,place:=P'.toArray,dummies:=#[],finger:=t.finger,led:=t.led,moves:=t.movedTo 31,plain:=t.plain },o.toArray):=by
  rw [<-e,show (es.toList.map (·.1)).toArray=es.map (·.1) by rw [<-Array.toList_map]];rfl
 rw [e']
 have hzl:(es.toList.map (·.1)).length=5:=by rw [List.length_map,Array.length_toList,hz]
 rw [hzl] at p3 p4
 have p5:(o.filterMap λi=>rs[i]?).Perm rs:=zmo rs (by rw [h5];exact p3)
 have ez:(o.toArray.filterMap (es[·]?)).toList=(o.filterMap λi=>rs[i]?).map λr=>(zaf w r.1,Value.ref r.2):=by
  rw [Array.toList_filterMap,List.map_filterMap]
  congr 1
  funext i
  rw [<-Array.getElem?_toList,he,List.getElem?_map]
 have esz:(o.toArray.filterMap (es[·]?)).size=5:=by rw [<-Array.length_toList,ez,List.length_map,p5.length_eq,h5]
 refine wpAny_bind ?_;show wpAny _ _ (if (o.toArray.filterMap (es[·]?)).size != es.size then _ else _) _ _ _
 rw [if_neg (by rw [esz,hz];decide)]
 refine wpAny_pure (wpAny_storeSet_of hg rfl ?_ (by rw [esz,sizeLine_eq];decide))
 have sb:=Heap.SameBut.update s.heap a (Obj.putSet (o.toArray.filterMap (es[·]?)) { mask:=31,place:=P'.toArray,dummies:=#[],finger:=t.finger,led:=t.led,moves:=t.movedTo 31,plain:=t.plain })
 refine q _ (o.filterMap λi=>rs[i]?) _ _ P' ⟨Heap.get?_update_self _ hg rfl,⟨by rw [p4];show 5<=31;decide,by omega,rfl,rfl,ziX p1⟩,by rw [p4,p5.length_eq,h5],hl,ez,λr hr=>?_,((p5.map (·.1)).nodup_iff).mpr hnd⟩ sb p5
 have hr:=p5.mem_iff.mp hr
 exact ⟨(hkey r hr).1,KAt.keep (λc its ⟨o,e,cc,r⟩=>by
  have ne:c≠a:=λz=>by
   subst z;rw [hg] at e;cases e;injection cc with z;exact absurd z (by decide)
  exact ⟨o,(sb.2 c ne).trans e,cc,r⟩) _ _ (hkey r hr).2⟩
theorem zrR:forP (λP=>!okP P||(List.range 8).all λj=>decide (SetTable.below P.toArray j<=P.length))=true:=by decide +kernel
theorem zlX {P:List Nat} (o:okP P=true) {j:Nat} (hj:j<8):SetTable.below P.toArray j<=P.length:=by
 have h:=zcy zrR o;simp only [o,Bool.not_true,Bool.false_or,List.all_eq_true,List.mem_range,decide_eq_true_eq] at h;exact h j hj
theorem zn8 {d:D} {b:Addr} {Q:Bool->Shared->Prop} (S:zaW w s.heap a rs es ep t P) (hd:zaq d=true) (hk:KAt s.heap d (.ref b)) (hu:A.units+8<cLine) (hm:d ∉ rs.map (·.1)) (h4:rs.length=4)
  (q:∀ c h' rs' es' ep' t' P',SetW w h' a rs' es' ep' t' P'->Heap.SameBut a s.heap h'->rs'.Perm ((d,b)::rs)->Q c { s with heap:=h' }) :
  wpAny (model prog w) A (setAddHashed a (.ref b) (zaf w d)) Q E s:=by
 unfold setAddHashed;refine wpAny_holding ?_;rw [show (100000:Nat)=99999+1 from rfl];unfold setAddHashedIn;refine wpAny_bind (wpAny_setState_of S.get rfl S.fits ?_);dsimp only;rw [if_neg (by simp [byScan,Value.scannable])];obtain ⟨N,h20,hN,hb⟩:=gap S.tab.ok (zaf w d);unfold setSearch;refine wpAny_bind (zf3 S hd hk hu hN hb h20 (λz=>absurd z hm) (λ_=>?_) N 0 100000 none (by omega) (Nat.zero_le _) (by omega) (S.tab.start _) (λk' hk'=>by omega));dsimp only;refine wpAny_bind (wpAny_setState_of S.get rfl S.fits ?_);dsimp only;have hj:=zgF (zaf w d) N;have hp:=zlX S.tab.ok hj
 have ebl:SetTable.below t.place (pth (zaf w d) N).1=SetTable.below P.toArray (pth (zaf w d) N).1:=by rw [S.tab.arr]
 have fin:∀ t':SetTable,t'.mask=7->t'.dummies=#[]->t'.place=SetTable.insertAt t.place (SetTable.below t.place (pth (zaf w d) N).1) (pth (zaf w d) N).1->t'.led=t.led->wpAny (model prog w) A (do
   storeSet a (SetTable.insertAt es (SetTable.below t.place (pth (zaf w d) N).1) (zaf w d,.ref b)) t'
   if !false&&t'.tooFull then setRelay a (SetTable.grown (es.size+1))
   return true) Q E s:=by
  intro t' e1 e2 e3 e4
  have hsz:(SetTable.insertAt es (SetTable.below t.place (pth (zaf w d) N).1) (zaf w d,Value.ref b)).toList=(rs.take (SetTable.below P.toArray (pth (zaf w d) N).1)++(d,b)::rs.drop (SetTable.below P.toArray (pth (zaf w d) N).1)).map λr=>(zaf w r.1,Value.ref r.2):=by
   rw [SetTable.toList_insertAt,S.ents,ebl];simp [List.map_take,List.map_drop]
  have hpl:t'.place.toList=P.take (SetTable.below P.toArray (pth (zaf w d) N).1)++(pth (zaf w d) N).1::P.drop (SetTable.below P.toArray (pth (zaf w d) N).1):=by
   rw [e3,SetTable.toList_insertAt,S.tab.pl,ebl]
  have h5:t'.place.size=5:=by
   rw [<-Array.length_toList,hpl]
   have:=S.len
   simp only [List.length_append,List.length_take,List.length_cons,List.length_drop];omega
  have htf:t'.tooFull=true:=by
   unfold SetTable.tooFull SetTable.fill;rw [e1,e2,h5];rfl
  generalize SetTable.below P.toArray (pth (zaf w d) N).1=p at *;rw [ebl] at hsz ⊢;have pm:(rs.take p++(d,b)::rs.drop p).Perm ((d,b)::rs):=List.perm_middle.trans (by rw [List.take_append_drop])
  have hz5:(SetTable.insertAt es p (zaf w d,Value.ref b)).size=5:=by
   rw [<-Array.length_toList,hsz,List.length_map,pm.length_eq,List.length_cons,h4]
  have hz:(SetTable.insertAt es p (zaf w d,Value.ref b)).size<=sizeLine:=by rw [hz5,sizeLine_eq];decide
  refine wpAny_bind (wpAny_storeSet_of S.get rfl ?_ hz);rw [htf,show es.size=4 by rw [S.size,h4]];simp only [Bool.and_self,Bool.not_false,if_true];have sb:=Heap.SameBut.update s.heap a (Obj.putSet (SetTable.insertAt es p (zaf w d,Value.ref b)) t')
  have kt:∀ c its,s.heap.IsTuple c its->(s.heap.update a (Obj.putSet (SetTable.insertAt es p (zaf w d,Value.ref b)) t')).IsTuple c its:=λc its ⟨o,e,cc,r⟩=>by
   have ne:c≠a:=λz=>by
    subst z;rw [S.get] at e;cases e;injection cc with z;exact absurd z (by decide)
   exact ⟨o,(sb.2 c ne).trans e,cc,r⟩
  refine wpAny_bind (zm6 (rs:=rs.take p++(d,b)::rs.drop p) (s:={ s with heap:=s.heap.update a (Obj.putSet (SetTable.insertAt es p (zaf w d,Value.ref b)) t') }) (Heap.get?_update_self _ S.get rfl) ?_ (by rw [pm.length_eq,List.length_cons,h4]) (by rw [e4];exact S.led) hsz (λr hr=>?_) ?_ λh' rs' es' t2 P2 S2 sb2 pm2=>?_)
  ·simp only [SetTable.fits,SetTable.fill,hz5,h5,e1,e2]
   rfl
  ·rcases List.mem_cons.mp (pm.mem_iff.mp hr) with h | h
   ·rw [h];exact ⟨hd,KAt.keep kt _ _ hk⟩
   ·exact ⟨(S.key r h).1,KAt.keep kt _ _ (S.key r h).2⟩
  ·rw [(pm.map (·.1)).nodup_iff,List.map_cons,List.nodup_cons]
   exact ⟨hm,S.nd⟩
  ·exact wpAny_pure (q true _ rs' es' _ t2 P2 S2 (sb.trans sb2) (pm2.trans pm))
 unfold SetTable.put;dsimp only;rw [S.tab.dum,ziu];simp only [Bool.false_eq_true,if_false]
 cases hpl:t.plain with
 | true=>
  simp only [if_true];refine wpAny_bind (zjf 8 d _ _ _ hk λbv=>?_)
  cases bv with
  | true=>
   simp only [if_true];exact fin _ S.tab.mask rfl rfl rfl
  | false=>
   simp only [Bool.false_eq_true,if_false];exact fin _ S.tab.mask rfl rfl rfl
 | false=>
  simp only [Bool.false_eq_true,if_false];refine wpAny_bind (wpAny_pure ?_);simp only [if_true];exact fin _ S.tab.mask rfl rfl rfl
end
end IT
namespace IT
open PySem PyProof.Rows
theorem zhu {α:Type} [DecidableEq α]:∀ {l m:List α},l.Nodup->(∀ x∈l,x∈m)->l.length<=m.length
 | [],m,_,_=>Nat.zero_le _
 | x::l,m,n,h=>by
  rw [List.nodup_cons] at n;have hx:=h x List.mem_cons_self
  have:=zhu (l:=l) (m:=m.erase x) n.2 λy hy=>(List.mem_erase_of_ne (a:=y) (b:=x) (λe=>n.1 (by rw [<-e];exact hy))).mpr (h y (List.mem_cons_of_mem _ hy))
  rw [List.length_erase_of_mem hx] at this;have hp:0<m.length:=List.length_pos_of_mem hx;simp only [List.length_cons];omega
section
variable {prog:Program} {w:World} {A:Around} {E:Value->Shared->Prop} {R:Result->Shared->Prop} {I l S:Addr} {items:Array Value} {vals:List (D×Addr)}
theorem zkQ (hA:A.in1.handled=none) (hlI:l≠I) (hSI:S≠I) (hv:items.toList=vals.map λr=>Value.ref r.2) {s:Shared} {rs:List (D×Addr)} {es:Array (Int×Value)} {ep:Nat} {t:SetTable} {P:List Nat} (hit:s.heap.IsListIter I l items.size) (hl:s.heap.IsList l items) (hS:SetW w s.heap S rs es ep t P)
  (hmem:∀ y,y∈rs.map (·.1)↔y∈vals.map (·.1)) (hsub:∀ r∈rs,r∈vals)
  (hR:∀ h' tk rs' es' ep' t' P',SetW w h' S rs' es' ep' t' P'->(∀ y,y∈rs'.map (·.1)↔y∈vals.map (·.1))->(∀ r∈rs',r∈vals)->(∀ b o,b≠S->b≠I->s.heap.get? b=some o->h'.get? b=some o)->R (.ok (.ret .none)) { s with heap:=h',toks:=tk }) :
  codeAny (model prog w) A (.builtin "set.update.loop" ⟨[.ref S,.ref I],[]⟩) R s:=by
 have W:=Walks.list (prog:=prog) (w:=w) (A:=A.in1) hA I l hlI items;refine codeAny_builtin F.entry_set_update_loop ?_
 rw [Around.under_plainId F.plain_set_update_loop _];show wpAny _ A.in1 (pyNext (.ref I) >>= _) _ _ s
 refine wpAny_bind (W.done s _ _ ⟨hit,hl⟩ λh' tk hk'=>?_);have kb:∀ b o,b≠I->s.heap.get? b=some o->h'.get? b=some o:=λb o hb e=>hk' b o (by simpa using hb) e;refine wpAny_pure (hR h' tk rs es ep t P (hS.mono (λo e=>kb S o hSI e) λb its tt=>?_) hmem hsub λb o _ hb e=>kb b o hb e)
 have ne:b≠I:=λz=>by
  obtain ⟨o,e,c,_⟩:=hit;obtain ⟨o',e',c',_⟩:=tt;rw [z,e] at e';cases e';rw [c] at c';injection c' with z;exact absurd z (by decide)
 obtain ⟨o,e,r⟩:=tt;exact ⟨o,kb b o ne e,r⟩
theorem zma (hA:A.in1.handled=none) (hu:A.units+16<cLine) (hlI:l≠I) (hSI:S≠I) (hSl:S≠l) (hv:items.toList=vals.map λr=>Value.ref r.2) (mx:List D) (h4:mx.length<=4\/vals.length<=5) (hmx:∀ r∈vals,r.1∈mx) :
  ∀ (k i:Nat) (s:Shared) (rs:List (D×Addr)) (es:Array (Int×Value)) (ep:Nat) (t:SetTable) (P:List Nat),items.size-i=k->i<=items.size->s.heap.IsListIter I l i->s.heap.IsList l items->zaW w s.heap S rs es ep t P →
  (∀ r∈vals,zaq r.1=true/\KAt s.heap r.1 (.ref r.2))->(∀ y,y∈rs.map (·.1)↔y∈(vals.take i).map (·.1))->(∀ r∈rs,r∈vals) →
  (∀ h' tk rs' es' ep' t' P',SetW w h' S rs' es' ep' t' P'->(∀ y,y∈rs'.map (·.1)↔y∈vals.map (·.1))->(∀ r∈rs',r∈vals)->(∀ b o,b≠S->b≠I->s.heap.get? b=some o->h'.get? b=some o)->R (.ok (.ret .none)) { s with heap:=h',toks:=tk }) →
  codeAny (model prog w) A (.builtin "set.update.loop" ⟨[.ref S,.ref I],[]⟩) R s:=by
 have W:=Walks.list (prog:=prog) (w:=w) (A:=A.in1) hA I l hlI items
 have iter_no:∀ (h:Heap) i its,h.IsListIter I l i->¬ h.IsTuple I its:=λh i its ⟨o,e,c,_⟩ ⟨o',e',c',_⟩=>by
  rw [e] at e';cases e';rw [c] at c';injection c' with z;exact absurd z (by decide)
 have hlen:vals.length=items.size:=by rw [<-Array.length_toList,hv,List.length_map]
 intro k
 induction k with
 | zero=>
  intro i s rs es ep t P hk hi hit hl hS hkey hmem hsub hR
  have hin:i=items.size:=by omega
  subst hin;exact zkQ hA hlI hSI hv hit hl hS.toW (λy=>by rw [hmem y,List.take_of_length_le (by omega)]) hsub hR
 | succ k ih=>
  intro i s rs es ep t P hk hi hit hl hS hkey hmem hsub hR
  have hlt:i<items.size:=by omega
  refine codeAny_builtin F.entry_set_update_loop ?_
  rw [Around.under_plainId F.plain_set_update_loop _];show wpAny _ A.in1 (pyNext (.ref I) >>= _) _ _ s
  refine wpAny_bind (W.item i s _ _ hlt ⟨hit,hl⟩ λv h' tk hP hst' hk'=>?_);have kb:∀ b o,b≠I->s.heap.get? b=some o->h'.get? b=some o:=λb o hb e=>hk' b o (by simpa using hb) e
  have kt:∀ b its,s.heap.IsTuple b its->h'.IsTuple b its:=λb its tt=>by
   have ne:b≠I:=λz=>iter_no _ _ its hit (z▸tt);obtain ⟨o,e,r⟩:=tt;exact ⟨o,kb b o ne e,r⟩
  have hiv:i<vals.length:=by omega
  have ev:v=.ref (vals[i]).2:=by
   rw [<-Array.getElem?_toList,hv,List.getElem?_map,List.getElem?_eq_getElem hiv] at hP;exact (Option.some.inj hP).symm
  subst ev;obtain ⟨hk1,hk2⟩:=hkey vals[i] (List.getElem_mem ..);have hS1:=hS.mono (λo e=>kb S o hSI e) kt;have hk3:=KAt.keep kt _ _ hk2;show wpAny _ A.in1 (holding [Value.ref (vals[i]).2] (setAdd S (.ref (vals[i]).2)) >>= _) _ _ { s with heap:=h',toks:=tk };refine wpAny_bind (wpAny_holding ?_);unfold setAdd
  refine wpAny_holding (wpAny_bind (ze3 8 (vals[i]).1 A.in1 { s with heap:=h',toks:=tk } _ _ (zaZ hk1) hk3 (by show A.units+1+8<cLine;omega) ?_))
  by_cases h5:(vals[i]).1 ∉ rs.map (·.1)/\rs.length=4
  ·have hrl:rs.length<=i:=by
    have:=zhu (l:=rs.map (·.1)) (m:=(vals.take i).map (·.1)) hS.nd λx hx=>(hmem x).mp hx
    simp only [List.length_map,List.length_take] at this;omega
   have h4':vals.length<=5:=by
    rcases h4 with h4 | h4
    ·have:=zhu (l:=(vals[i]).1::rs.map (·.1)) (m:=mx) (List.nodup_cons.mpr ⟨h5.1,hS.nd⟩) λx hx=>by
      rcases List.mem_cons.mp hx with rfl | hx
      ·exact hmx _ (List.getElem_mem ..)
      ·obtain ⟨r,hr,rfl⟩:=List.mem_map.mp hx
       exact hmx r (hsub r hr)
     simp only [List.length_cons,List.length_map] at this;omega
    ·exact h4
   refine zn8 (s:={ s with heap:=h',toks:=tk+zds (vals[i]).1 }) hS1 hk1 hk3 (by show A.units+1+8<cLine;omega) h5.1 h5.2 λc h2 rs' es' ep' t' P' S2 sb pm=>?_
   have ei:i+1=items.size:=by omega
   refine wpAny_pure ⟨plainId_quiet F.plain_set_update_loop _,zkQ hA hlI hSI hv ?_ ?_ S2 (λy=>?_) (λr hr=>?_) λh3 tk3 rs3 es3 ep3 t3 P3 g1 g2 g3 g4=>?_⟩
   ·obtain ⟨o,e,r⟩:=hst'.1
    rw [<-ei];exact ⟨o,(sb.2 I (Ne.symm hSI)).trans e,r⟩
   ·obtain ⟨o,e,r⟩:=hst'.2
    exact ⟨o,(sb.2 l (Ne.symm hSl)).trans e,r⟩
   ·have e1:vals=vals.take i++[vals[i]]:=by rw [<-List.take_succ_eq_append_getElem hiv,List.take_of_length_le (by omega)]
    rw [(pm.map (·.1)).mem_iff,List.map_cons,List.mem_cons,hmem y]
    conv=>rhs;rw [e1]
    rw [List.map_append,List.mem_append,List.map_cons,List.map_nil,List.mem_singleton];exact ⟨λh=>h.symm,λh=>h.symm⟩
   ·rcases List.mem_cons.mp (pm.mem_iff.mp hr) with h | h
    ·rw [h];exact List.getElem_mem ..
    ·exact hsub r h
   ·exact hR h3 tk3 rs3 es3 ep3 t3 P3 g1 g2 g3 λb o hb1 hb2 e=>g4 b o hb1 hb2 ((sb.2 b hb1).trans (kb b o hb2 e))
  refine zqJ (s:={ s with heap:=h',toks:=tk+zds (vals[i]).1 }) hS1 hk1 hk3 (by show A.units+1+8<cLine;omega) (λhn=>?_) λc h2 rs' es' ep' t' P' S2 sb hm2 hs2=>?_
  ·have:=hS.le4
   exact Nat.lt_of_le_of_ne this λz=>h5 ⟨hn,z⟩
  ·have kt2:∀ b its,h'.IsTuple b its->h2.IsTuple b its:=λb its ⟨o,e,c,r⟩=>by
    have ne:b≠S:=λz=>by
     subst z;rw [hS1.get] at e;cases e;injection c with z;exact absurd z (by decide)
    exact ⟨o,(sb.2 b ne).trans e,c,r⟩
   refine wpAny_pure ⟨plainId_quiet F.plain_set_update_loop _,ih (i+1) _ rs' es' ep' t' P' (by omega) hlt ?_ ?_ S2 (λr hr=>⟨(hkey r hr).1,KAt.keep kt2 _ _ (KAt.keep kt _ _ (hkey r hr).2)⟩) (λy=>?_) (λr hr=>?_) λh3 tk3 rs3 es3 ep3 t3 P3 g1 g2 g3 g4=>?_⟩
   ·obtain ⟨o,e,r⟩:=hst'.1
    exact ⟨o,(sb.2 I (Ne.symm hSI)).trans e,r⟩
   ·obtain ⟨o,e,r⟩:=hst'.2
    exact ⟨o,(sb.2 l (Ne.symm hSl)).trans e,r⟩
   ·rw [hm2 y,hmem y,List.take_succ_eq_append_getElem hiv,List.map_append,List.mem_append]
    simp only [List.map_cons,List.map_nil,List.mem_singleton];exact ⟨λh=>h.symm,λh=>h.symm⟩
   ·rcases hs2 r hr with h | h
    ·exact hsub r h
    ·rw [h];exact List.getElem_mem ..
   ·exact hR h3 tk3 rs3 es3 ep3 t3 P3 g1 g2 g3 λb o hb1 hb2 e=>g4 b o hb1 hb2 ((sb.2 b hb1).trans (kb b o hb2 e))
end
section
variable {prog:Program} {w:World} {A:Around} {E:Value->Shared->Prop} {s:Shared}
noncomputable abbrev set0 (w:World):Obj:={ cls:=.type "set",dict:=none,data:=.set #[] 0 (.fresh 0 0 (!byTx w)) }
theorem zm7 (a:Value) {Q₁:Value->Shared->Prop} (h:Q₁ (.ref s.heap.objs.size) { s with heap:=s.heap.push (set0 w) }) :
  codeAny (model prog w) A (.call (.builtin "set.__new__") ⟨[.type "set",a],[]⟩) (wants Q₁ E) s:=by
 refine codeAny_of_tree ?_;show wpAny _ A.in1 (do checkBuiltinCall "set.__new__" ⟨[.type "set",a],[]⟩;again (.builtin "set.__new__" ⟨[.type "set",a],[]⟩)) _ _ s
 refine wpAny_bind (wpAny_of_eq (F.newCall_set_1 a) (wpAny_pure ⟨plainId_quiet PySem.F.plain_set_new _,codeAny_builtin PySem.F.entry_set_new ?_⟩))
 rw [Around.under_plainId PySem.F.plain_set_new _];unfold Builtin.«set.__new__» Builtin.Frozenset.newClass
 have hsub:=sub_set_self;obtain ⟨hp,g,d,tk,os⟩:=s;dsimp only
 wp_walk
 refine wpAny_askSetting (wpAny_pure ?_)
 dsimp only;simp only [newObj]
 exact wpAny_bind (wpAny_alloc (wpAny_pure (wpAny_pure h)))
theorem znK {h:Heap} {a:Addr} (e:h.get? a=some (set0 w)):zaW w h a [] #[] 0 (.fresh 0 0 (!byTx w)) []:=
 ⟨e,⟨rfl,rfl,rfl,rfl⟩,rfl,rfl,rfl,(λr hr=>nomatch hr),List.nodup_nil,(λz hz=>nomatch hz)⟩
theorem zeR {l:Addr} {items:Array Value} {vals:List (D×Addr)} {mx:List D} {Q:Value->Shared->Prop} (hh:A.handled=none) (hu:A.units+32<cLine) (hl:s.heap.IsList l items) (hv:items.toList=vals.map λr=>Value.ref r.2)
  (hkey:∀ r∈vals,zaq r.1=true/\KAt s.heap r.1 (.ref r.2)) (h4:mx.length<=4\/vals.length<=5) (hmx:∀ r∈vals,r.1∈mx)
  (h:∀ h' tk rs es ep t P,SetW w h' s.heap.objs.size rs es ep t P->(∀ y,y∈rs.map (·.1)↔y∈vals.map (·.1))->(∀ r∈rs,r∈vals)->(∀ b o,s.heap.get? b=some o->h'.get? b=some o)->Q (.ref s.heap.objs.size) { s with heap:=h',toks:=tk }) :
  wpAny (model prog w) A (call (.type "set") [.ref l]) Q E s:=by
 obtain ⟨c,tl,hmro⟩:=PySem.F.called_set.mro;have hmade:=PySem.F.called_set.made;have hsub:=PySem.F.called_set.sub
 refine wpAny_call (codeAny_of_tree ?_);show wpAny _ _ (callAny (.type "set") _) _ _ _
 refine wpAny_pure ⟨Code.quiet_builtin _ (by decide +kernel),codeAny_builtin PySem.F.entry_type_call ?_⟩;rw [Around.under_plain (weight_type_call_type "set" [.ref l] []) rfl]
 have h1:=PySem.F.called_set.notType;have h2:=PySem.F.called_set.canCreate;have hct:=PySem.F.typeCall_set_1 (.ref l)
 repeat (any_goals (first | assumption | wp_step))
 refine codeAny_mono (zm7 (.ref l) (E:=E) (Q₁:=λobj s₁=>obj=.ref s.heap.objs.size/\s₁={ s with heap:=s.heap.push (set0 w) }) ⟨rfl,rfl⟩) λr s₁ hr=>?_
 cases r with
 | error e=>exact hr
 | ok fl=>
  cases fl with
  | ret obj=>
   obtain ⟨rfl,rfl⟩:=hr;have hS:(s.heap.push (set0 w)).get? s.heap.objs.size=some (set0 w):=Heap.get?_push_size _ rfl;have hT:Shared.TypeIs { s with heap:=s.heap.push (set0 w) } (.ref s.heap.objs.size) "set":=⟨_,hS,rfl⟩;have hli:=PySem.F.called_set.init.lookup;have hbi:=PySem.F.called_set.init.bind (.ref s.heap.objs.size)
   repeat (any_goals (first | assumption | wp_step))
   refine codeAny_mono (codeAny_call_builtin (R:=wants (λr s₂=>r=.none/\∃ h' tk rs es ep t P,s₂={ s with heap:=h',toks:=tk }/\SetW w h' s.heap.objs.size rs es ep t P/\(∀ y,y∈rs.map (·.1)↔y∈vals.map (·.1))/\(∀ r∈rs,r∈vals)/\(∀ b o,s.heap.get? b=some o->h'.get? b=some o)) E)
    PySem.F.called_set.init.plain PySem.F.entry_set_init (check_set_init_1 hT ?_)) λr₂ s₂ hr₂=>?_
   ·obtain ⟨⟨ocls,odict,odata,oslots⟩,hol,hcl,nl,hdl⟩:=hl
    simp only at hcl hdl
    subst hcl;subst hdl
    have hol':(s.heap.push (set0 w)).get? l=some { cls:=.type "list",dict:=odict,data:=.seq items nl,slots:=oslots }:=Heap.get?_push_of_some _ hol;have hsls:=PySem.F.sub_list_set;have hslf:=PySem.F.sub_list_frozenset
    have hne:(Value.type "list"==Value.type "dict")=false:=by decide
    have hl1:(s.heap.push (set0 w)).IsList l items:=⟨_,hol',rfl,nl,rfl⟩;unfold Builtin.«set.__init__» noKeywords Builtin.Frozenset.updateFrom;generalize hPI:pyIter=PI
    wp_walk
    subst hPI;refine wpAny_pyIter_list hl1 ?_;refine wpAny_bind (wpAny_runValue ?_);have hlS:l<s.heap.objs.size:=Heap.lt_size hol;have sz1:(s.heap.push (set0 w)).objs.size=s.heap.objs.size+1:=Heap.size_push ..;have keep:∀ b its,s.heap.IsTuple b its->((s.heap.push (set0 w)).push { cls:=.type "list_iterator",data:=.fields #[.ref l,.int 0 0] }).IsTuple b its:=λb its ⟨o,e,r⟩=>⟨o,Heap.get?_push_of_some _ (Heap.get?_push_of_some _ e),r⟩
    refine zma (mx:=mx) (vals:=vals) (items:=items) (l:=l) (by simp [hh]) (by show A.units+1+1+16<cLine;omega) ?_ ?_ (Nat.ne_of_gt hlS) hv h4 hmx items.size 0 _ [] #[] 0 _ [] (by omega) (Nat.zero_le _) ⟨_,Heap.get?_push_size _ rfl,rfl,rfl⟩ (hl1.push _) (znK (Heap.get?_push_of_some _ hS)) (λr hr=>⟨(hkey r hr).1,KAt.keep keep _ _ (hkey r hr).2⟩) (λy=>by simp) (λr hr=>nomatch hr) ?_
    ·rw [sz1];exact Nat.ne_of_lt (Nat.lt_succ_of_lt hlS)
    ·rw [sz1];exact Nat.ne_of_lt (Nat.lt_succ_self _)
    ·intro h' tk rs es ep t P g1 g2 g3 g4
     refine wpAny_pure ?_;show wpAny _ _ (ret Value.none) _ _ _;refine wpAny_pure ⟨rfl,h',tk,rs,es,ep,t,P,rfl,g1,g2,g3,λb o e=>g4 b o (Nat.ne_of_lt (Heap.lt_size e)) ?_ (Heap.get?_push_of_some _ (Heap.get?_push_of_some _ e))⟩
     rw [sz1];exact Nat.ne_of_lt (Nat.lt_succ_of_lt (Heap.lt_size e))
   ·cases r₂ with
    | error e=>exact hr₂
    | ok fl₂=>
     cases fl₂ with
     | ret r=>
      obtain ⟨rfl,h',tk,rs,es,ep,t,P,rfl,g1,g2,g3,g4⟩:=hr₂
      repeat (any_goals (first | assumption | wp_step))
      exact h _ _ _ _ _ _ _ g1 g2 g3 g4
     | _=>exact hr₂.elim
  | _=>exact hr.elim
end
end IT
namespace IT
open PySem PyProof.Rows
theorem zaE:Slot "set_iterator" "__next__" "set_iterator.__next__":=
 .of (owner:="set_iterator") (n:="__next__") (by rw [typeLookup_type,builtinLookup_eq_fast];kernel_rfl) (by decide +kernel) (by decide +kernel) (by decide +kernel) (by first | exact .inl (by decide +kernel) | exact .inr (by decide +kernel)) (by rw [isSubtype_type];kernel_rfl)
theorem zcm:entryFor table "set_iterator.__next__"=some Builtin.«set_iterator.__next__»:=entryFor_of_tree (by kernel_rfl)
theorem zcT (a:Value):argsOk "set_iterator.__next__" ⟨[a],[]⟩:=by unfold argsOk;kernel_rfl
theorem zfk:entryFor table "set.__iter__"=some Builtin.«frozenset.__iter__»:=entryFor_alias (id':="frozenset.__iter__") (by kernel_rfl) rfl (by decide +kernel) (by kernel_rfl)
noncomputable abbrev sitO (f:Value) (i:Nat) (v:Addr) (n ep:Nat):Obj:={ cls:=.type "set_iterator",dict:=none,data:=.fields #[f,.int i 0,.ref v,.int n 0,.int ep 0],slots:=#[] }
inductive Mode (w:World) (v:Addr) (es:Array (Int×Value)) (ep:Nat) (t:SetTable) (P:List Nat) (fs:Nat->Value) (vs:List (Int×Value)) (h:Heap):Prop where
 | drawn (T:Addr) (p:List Nat) (hf:fs=λ_=>.ref T) (hT:h.get? T=some { cls:=.type "tuple",data:=.seq (p.map λi:Nat=>rawInt (i:Int)).toArray 0 }) (hp:p.length=es.size) (hv:∀ (i j:Nat),p[i]?=some j->∃ e,es[j]?=some e/\vs[i]?=some e)
 | text (hb:byTx w=true) (hf:fs=λ_=>rawInt 0) (hv:(pickOrder (w.params.setOrder v ep) es).toList=vs)
 | slots (hb:byTx w=false) (hd:t.plain=true\/es.size<=1) (hf:fs=λi=>rawInt ((if i=0 then 0 else P.getD (i-1) 0+1:Nat):Int)) (hv:vs=es.toList)
theorem Mode.keep {w:World} {v:Addr} {es:Array (Int×Value)} {ep:Nat} {t:SetTable} {P:List Nat} {fs:Nat->Value} {vs:List (Int×Value)} {h h':Heap} {b:Addr} (m:Mode w v es ep t P fs vs h) (k:∀ c o,c≠b->h.get? c=some o->h'.get? c=some o) (hb:∀ o,h.get? b=some o->o.cls≠.type "tuple"):Mode w v es ep t P fs vs h':=by
 cases m with
 | drawn T p hf hT hp hv=>exact .drawn T p hf (k T _ (λe=>by subst e;exact hb _ hT rfl) hT) hp hv
 | text hb hf hv=>exact .text hb hf hv
 | slots hb hd hf hv=>exact .slots hb hd hf hv
theorem zcP {α:Type}:∀ {l:List α} {i:Nat} (hi:i<l.length),(l[i]::l.eraseIdx i).Perm l
 | [],i,hi=>by simp at hi
 | x::l,0,hi=>by simp
 | x::l,i+1,hi=>by
  simp only [List.getElem_cons_succ,List.eraseIdx_cons_succ];exact (List.Perm.swap _ _ _).trans (List.Perm.cons _ (zcP (by simpa using hi)))
section
variable {prog:Program} {w:World} {A:Around} {E:Value->Shared->Prop} {s:Shared}
theorem za3 {Q:Bool->Shared->Prop} (q:Q (byTx w) s):wpAny (model prog w) A setsByText Q E s:=by
 unfold setsByText;exact wpAny_bind (wpAny_askSetting (wpAny_pure q))
theorem zjU {M:Model} {src:Source} {n:Nat} {Q:Nat->Shared->Prop} (h0:n≠0) (q:∀ i,i<n->Q i { s with drawn:=s.drawn.bump src }):wpAny M A (choose src n) Q E s:=by
 intro p _ p1;simp only [choose,Sem.wp_choose,Sem.wp_pure];exact ⟨h0,q _ (Nat.mod_lt _ (Nat.pos_of_ne_zero h0))⟩
theorem zjO {M:Model} {α:Type}:∀ (n:Nat) (xs:List α) (s:Shared) (Q:List α->Shared->Prop),xs.length=n->(∀ ys d,ys.Perm xs->Q ys { s with drawn:=d })->wpAny M A (drawOrder n xs) Q E s
 | 0,xs,s,Q,hl,q=>by
  cases xs with
  | nil=>exact wpAny_pure (q [] s.drawn (List.Perm.refl _))
  | cons x xs=>simp at hl
 | n+1,xs,s,Q,hl,q=>by
  cases xs with
  | nil=>simp at hl
  | cons x xs=>
   unfold drawOrder;refine wpAny_bind (zjU (by simp) λi hi=>?_);rw [List.getElem?_eq_getElem hi]
   refine wpAny_bind (zjO n _ _ _ (by rw [List.length_eraseIdx_of_lt hi];omega) λys d hp=>?_)
   refine wpAny_pure (q _ d ?_);exact (List.Perm.cons _ hp).trans (zcP hi)
theorem zgl {α:Type} (nx:Nat->Nat):∀ (fuel k:Nat) (left:List α) (out:Array α),left.length=fuel->(pickOrder.go nx fuel k left out).toList.Perm (out.toList++left)
 | 0,k,left,out,hl=>by
  cases left with
  | nil=>simp [pickOrder.go]
  | cons x xs=>simp at hl
 | fuel+1,k,left,out,hl=>by
  have hi:nx k % left.length<left.length:=Nat.mod_lt _ (by omega);unfold pickOrder.go;rw [List.getElem?_eq_getElem hi];dsimp only
  refine (zgl nx fuel (k+1) _ _ (by rw [List.length_eraseIdx_of_lt hi];omega)).trans ?_
  rw [Array.toList_push,List.append_assoc];exact List.Perm.append_left _ (zcP hi)
variable {I v:Addr} {rs:List (D×Addr)} {es:Array (Int×Value)} {ep:Nat} {t:SetTable} {P:List Nat} {fs:Nat->Value} {vs:List (Int×Value)} {i:Nat}
theorem zkL {Q:Array (Int×Value)->Shared->Prop} (S:SetW w s.heap v rs es ep t P) (hb:byTx w=true) (q:Q (pickOrder (w.params.setOrder v ep) es) s):wpAny (model prog w) A (setWalk v) Q E s:=by
 unfold setWalk;refine wpAny_bind (wpAny_setState_of S.get rfl S.fits ?_);dsimp only;refine wpAny_bind (za3 ?_);rw [hb,if_pos rfl];exact wpAny_bind (wpAny_askSetting (wpAny_pure q))
theorem zoX {e:Int×Value} {Q:Option Value->Shared->Prop} (S:SetW w s.heap v rs es ep t P) (m:Mode w v es ep t P fs vs s.heap) (hit:s.heap.get? I=some (sitO (fs i) i v es.size ep)) (hi:i<es.size) (he:vs[i]?=some e)
  (q:∀ h',h'.get? I=some (sitO (fs (i+1)) (i+1) v es.size ep)->Heap.SameBut I s.heap h'->Q (some e.2) { s with heap:=h' }):wpAny (model prog w) A (pyNext (.ref I)) Q E s:=by
 have hT:s.TypeIs (.ref I) "set_iterator":=⟨_,hit,rfl⟩;unfold pyNext;refine wpAny_bind (wpAny_attempt (wpAny_callSpecial?_slot (name:=Str.ofString "__next__") hT zaE (wpAny_call_entry zaE hT zcm ?_ (zcT _))));show wpAny _ _ (fieldsOf (.ref I) >>= _) _ _ _;refine wpAny_bind (wpAny_fieldsOf hit rfl ?_);dsimp only;refine wpAny_bind (wpAny_setEntries_of S.get rfl S.fits ?_);rw [if_neg (by simp)]
 have ei:((i+1:Nat):Int)=(i:Int)+1:=by omega
 cases m with
 | drawn T p hf hTu hp hv=>
  subst hf
  have hip:i<p.length:=by omega
  obtain ⟨e',g1,g2⟩:=hv i p[i] (List.getElem?_eq_getElem hip);rw [he] at g2;cases g2;show wpAny _ _ (seqItems? (.ref T) >>= _) _ _ _;unfold seqItems?;refine wpAny_bind (wpAny_bind (wpAny_load hTu (wpAny_pure ?_)));dsimp only
  have eg:(p.map λi:Nat=>rawInt (i:Int)).toArray[(i:Int).toNat]?=some (.int (p[i]:Nat) 0):=by
   rw [Int.toNat_natCast];simp [hip,rawInt]
  rw [eg];dsimp only;unfold setNextDrawn;refine wpAny_bind (wpAny_bind (wpAny_setState_of S.get rfl S.fits ?_));dsimp only;rw [if_neg (by simp)];rw [Int.toNat_natCast,g1];refine wpAny_pure (wpAny_bind (wpAny_setField_rec hit (by simp) λh1 he1 hs1=>wpAny_pure ⟨_,rfl,wpAny_pure (q h1 ?_ hs1)⟩));rw [he1];simp [sitO,rawInt,ei]
 | text hb hf hv=>
  subst hf;show wpAny _ _ (setNext v (0:Int).toNat (i:Int).toNat (ep:Int).toNat >>= _) _ _ _;unfold setNext;refine wpAny_bind (wpAny_bind (wpAny_setState_of S.get rfl S.fits ?_));dsimp only;refine wpAny_bind (za3 ?_);rw [hb,if_pos rfl,Int.toNat_natCast,Int.toNat_natCast];rw [if_neg (by simp)];refine wpAny_bind (zkL S hb ?_);rw [<-Array.getElem?_toList,hv,he];refine wpAny_pure ?_;dsimp only [Option.map_some];refine wpAny_bind (wpAny_setField_rec hit (by simp) λh1 he1 hs1=>wpAny_bind (wpAny_setField_rec he1 (by simp) λh2 he2 hs2=>wpAny_pure ⟨_,rfl,wpAny_pure (q h2 ?_ (hs1.trans hs2))⟩));rw [he2];simp [sitO,rawInt,ei]
 | slots hb hd hf hv=>
  subst hf hv;show wpAny _ _ (setNext v ((if i=0 then 0 else P.getD (i-1) 0+1:Nat):Int).toNat (i:Int).toNat (ep:Int).toNat >>= _) _ _ _;unfold setNext;refine wpAny_bind (wpAny_bind (wpAny_setState_of S.get rfl S.fits ?_));dsimp only;refine wpAny_bind (za3 ?_);rw [hb,if_neg (by decide),Int.toNat_natCast];refine wpAny_ite_split (λhab=>?_) (λ_=>?_)
  ·exfalso
   have hab':(!t.plain&&decide (es.size>1))=true:=hab;simp only [Bool.and_eq_true,Bool.not_eq_true',decide_eq_true_eq] at hab'
   rcases hd with z | z
   ·rw [z] at hab';exact absurd hab'.1 (by decide)
   ·omega
  ·refine wpAny_bind (m:=_) ?_
   have hl:t.led=true:=by rw [S.led,hb];rfl
   show wpAny _ _ (if (!t.led&&!es.isEmpty)=true then _ else _) _ _ _
   rw [if_neg (by rw [hl];simp)]
   refine wpAny_pure (wpAny_pure ?_)
   have hiP:i<P.length:=by rw [S.len,<-S.size];exact hi
   have eb:SetTable.below t.place (if i=0 then 0 else P.getD (i-1) 0+1)=i:=by
    rw [S.tab.arr];exact S.tab.walk _ (Nat.le_of_lt hiP)
   have e1:es[i]?=some e:=by rw [<-Array.getElem?_toList];exact he
   have e2:t.place[i]?=some P[i]:=by rw [<-Array.getElem?_toList,S.tab.pl];exact List.getElem?_eq_getElem hiP
   try dsimp only
   rw [eb,e1,e2];dsimp only;refine wpAny_bind (wpAny_setField_rec hit (by simp) λh1 he1 hs1=>wpAny_bind (wpAny_setField_rec he1 (by simp) λh2 he2 hs2=>wpAny_pure ⟨_,rfl,wpAny_pure (q h2 ?_ (hs1.trans hs2))⟩));rw [he2]
   have e3:P.getD i 0=P[i]:=by simp [hiP]
   simp [sitO,rawInt,ei,hiP]
theorem zhi {α:Type} {Q':α->Shared->Prop} {E':Value->Shared->Prop} {h1:Heap} (hh:A.handled=none) (hs1:Heap.SameBut I s.heap h1)
  (q:∀ h2 x,(∀ b o,b≠I->s.heap.get? b=some o->h2.get? b=some o)->({ s with heap:=h2 }:Shared).TypeIs x "StopIteration"->E' x { s with heap:=h2 }):wpAny (model prog w) A.in1 (do raiseNew (<-newExc (.type "StopIteration") [])) Q' E' { s with heap:=h1 }:=by
 refine wpAny_bind ?_;simp only [newExc,newTuple]
 refine wpAny_bind (wpAny_newObj_type ?_ (by size_fits))
 refine wpAny_bind (m:=firstArgMember _ _) (wpAny_of_eq (a:=Value.none) (by first | rfl | (simp only [firstArgMember];rfl)) ?_);refine wpAny_newObj_type ?_ (by size_fits)
 simp only [raiseNew];refine wpAny_bind (wpAny_handled ?_)
 rw [show A.in1.handled=none from hh];refine wpAny_bind (wpAny_pure (wpAny_throw ?_));exact q _ _ ((hs1.extBut.push _).push _) ⟨_,Heap.get?_push_size _ rfl,rfl⟩
theorem zp4 {Q:Option Value->Shared->Prop} (hh:A.handled=none) (S:SetW w s.heap v rs es ep t P) (m:Mode w v es ep t P fs vs s.heap) (hl:vs.length=es.size) (hit:s.heap.get? I=some (sitO (fs es.size) es.size v es.size ep))
  (q:∀ h',(∀ b o,b≠I->s.heap.get? b=some o->h'.get? b=some o)->Q none { s with heap:=h' }):wpAny (model prog w) A (pyNext (.ref I)) Q E s:=by
 have hT:s.TypeIs (.ref I) "set_iterator":=⟨_,hit,rfl⟩;unfold pyNext;refine wpAny_bind (wpAny_attempt (wpAny_callSpecial?_slot (name:=Str.ofString "__next__") hT zaE (wpAny_call_entry zaE hT zcm ?_ (zcT _))));show wpAny _ _ (fieldsOf (.ref I) >>= _) _ _ _;refine wpAny_bind (wpAny_fieldsOf hit rfl ?_);dsimp only;refine wpAny_bind (wpAny_setEntries_of S.get rfl S.fits ?_);rw [if_neg (by simp)]
 cases m with
 | drawn T p hf hTu hp hv=>
  subst hf;show wpAny _ _ (seqItems? (.ref T) >>= _) _ _ _;unfold seqItems?;refine wpAny_bind (wpAny_bind (wpAny_load hTu (wpAny_pure ?_)));dsimp only
  have eg:(p.map λi:Nat=>rawInt (i:Int)).toArray[(es.size:Int).toNat]?=none:=by
   rw [Int.toNat_natCast];simp [hp]
  rw [eg];dsimp only;exact wpAny_bind (wpAny_setField_rec hit (by simp) λh1 he1 hs1=>wpAny_bind (wpAny_setField_rec he1 (by simp) λh2 he2 hs2=>zhi (s:=s) hh (hs1.trans hs2) λh3 x k2 ty=>wpAny_bind (wpAny_isInstance (b:=true) ty isSubtype_stop (wpAny_pure (q h3 k2)))))
 | text hb hf hv=>
  subst hf;show wpAny _ _ (setNext v (0:Int).toNat (es.size:Int).toNat (ep:Int).toNat >>= _) _ _ _;unfold setNext;refine wpAny_bind (wpAny_bind (wpAny_setState_of S.get rfl S.fits ?_));dsimp only;refine wpAny_bind (za3 ?_);rw [hb,if_pos rfl,Int.toNat_natCast,Int.toNat_natCast];rw [if_neg (by simp)];refine wpAny_bind (zkL S hb ?_);rw [<-Array.getElem?_toList,hv,List.getElem?_eq_none (by omega)];refine wpAny_pure ?_;dsimp only [Option.map_none];exact wpAny_bind (wpAny_setField_rec hit (by simp) λh1 he1 hs1=>zhi (s:=s) hh hs1 λh3 x k2 ty=>wpAny_bind (wpAny_isInstance (b:=true) ty isSubtype_stop (wpAny_pure (q h3 k2))))
 | slots hb hd hf hv=>
  subst hf hv;show wpAny _ _ (setNext v ((if es.size=0 then 0 else P.getD (es.size-1) 0+1:Nat):Int).toNat (es.size:Int).toNat (ep:Int).toNat >>= _) _ _ _;unfold setNext;refine wpAny_bind (wpAny_bind (wpAny_setState_of S.get rfl S.fits ?_));dsimp only;refine wpAny_bind (za3 ?_);rw [hb,if_neg (by decide),Int.toNat_natCast];refine wpAny_ite_split (λhab=>?_) (λ_=>?_)
  ·exfalso
   have hab':(!t.plain&&decide (es.size>1))=true:=hab;simp only [Bool.and_eq_true,Bool.not_eq_true',decide_eq_true_eq] at hab'
   rcases hd with z | z
   ·rw [z] at hab';exact absurd hab'.1 (by decide)
   ·omega
  ·refine wpAny_bind (m:=_) ?_
   have hl:t.led=true:=by rw [S.led,hb];rfl
   show wpAny _ _ (if (!t.led&&!es.isEmpty)=true then _ else _) _ _ _
   rw [if_neg (by rw [hl];simp)]
   refine wpAny_pure (wpAny_pure ?_)
   have eb:SetTable.below t.place (if es.size=0 then 0 else P.getD (es.size-1) 0+1)=es.size:=by
    rw [S.tab.arr]
    exact S.tab.walk _ (by rw [S.len,<-S.size];exact Nat.le_refl _)
   have e1:es[es.size]?=none:=by simp
   try dsimp only
   rw [eb,e1];dsimp only;exact wpAny_bind (wpAny_setField_rec hit (by simp) λh1 he1 hs1=>zhi (s:=s) hh hs1 λh3 x k2 ty=>wpAny_bind (wpAny_isInstance (b:=true) ty isSubtype_stop (wpAny_pure (q h3 k2))))
end
end IT
namespace IT
open PySem PySem.W PyProof.Rows
theorem zh9:∀ x y:List Nat,ltS x y=decide (x<y)
 | [],[]=>by simp [ltS]
 | [],_::_=>by simp [ltS]
 | _::_,[]=>by simp [ltS]
 | a::r,b::t=>by
  have ih:=zh9 r t;simp only [ltS,List.cons_lt_cons_iff]
  by_cases h:a=b
  ·subst h;simp [ih]
  ·simp [h]
theorem znQ (h1:ltS x y=false) (h2:ltS y x=false):x=y:=by
 rw [zh9,decide_eq_false_iff_not] at h1 h2;exact List.le_antisymm (List.not_lt.mp h2) (List.not_lt.mp h1)
mutual
theorem zlC:∀ x y:D,D.lt x y=some false->D.lt y x=some false->x=y
 | .int a,y,h1,h2=>by
  cases y<;>simp [D.lt] at h1 h2
  rw [Int.le_antisymm h2 h1]
 | .str a,y,h1,h2=>by
  cases y<;>simp [D.lt] at h1 h2
  rw [znQ h1 h2]
 | .tup a,y,h1,h2=>by
  cases y<;>simp [D.lt] at h1 h2
  rw [lts_tot a _ h1 h2]
 | .non,_,h1,_=>by simp [D.lt] at h1
 | .bl _,_,h1,_=>by simp [D.lt] at h1
 | .lst _,_,h1,_=>by simp [D.lt] at h1
theorem lts_tot:∀ x y:List D,D.lts x y=some false->D.lts y x=some false->x=y
 | [],[],_,_=>rfl
 | [],_::_,h1,_=>by simp [D.lts] at h1
 | _::_,[],_,h2=>by simp [D.lts] at h2
 | a::r,b::t,h1,h2=>by
  simp only [D.lts] at h1 h2
  by_cases h:a=b
  ·subst h
   rw [if_pos (D.same_refl a)] at h1 h2;rw [lts_tot r t h1 h2]
  ·rw [if_neg (by rw [zcw h];exact Bool.false_ne_true)] at h1
   rw [if_neg (by rw [zcw (Ne.symm h)];exact Bool.false_ne_true)] at h2
   exact absurd (zlC a b h1 h2) h
end
section
variable {prog:Program} {w:World} {E:Value->Shared->Prop}
theorem kLt:∀ (n:Nat) (x y:D) (c:Bool) (A:Around) (s:Shared) (u v:Value) (Q:Value->Shared->Prop),x.dep<=n->KAt s.heap x u->KAt s.heap y v->D.lt x y=some c->A.units+n<cLine->Q (.bool c) s->wpAny (model prog w) A (richCompare .Lt u v) Q E s
 | n,.int a,y,c,A,s,u,v,Q,hn,p,q,e,hu,k=>by
  simp only [KAt] at p;obtain ⟨t,rfl⟩:=p
  cases y with
  | int b=>
   simp only [KAt] at q;obtain ⟨t',rfl⟩:=q;simp only [D.lt,Option.some.injEq] at e;subst e;exact P.lt_int k
  | _=>simp [D.lt] at e
 | n,.str a,y,c,A,s,u,v,Q,hn,p,q,e,hu,k=>by
  simp only [KAt] at p;obtain ⟨t,rfl⟩:=p
  cases y with
  | str b=>
   simp only [KAt] at q;obtain ⟨t',rfl⟩:=q;simp only [D.lt,Option.some.injEq,zh9] at e;subst e;exact P.lt_str k
  | _=>simp [D.lt] at e
 | 0,.tup a,y,c,A,s,u,v,Q,hn,p,q,e,hu,k=>by simp only [D.dep] at hn;omega
 | n + 1,.tup a,y,c,A,s,u,v,Q,hn,p,q,e,hu,k=>by
  simp only [KAt] at p;obtain ⟨l,its,rfl,t,r⟩:=p
  cases y with
  | tup b=>
   simp only [KAt] at q;obtain ⟨l',its',rfl,t',r'⟩:=q;simp only [D.lt] at e;have T:=zaG t;have T':=zaG t';obtain ⟨o,ho,_,m,hd⟩:=t;obtain ⟨o',ho',_,m',hd'⟩:=t'
   have hdep:D.deps a<=n:=by simp only [D.dep] at hn;omega
   refine wpAny_richCompare_same_room T T' F.slot_tuple_lt (wpAny_call_entry F.slot_tuple_lt T F.entry_tuple_lt ?_ (F.args_tuple_lt_2 _ _)) (by omega);show wpAny _ A.in1 (isInstance (.ref l') (.type "tuple") >>= _) _ _ _;refine wpAny_bind (wpAny_isInstance T' isSubtype_tuple_tuple ?_);simp only [Bool.not_true,Bool.false_eq_true,if_false];refine wpAny_bind (wpAny_tupleItemsOf ho hd (wpAny_bind (wpAny_tupleItemsOf ho' hd' (wpAny_bind ?_))));refine wpAny_forIn_list _ (λrest r s1=>r.1=none/\s1=s/\∃ xs ys us vs,rest=List.zip us vs/\KAts s.heap xs us/\KAts s.heap ys vs/\D.deps xs<=n/\D.lts xs ys=some c/\decide (us.length<vs.length)=decide (its.size<its'.size)) _ ?_ ?_ _ _ ⟨rfl,rfl,a,b,_,_,rfl,r,r',hdep,e,by simp⟩
   ·rintro ⟨p,q⟩ rest r s1 ⟨hr,rfl,xs,ys,us,vs,hz,r1,r2,hd1,e1,hl⟩
    cases xs with
    | nil=>simp only [KAts] at r1;subst r1;cases hz
    | cons x xs=>
     cases ys with
     | nil=>simp only [KAts] at r2;subst r2;rw [List.zip_nil_right] at hz;cases hz
     | cons y ys=>
      simp only [KAts] at r1 r2;obtain ⟨u1,us1,rfl,k1,k2⟩:=r1;obtain ⟨v1,vs1,rfl,k3,k4⟩:=r2;simp only [List.zip_cons_cons,List.cons.injEq,Prod.mk.injEq] at hz;obtain ⟨⟨rfl,rfl⟩,rfl⟩:=hz;simp only [D.deps] at hd1;simp only [D.lts] at e1
      refine wpAny_bind (kEq n x y A.in1 _ _ (by omega) k1 k3 (by show A.units+1+n<cLine;omega) prog w _ _ ?_)
      cases hs:x.same y with
      | true=>
       rw [hs] at e1;simp only [Bool.not_true,Bool.false_eq_true,if_false];exact wpAny_pure ⟨rfl,rfl,xs,ys,us1,vs1,rfl,k2,k4,by omega,by simpa using e1,by simpa using hl⟩
      | false=>
       rw [hs] at e1;simp only [Bool.not_false,if_true]
       refine wpAny_bind (wpAny_rule (wpAny_bind (kLt n x y c A.in1 _ _ _ _ (by omega) k1 k3 (by simpa using e1) (by show A.units+1+n<cLine;omega) ?_)))
       exact wpAny_bind (wpAny_pure (wpAny_pure (wpAny_pure ⟨_,rfl,(λx=>nomatch x),k⟩)))
   ·rintro ⟨r1,r2⟩ s1 ⟨hr,rfl,xs,ys,us,vs,hz,k1,k2,hd1,e1,hl⟩
    simp only at hr;subst hr
    have ec:decide (its.size<its'.size)=c:=by
     rw [<-hl];have l1:=k1.length;have l2:=k2.length;have l3:=congrArg List.length hz;simp only [List.length_zip,List.length_nil] at l3
     cases xs with
     | nil=>
      cases ys with
      | nil=>
       simp only [D.lts,Option.some.injEq] at e1;simp only [List.length_nil] at l1 l2
       subst e1;exact decide_eq_false (by omega)
      | cons y ys=>
       simp only [D.lts,Option.some.injEq] at e1;simp only [List.length_nil,List.length_cons] at l1 l2
       subst e1;exact decide_eq_true (by omega)
     | cons x xs=>
      cases ys with
      | nil=>
       simp only [D.lts,Option.some.injEq] at e1;simp only [List.length_nil,List.length_cons] at l1 l2
       subst e1;exact decide_eq_false (by omega)
      | cons y ys=>simp only [List.length_cons] at l1 l2;omega
    refine wpAny_pure ⟨_,rfl,(λx=>nomatch x),?_⟩;rw [<-ec] at k;exact k
  | _=>simp [D.lt] at e
 | _,.non,_,_,_,_,_,_,_,_,p,_,_,_,_=>by simp only [KAt] at p
 | _,.bl _,_,_,_,_,_,_,_,_,p,_,_,_,_=>by simp only [KAt] at p
 | _,.lst _,_,_,_,_,_,_,_,_,p,_,_,_,_=>by simp only [KAt] at p
theorem zpP {b fin c:Bool} (hu:A.units+n<cLine):∀ (xs ys:List D) (us vs:List Value) (i:Nat),KAts s.heap xs us->KAts s.heap ys vs->D.deps xs<=n->D.lts xs ys=some c->fin=decide (us.length<vs.length) →
  (b=true->i=0->∀ x r,xs=x::r->∃ z,x=.str z)->Q c s->KatLex prog w A b fin Q (us.zip vs) i s
 | [],[],us,vs,i,r1,r2,hd,e,hf,hb,k=>by
  simp only [KAts] at r1 r2;subst r1 r2;simp only [D.lts,Option.some.injEq] at e;subst e;subst hf;exact kat_nil (by simpa using k)
 | [],y::ys,us,vs,i,r1,r2,hd,e,hf,hb,k=>by
  simp only [KAts] at r1 r2;obtain ⟨_,_,rfl,_,_⟩:=r2;subst r1;simp only [D.lts,Option.some.injEq] at e;subst e;subst hf;exact kat_nil (by simpa using k)
 | x::xs,[],us,vs,i,r1,r2,hd,e,hf,hb,k=>by
  simp only [KAts] at r1 r2;obtain ⟨_,_,rfl,_,_⟩:=r1;subst r2;simp only [D.lts,Option.some.injEq] at e;subst e;subst hf;rw [List.zip_nil_right];exact kat_nil (by simpa using k)
 | x :: xs,y::ys,us,vs,i,r1,r2,hd,e,hf,hb,k=>by
  simp only [KAts] at r1 r2;obtain ⟨u,us,rfl,k1,k2⟩:=r1;obtain ⟨v,vs,rfl,k3,k4⟩:=r2;simp only [D.deps] at hd;simp only [D.lts] at e;rw [List.zip_cons_cons];refine kat_cons (kEq n x y A _ _ (by omega) k1 k3 hu prog w _ _ ?_)
  cases hs:x.same y with
  | true=>
   rw [hs] at e;exact kat_yes (zpP hu xs ys us vs (i+1) k2 k4 (by omega) (by simpa using e) (by simpa using hf) (λ_ h=>by omega) k)
  | false=>
   rw [hs] at e
   replace e:D.lt x y=some c:=by simpa using e
   refine kat_no ?_
   by_cases hbi:b=true/\i=0
   ·obtain ⟨rfl,rfl⟩:=hbi
    obtain ⟨z,rfl⟩:=hb rfl rfl x xs rfl
    cases y with
    | str z'=>
     simp only [KAt] at k1 k3;obtain ⟨t,rfl⟩:=k1;obtain ⟨t',rfl⟩:=k3;simp only [D.lt,Option.some.injEq,zh9] at e;subst e;exact oneLt_str k
    | _=>simp [D.lt] at e
   ·have e0:(b&&i==0)=false:=by
     cases b with
     | false=>rfl
     | true=>simp only [Bool.true_and,beq_eq_false_iff_ne];exact λh=>hbi ⟨rfl,h⟩
    rw [e0];exact kat_one _ _ (kLt n x y c A _ _ _ _ (by omega) k1 k3 e hu k)
end
noncomputable def runK {α:Type} (f:Nat->Nat->Bool):KasT α->α
 | .ret a=>a
 | .ask i j k=>runK f (k (f i j))
noncomputable def inK {α:Type} (n:Nat) (f:Nat->Nat->Bool):KasT α->Bool
 | .ret _=>true
 | .ask i j k=>decide (i<n)&&decide (j<n)&&inK n f (k (f i j))
theorem zng {α:Type} {n:Nat} {cmp:Nat->Nat->(Bool->Shared->Prop)->Shared->Prop} {f:Nat->Nat->Bool} {s:Shared} {Q:α->Shared->Prop} (h:∀ i j,i<n->j<n->∀ C:Bool->Shared->Prop,C (f i j) s->cmp i j C s):∀ t:KasT α,inK n f t=true->Q (runK f t) s->t.kasWp cmp Q s
 | .ret a,_,q=>q
 | .ask i j k,g,q=>by
  simp only [inK,Bool.and_eq_true,decide_eq_true_eq] at g;exact h i j g.1.1 g.1.2 _ (zng h (k (f i j)) g.2 q)
noncomputable def insN (f:Nat->Nat->Bool) (x:Nat):List Nat->List Nat
 | []=>[x]
 | y::r=>if f y x then y::insN f x r else x::y::r
noncomputable def zcX (f:Nat->Nat->Bool):List Nat->List Nat
 | []=>[]
 | x::r=>insN f x (zcX f r)
theorem zh7 (h:∀ i j,f i j=ltT (g i) (g j)) (x:Nat):∀ l,insD (g x) (l.map g)=(insN f x l).map g
 | []=>rfl
 | y::r=>by
  simp only [List.map_cons,insD,insN,h]
  split
  ·rw [List.map_cons,zh7 h x r]
  ·rfl
theorem zet (h:∀ i j,f i j=ltT (g i) (g j)):∀ l,zc7 (l.map g)=(zcX f l).map g
 | []=>rfl
 | x::r=>by simp only [List.map_cons,zc7,zcX,zet h r,zh7 h]
noncomputable def fR (rs:List Nat) (i j:Nat):Bool:=decide (i<rs.length)&&decide (j<rs.length)&&decide (rs.getD i 0<rs.getD j 0)
noncomputable def ziF (n:Nat) (rs:List Nat):Bool:=inK n (fR rs) (kas_sort n)&&((runK (fR rs) (kas_sort n)).toList==zcX (fR rs) (List.range n))
theorem zsS:∀ a b:Fin 5,a≠b->ziF 2 [a,b]=true:=by decide +kernel
theorem zr0:∀ a b c:Fin 5,a≠b->a≠c->b≠c->ziF 3 [a,b,c]=true:=by decide +kernel
set_option synthInstance.maxSize 4000 in
theorem zsc:∀ a b c d:Fin 5,a≠b->a≠c->a≠d->b≠c->b≠d->c≠d->ziF 4 [a,b,c,d]=true:=by decide +kernel
set_option synthInstance.maxSize 8000 in
set_option synthInstance.maxHeartbeats 400000 in
theorem zrX:∀ a b c d e:Fin 5,a≠b->a≠c->a≠d->a≠e->b≠c->b≠d->b≠e->c≠d->c≠e->d≠e->ziF 5 [a,b,c,d,e]=true:=by decide +kernel
theorem zhU:∀ {l:List Nat},i∈insN f x l->i=x\/i∈l
 | [],h=>by simp only [insN,List.mem_singleton] at h;exact .inl h
 | y::r,h=>by
  simp only [insN] at h
  split at h
  ·rcases List.mem_cons.mp h with e | h
   ·exact .inr (e▸List.mem_cons_self)
   ·exact (zhU h).imp id (List.mem_cons_of_mem _)
  ·exact List.mem_cons.mp h
theorem zeE:∀ {l:List Nat},i∈zcX f l->i∈l
 | [],h=>h
 | x::r,h=>by
  rcases zhU h with e | h
  ·exact e▸List.mem_cons_self
  ·exact List.mem_cons_of_mem _ (zeE h)
theorem zhP:∀ l:List Nat,(insN f x l).length=l.length+1
 | []=>rfl
 | y::r=>by
  simp only [insN]
  split
  ·rw [List.length_cons,zhP r,List.length_cons]
  ·rfl
theorem zev:∀ l:List Nat,(zcX f l).length=l.length
 | []=>rfl
 | x::r=>by rw [zcX,zhP,zev r,List.length_cons]
theorem zoF (x:D):ltT x .non=false:=by cases x<;>simp [ltT,D.lt]
theorem zh8 {xs:List D} (h:¬ i<xs.length):xs.getD i .non=.non:=by simp [Nat.le_of_not_lt h]
theorem zbn {xs:List D} (h:i<xs.length):xs.getD i .non=xs[i]:=by simp [h]
structure Srt (xs ys:List D) (p:List Nat):Prop where
 len:xs.length<=5
 key:∀ x∈xs,zaq x=true
 fst:(∀ x∈xs,fstK x=1)\/∀ x∈xs,fstK x=2
 lt:∀ i j,i<xs.length->j<xs.length->D.lt (xs.getD i .non) (xs.getD j .non)=some (fR (xs.map (rnk xs)) i j)
 mem:∀ i∈p,i<xs.length
 plen:p.length=xs.length
 out:ys=p.map λi=>xs.getD i .non
 few:xs.length<2->p=List.range xs.length
 run:2<=xs.length->inK xs.length (fR (xs.map (rnk xs))) (kas_sort xs.length)=true/\(runK (fR (xs.map (rnk xs))) (kas_sort xs.length)).toList=p
theorem zhH:∀ {xs:List D},apart xs=true->∀ i j (hi:i<j) (hj:j<xs.length),xs[i]'(by omega)≠xs[j]
 | [],_,i,j,_,hj=>by simp at hj
 | x::r,h,i,j,hi,hj=>by
  simp only [apart,Bool.and_eq_true,List.all_eq_true] at h
  match i,j,hi,hj with
  | 0,j+1,_,hj=>
   simp only [List.length_cons] at hj
   have:=h.1 (r[j]'(by omega)) (List.getElem_mem ..)
   intro e;simp only [List.getElem_cons_zero,List.getElem_cons_succ] at e;rw [<-e,D.same_refl] at this;cases this
  | i+1,j+1,hi,hj=>
   simp only [List.length_cons] at hj
   simpa using zhH h.2 i j (by omega) (by omega)
theorem zhJ {xs ys:List D} (h:zbN xs=some ys):∃ p,Srt xs ys p:=by
 unfold zbN at h
 split at h
 ·rename_i hc
  simp only [Bool.and_eq_true,Bool.or_eq_true,List.all_eq_true,decide_eq_true_eq,beq_iff_eq] at hc;obtain ⟨⟨⟨⟨h4,hk⟩,ha⟩,hr⟩,hf⟩:=hc;simp only [Option.some.injEq] at h;unfold rkOk at hr;simp only [List.all_eq_true,Bool.and_eq_true,beq_iff_eq] at hr
  have hlt:∀ i j (hi:i<xs.length) (hj:j<xs.length),D.lt xs[i] xs[j]=some (decide (rnk xs xs[i]<rnk xs xs[j])):=by
   intro i j hi hj;obtain ⟨h1,h2⟩:=hr xs[i] (List.getElem_mem ..) xs[j] (List.getElem_mem ..);obtain ⟨t,et⟩:=Option.isSome_iff_exists.mp h1;rw [et,<-h2];simp only [ltT,et]
  have hf2:∀ i j (hi:i<xs.length) (hj:j<xs.length),fR (xs.map (rnk xs)) i j=decide (rnk xs xs[i]<rnk xs xs[j]):=by
   intro i j hi hj;simp [fR,hi,hj]
  have feq:∀ i j,fR (xs.map (rnk xs)) i j=ltT (xs.getD i .non) (xs.getD j .non):=by
   intro i j
   by_cases hi:i<xs.length
   ·by_cases hj:j<xs.length
    ·rw [hf2 i j hi hj,zbn hi,zbn hj,ltT,hlt i j hi hj]
    ·rw [zh8 hj,zoF]
     simp [fR,hj]
   ·rw [zh8 hi]
    simp [fR,hi,ltT,D.lt]
  have ne:∀ i j (hi:i<j) (hj:j<xs.length),rnk xs (xs[i]'(by omega))≠rnk xs xs[j]:=by
   intro i j hi hj e;have e1:=hlt i j (by omega) hj;have e2:=hlt j i hj (by omega);rw [e,decide_eq_false (Nat.lt_irrefl _)] at e1 e2;exact zhH ha i j hi hj (zlC _ _ e1 e2)
  have le:∀ i (hi:i<xs.length),rnk xs xs[i]<5:=by
   intro i hi
   have h0:ltT xs[i] xs[i]=false:=by rw [ltT,hlt i i hi hi];exact decide_eq_false (Nat.lt_irrefl _)
   have:rnk xs xs[i]<xs.length:=Nat.lt_of_le_of_ne List.countP_le_length λz=>by
    have:=List.countP_eq_length.mp z xs[i] (List.getElem_mem ..)
    rw [h0] at this;cases this
   omega
  have ex:xs=(List.range xs.length).map λi=>xs.getD i .non:=by
   refine List.ext_getElem (by simp) λi h1 h2=>?_;simp [h1]
  refine ⟨zcX (fR (xs.map (rnk xs))) (List.range xs.length),h4,hk,hf,λi j hi hj=>?_,λi hi=>List.mem_range.mp (zeE hi),by rw [zev,List.length_range],?_,λh2=>?_,λh2=>?_⟩
  ·rw [zbn hi,zbn hj,hlt i j hi hj,hf2 i j hi hj]
  ·rw [<-h]
   conv=>lhs;rw [ex]
   exact zet feq _
  ·match xs,h2 with
   | [],_=>rfl
   | [x],_=>rfl
  ·have g:ziF xs.length (xs.map (rnk xs))=true:=by
    match xs,h2,h4,ne,le with
    | [x,y],_,_,ne,le=>exact zsS ⟨_,le 0 (by simp)⟩ ⟨_,le 1 (by simp)⟩ λe=>ne 0 1 (by omega) (by simp) (congrArg Fin.val e)
    | [x,y,z],_,_,ne,le=>exact zr0 ⟨_,le 0 (by simp)⟩ ⟨_,le 1 (by simp)⟩ ⟨_,le 2 (by simp)⟩ (λe=>ne 0 1 (by omega) (by simp) (congrArg Fin.val e)) (λe=>ne 0 2 (by omega) (by simp) (congrArg Fin.val e)) (λe=>ne 1 2 (by omega) (by simp) (congrArg Fin.val e))
    | [x,y,z,t],_,_,ne,le=>exact zsc ⟨_,le 0 (by simp)⟩ ⟨_,le 1 (by simp)⟩ ⟨_,le 2 (by simp)⟩ ⟨_,le 3 (by simp)⟩ (λe=>ne 0 1 (by omega) (by simp) (congrArg Fin.val e)) (λe=>ne 0 2 (by omega) (by simp) (congrArg Fin.val e)) (λe=>ne 0 3 (by omega) (by simp) (congrArg Fin.val e)) (λe=>ne 1 2 (by omega) (by simp) (congrArg Fin.val e)) (λe=>ne 1 3 (by omega) (by simp) (congrArg Fin.val e)) (λe=>ne 2 3 (by omega) (by simp) (congrArg Fin.val e))
    | [_],h2,_,_,_=>simp at h2
    | [],h2,_,_,_=>simp at h2
    | [x,y,z,t,u],_,_,ne,le=>exact zrX ⟨_,le 0 (by simp)⟩ ⟨_,le 1 (by simp)⟩ ⟨_,le 2 (by simp)⟩ ⟨_,le 3 (by simp)⟩ ⟨_,le 4 (by simp)⟩ (λe=>ne 0 1 (by omega) (by simp) (congrArg Fin.val e)) (λe=>ne 0 2 (by omega) (by simp) (congrArg Fin.val e)) (λe=>ne 0 3 (by omega) (by simp) (congrArg Fin.val e)) (λe=>ne 0 4 (by omega) (by simp) (congrArg Fin.val e)) (λe=>ne 1 2 (by omega) (by simp) (congrArg Fin.val e)) (λe=>ne 1 3 (by omega) (by simp) (congrArg Fin.val e)) (λe=>ne 1 4 (by omega) (by simp) (congrArg Fin.val e)) (λe=>ne 2 3 (by omega) (by simp) (congrArg Fin.val e)) (λe=>ne 2 4 (by omega) (by simp) (congrArg Fin.val e)) (λe=>ne 3 4 (by omega) (by simp) (congrArg Fin.val e))
    | _::_::_::_::_::_::_,_,h4,_,_=>simp at h4
   simp only [ziF,Bool.and_eq_true,beq_iff_eq] at g;exact g
 ·cases h
section
variable {prog:Program} {w:World} {A:Around} {E:Value->Shared->Prop} {s:Shared} {a:Addr} {vs:List Value} {xs ys:List D}
theorem KAts.getD {h:Heap} (k:KAts h xs vs) (hi:i<xs.length):KAt h (xs.getD i .non) (vs.getD i .none):=by
 obtain ⟨v,e,q⟩:=k.at i _ (List.getElem?_eq_getElem hi);rw [zbn hi]
 have:vs.getD i .none=v:=by rw [List.getD_eq_getElem?_getD,e];rfl
 rw [this];exact q
theorem zfh (hn:n=1\/n=2):∀ (xs:List D) (vs:List Value),KAts h xs vs->(∀ x∈xs,fstK x=n)->∃ fs,KatTups h vs fs/\fs.length=xs.length/\∀ v∈fs,if n=1 then ∃ z t,v=.str z t else ∃ b its,v=.ref b/\h.IsTuple b its
 | [],vs,k,_=>by
  simp only [KAts] at k;subst k;exact ⟨[],KatTups.nil,rfl,λv hv=>nomatch hv⟩
 | x :: xs,vs,k,hx=>by
  simp only [KAts] at k;obtain ⟨v,vs,rfl,k1,k2⟩:=k;obtain ⟨fs,t,l,hf⟩:=zfh hn xs vs k2 λy hy=>hx y (List.mem_cons_of_mem _ hy);have h1:=hx x List.mem_cons_self
  cases x with
  | tup ds=>
   simp only [KAt] at k1;obtain ⟨b,its,rfl,⟨o,ho,hc,m,hd⟩,r⟩:=k1
   cases ds with
   | nil=>simp [fstK] at h1;omega
   | cons d ds=>
    simp only [KAts] at r;obtain ⟨u,us,e,r1,r2⟩:=r
    refine ⟨u::fs,KatTups.cons ho hc hd (by rw [<-Array.getElem?_toList,e];rfl) t,by simp [l],λv hv=>?_⟩
    rcases List.mem_cons.mp hv with rfl | hv
    ·cases d with
     | str z=>
      simp [fstK] at h1;rw [if_pos h1.symm];simp only [KAt] at r1;exact ⟨_,r1⟩
     | tup z=>
      simp [fstK] at h1;rw [if_neg (by omega)];simp only [KAt] at r1;obtain ⟨b,its,e,t,_⟩:=r1;exact ⟨b,its,e,t⟩
     | _=>simp [fstK] at h1;omega
    ·exact hf v hv
  | _=>simp [fstK] at h1;omega
theorem zjg {Q:SortKind->Shared->Prop} (k:KAts s.heap xs vs) (h2:2<=xs.length) (hf:(∀ x∈xs,fstK x=1)\/∀ x∈xs,fstK x=2) (q1:(∀ x∈xs,fstK x=1)->Q (tuples' true) s) (q2:Q (tuples' false) s):wpAny (model prog w) A (keyKind' vs.toArray) Q E s:=by
 rcases hf with hf | hf
 ·obtain ⟨fs,t,l,hv⟩:=zfh (.inl rfl) xs vs k hf
  exact kat_kind (T:=.type "str") t (by omega) (λv hm=>by obtain ⟨z,t,rfl⟩:=hv v hm;exact .now) (by decide) (q1 hf)
 ·obtain ⟨fs,t,l,hv⟩:=zfh (.inr rfl) xs vs k hf
  exact kat_kind (T:=.type "tuple") t (by omega) (λv hm=>by
   obtain ⟨b,its,rfl,o,ho,hc,_⟩:=hv v hm;rw [<-hc]
   exact (Looks.ld ho).andThen .now) (by decide) q2
theorem zo1 {Q:Bool->Shared->Prop} (hu:A.units+8<cLine) (k1:KAt s.heap x u) (k2:KAt s.heap y v) (hx:zaq x=true) (hy:zaq y=true) (hb:b=true->fstK x=1) (e:D.lt x y=some c) (q:Q c s):wpAny (model prog w) A (keyLt' (tuples' b) u v) Q E s:=by
 cases x with
 | tup xs=>
  cases y with
  | tup ys=>
   simp only [KAt] at k1 k2;obtain ⟨p,i1,rfl,⟨o1,g1,_,n1,d1⟩,r1⟩:=k1;obtain ⟨p2,i2,rfl,⟨o2,g2,_,n2,d2⟩,r2⟩:=k2;simp only [zaq,Bool.and_eq_true,decide_eq_true_eq] at hx;refine kat_lt g1 d1 g2 d2 (zpP (n:=8) hu xs ys _ _ 0 r1 r2 (by omega) (by simpa [D.lt] using e) (by simp) (λhb' _ z r ez=>?_) q)
   have:=hb hb'
   subst ez
   cases z with
   | str z=>exact ⟨z,rfl⟩
   | _=>simp [fstK] at this
  | _=>cases hy
 | _=>cases hx
theorem zeb {n0:Nat} (ho:s.heap.get? a=some (seqObj "list" vs.toArray n0)) (hk:KAts s.heap xs vs) (S:Srt xs ys p) (hu:A.units+8<cLine)
  (q:∀ h' c,(∀ b o,b≠a->s.heap.get? b=some o->h'.get? b=some o)->h'.get? a=some (seqObj "list" (List.toArray (p.map λi=>vs.getD i .none)) c)->P (.done (.ret .none)) { s with heap:=h' }) :
  wpAny (model prog w) A (Builtin.«list.sort» ⟨[.ref a],[]⟩) P E s:=by
 have hl:=hk.length;have h4:=S.len;have ha:a<s.heap.objs.size:=Heap.lt_size ho;obtain ⟨e1,ho1⟩:∃ e1,(s.heap.update a (Obj.mapSeq λ_=>(#[]:Array Value))).get? a=some (seqObj "list" #[] e1):=⟨_,get?_update_seq ho λ_=>#[]⟩
 have kp:∀ b o,b≠a->s.heap.get? b=some o->(((s.heap.update a (Obj.mapSeq λ_=>(#[]:Array Value))).push (seqObj "tuple" vs.toArray 0)).push (seqObj "list" #[] 0)).get? b=some o:=λb o hb e=>
  Heap.get?_push_of_some _ (Heap.get?_push_of_some _ ((Heap.get?_update_other _ _ (Ne.symm hb)).trans e))
 have ho3:(((s.heap.update a (Obj.mapSeq λ_=>(#[]:Array Value))).push (seqObj "tuple" vs.toArray 0)).push (seqObj "list" #[] 0)).get? a=some (seqObj "list" #[] e1):=Heap.get?_push_of_some _ (Heap.get?_push_of_some _ ho1);rw [list_sort_plain];refine wpAny_bind (listItems_at ho rfl ?_)
 refine wpAny_bind (listUpdate_at ho rfl ?_ (by rw [List.size_toArray,sizeLine_eq];omega) (Nat.zero_le _))
 refine wpAny_bind (seqEpoch_at ho1 rfl ?_)
 refine wpAny_bind (wpAny_newTuple ?_ (by show vs.length<=_;rw [sizeLine_eq];omega))
 refine wpAny_bind (wpAny_newList ?_ (Nat.zero_le _));refine wpAny_holding ?_;show wpAny (model prog w) A _ P E { s with heap:=((s.heap.update a (Obj.mapSeq λ_=>(#[]:Array Value))).push (seqObj "tuple" vs.toArray 0)).push (seqObj "list" #[] 0) };generalize ((s.heap.update a (Obj.mapSeq λ_=>(#[]:Array Value))).push (seqObj "tuple" vs.toArray 0)).push (seqObj "list" #[] 0)=h3 at kp ho3 ⊢
 have hk3:KAts h3 xs vs:=KAts.keep (λb its t=>by
  obtain ⟨o,e,c,n,d⟩:=t;refine ⟨o,kp b o (λz=>?_) e,c,n,d⟩;subst z
  rw [ho] at e;cases e
  injection c with c'
  exact absurd c' (by decide)) xs vs hk
 have fin:∀ st':SortSt,(arrOf st').map (·.2)=List.toArray (p.map λi=>vs.getD i .none)->failedOf st'=none->wpAny (model prog w) A (do
   let touched:=(<-seqEpoch a) != e1
   Builtin.List.listUpdate (.ref a) λ_=>(arrOf st').map (·.2)
   if let some e:=failedOf st' then rule "list.sort.comparison-raised";throw e
   if touched then rule "list.sort.modified";raiseError "ValueError" "list modified during sort"
   ret .none) P E { s with heap:=h3 }:=by
  intro st' hout hf
  have hz:p.length<=5:=by rw [S.plen];exact h4
  rw [hout];refine wpAny_bind (seqEpoch_at ho3 rfl ?_)
  refine wpAny_bind (listUpdate_at ho3 rfl ?_ (Nat.zero_le _) (by show (List.toArray (p.map λi=>vs.getD i Value.none)).size<=sizeLine+1;rw [List.size_toArray,List.length_map,sizeLine_eq];omega))
  rw [hf];simp only [bne_self_eq_false,Bool.false_eq_true,if_false];refine wpAny_pure (q _ _ (λb o hb e=>(Heap.get?_update_other _ _ (Ne.symm hb)).trans (kp b o hb e)) (get?_update_seq ho3 λ_=>List.toArray (p.map λi=>vs.getD i .none)))
 dsimp only
 by_cases h2:xs.length<2
 ·have hn2:vs.toArray.size<2:=by rw [List.size_toArray];omega
  rw [if_pos hn2,if_pos hn2];refine wpAny_bind (wpAny_pure ?_);rw [StateT.run_pure];refine wpAny_bind (wpAny_pure (fin _ ?_ rfl));show (vs.toArray.zip vs.toArray).map (·.2)=_;rw [S.few h2]
  match xs,vs,hl,h2 with
  | [],[],_,_=>simp
  | [x],[v],_,_=>simp
  | [],_::_,hl,_=>simp at hl
  | [x],[],hl,_=>simp at hl
  | [x],_::_::_,hl,_=>simp at hl
 ·have hn2:¬ vs.toArray.size<2:=by rw [List.size_toArray];omega
  rw [if_neg hn2,if_neg hn2];obtain ⟨hin,hrun⟩:=S.run (by omega)
  have go:∀ b,(b=true->∀ x∈xs,fstK x=1)->wpAny (model prog w) A ((sortRuns').run (SortSt.mk' (tuples' b) (vs.toArray.zip vs.toArray) #[] 7 none)) (λr s'=>s'={ s with heap:=h3 }/\(arrOf r.2).map (·.2)=List.toArray (p.map λi=>vs.getD i .none)/\failedOf r.2=none) E { s with heap:=h3 }:=by
   intro b hb;refine kat_run (Q:=λst' s'=>s'={ s with heap:=h3 }/\(arrOf st').map (·.2)=List.toArray (p.map λi=>vs.getD i .none)/\failedOf st'=none) (G:=λr s'=>s'={ s with heap:=h3 }/\r.toList=p) rfl (by omega) (by omega) (λr st' s' g1 g2 g3 g4=>⟨g4.1,by rw [kat_snds rfl g2,g4.2],g3⟩) ?_;rw [<-hl];refine zng (n:=xs.length) (f:=fR (xs.map (rnk xs))) (λi j hi hj C hC=>?_) _ hin ⟨rfl,hrun⟩;refine zo1 hu (hk3.getD hi) (hk3.getD hj) (S.key _ ?_) (S.key _ ?_) (λhb'=>hb hb' _ ?_) (S.lt i j hi hj) hC
   all_goals (first | (rw [zbn hi];exact List.getElem_mem ..) | (rw [zbn hj];exact List.getElem_mem ..))
  have rest:∀ b,(b=true->∀ x∈xs,fstK x=1)->wpAny (model prog w) A (do
    let ((),s)<-(sortRuns').run (SortSt.mk' (tuples' b) (vs.toArray.zip vs.toArray) #[] 7 none)
    let sorted:=(arrOf s).map (·.2)
    let touched:=(<-seqEpoch a) != e1
    Builtin.List.listUpdate (.ref a) λ_=>sorted
    if let some e:=failedOf s then rule "list.sort.comparison-raised";throw e
    if touched then rule "list.sort.modified";raiseError "ValueError" "list modified during sort"
    ret .none) P E { s with heap:=h3 }:=by
   intro b hb;refine wpAny_bind (wpAny_mono (go b hb) ?_ λ_ _ x=>x)
   rintro ⟨⟨⟩,st'⟩ s' ⟨rfl,hout,hf⟩
   exact fin st' hout hf
  refine wpAny_bind (zjg (s:={ s with heap:=h3 }) hk3 (by omega) S.fst (λh=>rest true λ_=>h) (rest false (by intro z;cases z)))
end
end IT
namespace IT
open PySem
section
variable {prog:Program} {w:World} {A:Around} {E:Value->Shared->Prop} {s:Shared} {it d:Addr} {od:Obj} {es:Array DictEntry} {ep i:Nat}
theorem zkx {Q:Value->Shared->Prop} (sys:(d==sysModules)=false) (g1:s.heap.get? d=some od) (g2:od.ExactDict) (g3:od.data=.dict es ep)
  (q:Q (.ref s.heap.objs.size) { s with heap:=s.heap.push { cls:=.type "dict_keyiterator",data:=.fields #[.ref d,.int 0 0,.int es.size 0,.int ep 0] } }):wpAny (model prog w) A (pyIter (.ref d)) Q E s:=by
 have T:s.TypeIs (.ref d) "dict":=⟨od,g1,g2.1⟩
 refine wpAny_pyIter_slot T F.slot_dict_iter (wpAny_call_entry F.slot_dict_iter T F.entry_dict_iter ?_ (F.args_dict_iter_1 _));unfold Builtin.«dict.__iter__»
 refine wpAny_bind ?_;unfold Builtin.Dict.dictSlotNone
 refine wpAny_bind (wpAny_notOrdered_dict T ?_);show wpAny _ _ (pure (Value.ref d)) _ _ _;refine wpAny_pure ?_;show wpAny _ _ (Builtin.Dict.showsAll d >>= _) _ _ _;unfold Builtin.Dict.showsAll
 rw [if_neg (by rw [sys];exact Bool.false_ne_true)]
 refine wpAny_bind (wpAny_pure (wpAny_bind (wpAny_dictEntries g1 g3 (wpAny_bind (wpAny_dictEpoch g1 g3 ?_)))));refine wpAny_bind (wpAny_newObj_type (wpAny_pure ⟨_,rfl,"dict_keyiterator",_,⟨_,Heap.get?_push_size _ rfl,rfl⟩,F.slot_dict_keyiterator_next.lookup,?_⟩))
 simpa [rawInt] using q
theorem zlx {e:DictEntry} {Q:Option Value->Shared->Prop} (hit:s.heap.IsKeyIter it d i es.size ep) (g1:s.heap.get? d=some od) (g3:od.data=.dict es ep) (hx:es[i]?=some e)
  (q:∀ h',h'.IsKeyIter it d (i+1) es.size ep->Heap.SameBut it s.heap h'->Q (some e.key) { s with heap:=h' }):wpAny (model prog w) A (pyNext (.ref it)) Q E s:=by
 obtain ⟨o,ho,hc,hd⟩:=id hit;unfold pyNext;refine wpAny_bind (wpAny_attempt (wpAny_callSpecial?_slot (name:=Str.ofString "__next__") hit.typeIs F.slot_dict_keyiterator_next (wpAny_call_entry F.slot_dict_keyiterator_next hit.typeIs F.entry_dict_keyiterator_next ?_ (F.args_dict_keyiterator_next_1 _))));refine wpAny_bind (wpAny_pure (wpAny_bind (wpAny_bind ?_)))
 first | refine wpAny_bind (wpAny_typeNameOfWhole_keyiter hit.typeIs (wpAny_pure ?_)) | refine wpAny_bind (wpAny_typeNameOf_keyiter hit.typeIs (wpAny_pure ?_));skip
 refine wpAny_bind (wpAny_fieldsOf ho hd ?_)
 have own:Builtin.Dict_items.ownsTuple "dict_keyiterator"=false:=by decide
 simp only [own,Bool.false_eq_true,if_false];show wpAny _ _ (if (Value.ref d==Value.none)=true then _ else _) _ _ _
 rw [if_neg (show ¬ ((Value.ref d==Value.none)=true) from Bool.false_ne_true)];refine wpAny_bind (wpAny_pure (wpAny_bind (wpAny_dictEntries g1 g3 ?_)))
 rw [if_neg (by simp)];refine wpAny_bind (wpAny_pure (wpAny_bind (wpAny_dictEpoch g1 g3 ?_)))
 rw [if_neg (by simp)];refine wpAny_pure ?_
 have lt:i<es.size:=(Array.getElem?_eq_some_iff.mp hx).1;have ee:es[i]=e:=(Array.getElem?_eq_some_iff.mp hx).2;simp only [show ¬ ((i:Int)<0) from by omega,if_false,Int.toNat_natCast,hx]
 refine wpAny_bind ?_;first | refine wpAny_bind (wpAny_typeNameOfWhole_keyiter hit.typeIs (wpAny_pure ?_)) | refine wpAny_bind (wpAny_typeNameOf_keyiter hit.typeIs (wpAny_pure ?_))
 refine wpAny_bind (wpAny_isOneOf_keyiter hit.typeIs ?_);show wpAny _ _ (setField (.ref it) 1 (rawInt ((i:Int)+1)) >>= _) _ _ _;refine wpAny_bind (wpAny_setField ho hd (by simp) ?_)
 have hit2:(s.heap.update it (Obj.mapFields (·.setIfInBounds 1 (rawInt ((i:Int)+1))))).IsKeyIter it d (i+1) es.size ep:=
  ⟨_,Heap.get?_update_self _ ho (Obj.isFreed_of_fields (Obj.data_mapFields hd _)),(Obj.cls_mapFields ..).trans hc,by rw [Obj.data_mapFields hd];simp [rawInt]⟩
 refine wpAny_bind (wpAny_holding ?_)
 refine wpAny_bind (wpAny_isOneOf_keyiter (s:={ s with heap:=s.heap.update it (Obj.mapFields (·.setIfInBounds 1 (rawInt ((i:Int)+1)))) }) hit2.typeIs ?_);show wpAny _ _ (pure e.key) _ _ _
 exact wpAny_pure (wpAny_pure ⟨_,rfl,wpAny_pure (q _ hit2 (Heap.SameBut.update ..))⟩)
theorem zmx {Q:Option Value->Shared->Prop} (hh:A.handled=none) (hit:s.heap.IsKeyIter it d i es.size ep) (g1:s.heap.get? d=some od) (g3:od.data=.dict es ep) (hx:es.size<=i)
  (q:∀ h',Heap.ExtBut it s.heap h'->Q none { s with heap:=h' }):wpAny (model prog w) A (pyNext (.ref it)) Q E s:=by
 obtain ⟨o,ho,hc,hd⟩:=id hit;unfold pyNext;refine wpAny_bind (wpAny_attempt (wpAny_callSpecial?_slot (name:=Str.ofString "__next__") hit.typeIs F.slot_dict_keyiterator_next (wpAny_call_entry F.slot_dict_keyiterator_next hit.typeIs F.entry_dict_keyiterator_next ?_ (F.args_dict_keyiterator_next_1 _))));refine wpAny_bind (wpAny_pure (wpAny_bind (wpAny_bind ?_)))
 first | refine wpAny_bind (wpAny_typeNameOfWhole_keyiter hit.typeIs (wpAny_pure ?_)) | refine wpAny_bind (wpAny_typeNameOf_keyiter hit.typeIs (wpAny_pure ?_));skip
 refine wpAny_bind (wpAny_fieldsOf ho hd ?_)
 have own:Builtin.Dict_items.ownsTuple "dict_keyiterator"=false:=by decide
 simp only [own,Bool.false_eq_true,if_false];show wpAny _ _ (if (Value.ref d==Value.none)=true then _ else _) _ _ _
 rw [if_neg (show ¬ ((Value.ref d==Value.none)=true) from Bool.false_ne_true)];refine wpAny_bind (wpAny_pure (wpAny_bind (wpAny_dictEntries g1 g3 ?_)))
 rw [if_neg (by simp)];refine wpAny_bind (wpAny_pure (wpAny_bind (wpAny_dictEpoch g1 g3 ?_)))
 rw [if_neg (by simp)];refine wpAny_pure ?_
 simp only [show ¬ ((i:Int)<0) from by omega,if_false,Int.toNat_natCast,Array.getElem?_eq_none hx]
 refine wpAny_bind ?_;first | refine wpAny_bind (wpAny_typeNameOfWhole_keyiter hit.typeIs (wpAny_pure ?_)) | refine wpAny_bind (wpAny_typeNameOf_keyiter hit.typeIs (wpAny_pure ?_))
 show wpAny _ _ (setField (.ref it) 0 .none >>= _) _ _ _;refine wpAny_bind (wpAny_setField ho hd (by simp) ?_);show wpAny _ _ (newExc (.type "StopIteration") [] >>= _) _ _ _
 refine wpAny_bind ?_;simp only [newExc,newTuple]
 refine wpAny_bind (wpAny_newObj_type ?_ (by size_fits))
 refine wpAny_bind (m:=firstArgMember _ _) (wpAny_of_eq (a:=Value.none) (by first | rfl | (simp only [firstArgMember];rfl)) ?_);refine wpAny_newObj_type ?_ (by size_fits)
 simp only [raiseNew];refine wpAny_bind (wpAny_handled ?_)
 rw [show A.in1.handled=none from hh];refine wpAny_bind (wpAny_pure (wpAny_throw ?_))
 refine wpAny_bind (wpAny_isInstance (T:="StopIteration") (b:=true) ⟨_,Heap.get?_push_size _ rfl,rfl⟩ isSubtype_stop ?_);exact wpAny_pure (q _ (((Heap.SameBut.update ..).extBut.push _).push _))
end
end IT
namespace IT
open PySem
section
variable {prog:Program} {w:World} {A:Around} {E:Value->Shared->Prop} {s:Shared}
end
end IT
namespace IT
open PySem PyProof.Rows
noncomputable abbrev itO (f0 f1:Value) (d:Addr) (i n ep:Nat) (k v:Value):Obj:={ cls:=.type "dict_itemiterator",dict:=none,data:=.fields #[f0,f1,.ref d,.int i 0,.int n 0,.int ep 0,k,v],slots:=#[] }
noncomputable def IsIt (h:Heap) (it d:Addr) (i n ep:Nat):Prop:=∃ f0 f1 k v,(f0=.none\/∃ a:Nat,f0=rawInt a)/\h.get? it=some (itO f0 f1 d i n ep k v)
noncomputable abbrev tupO (k v:Value):Obj:={ cls:=.type "tuple",data:=.seq #[k,v] }
section
variable {prog:Program} {w:World} {A:Around} {E:Value->Shared->Prop} {s:Shared} {it d:Addr} {od:Obj} {es:Array DictEntry} {ep i:Nat}
theorem zmY {a:Addr} {Q:Option Obj->Shared->Prop} (q:Q (s.heap.get? a) s):wpAny (model prog w) A (loadIfAlive a) Q E s:=by
 intro p _ p1;simp only [loadIfAlive,Sem.wp_loadIfAlive,Sem.wp_pure];exact q
theorem ziI {v:Addr} {Q:Value->Shared->Prop} (hv:s.heap.IsItemsView v d) (g1:s.heap.get? d=some od) (g3:od.data=.dict es ep)
  (q:Q (.ref s.heap.objs.size) { s with heap:=s.heap.push (itO .none (.bool false) d 0 es.size ep .none .none) }):wpAny (model prog w) A (pyIter (.ref v)) Q E s:=by
 obtain ⟨ov,hov,hcv,hdv⟩:=id hv
 refine wpAny_pyIter_slot hv.typeIs F.slot_dict_items_iter (wpAny_call_entry F.slot_dict_items_iter hv.typeIs F.entry_dict_items_iter ?_ (F.args_dict_items_iter_1 _));unfold Builtin.«dict_items.__iter__»
 refine wpAny_bind (wpAny_pure (wpAny_bind ?_));unfold Builtin.Dict_items.dictOf
 refine wpAny_bind (wpAny_field hov hdv (x:=.ref d) rfl (wpAny_pure (wpAny_bind ?_)));unfold Builtin.Dict_items.newIterator
 refine wpAny_bind (wpAny_dictEntries g1 g3 (wpAny_bind (wpAny_dictEpoch g1 g3 ?_)))
 have own:Builtin.Dict_items.ownsTuple "dict_itemiterator"=true:=by decide
 simp only [own,if_true]
 refine wpAny_newObj_type (wpAny_pure ⟨_,rfl,"dict_itemiterator",_,⟨_,Heap.get?_push_size _ rfl,rfl⟩,F.slot_dict_itemiterator_next.lookup,?_⟩) (by simp only [sizeOk,Builtin.Dict_items.ownedTupleFields,List.size_toArray,List.length_append,List.length_cons,List.length_nil,sizeLine_eq];omega)
 simpa [rawInt,Builtin.Dict_items.ownedTupleFields,itO] using q
theorem ziH {e:DictEntry} {Q:Option Value->Shared->Prop} (hit:IsIt s.heap it d i es.size ep) (g1:s.heap.get? d=some od) (g3:od.data=.dict es ep) (hx:es[i]?=some e)
  (q:∀ h',IsIt h' it d (i+1) es.size ep->h'.get? s.heap.objs.size=some (tupO e.key e.val)->h'.objs.size=s.heap.objs.size+1->(∀ b o,b≠it->s.heap.get? b=some o->h'.get? b=some o)->Q (some (.ref s.heap.objs.size)) { s with heap:=h' }) :
  wpAny (model prog w) A (pyNext (.ref it)) Q E s:=by
 obtain ⟨f0,f1,ok,ov,hf,hit⟩:=hit;obtain ⟨hp,g,dr,tk,os⟩:=s;have hT:Shared.TypeIs ⟨hp,g,dr,tk,os⟩ (.ref it) "dict_itemiterator":=⟨_,hit,rfl⟩;unfold pyNext;refine wpAny_bind (wpAny_attempt (wpAny_callSpecial?_slot (name:=Str.ofString "__next__") hT F.slot_dict_itemiterator_next (wpAny_call_entry F.slot_dict_itemiterator_next hT F.entry_dict_itemiterator_next ?_ (F.args_dict_itemiterator_next_1 _))));refine wpAny_bind (wpAny_pure (wpAny_bind (wpAny_bind ?_)))
 first | refine wpAny_bind (wpAny_typeNameOfWhole_itemiter hT (wpAny_pure ?_)) | refine wpAny_bind (wpAny_typeNameOf_itemiter hT (wpAny_pure ?_));skip
 refine wpAny_bind (wpAny_fieldsOf hit rfl ?_)
 have own:Builtin.Dict_items.ownsTuple "dict_itemiterator"=true:=by decide
 simp only [own,if_true];show wpAny _ _ (if (Value.ref d==Value.none)=true then _ else _) _ _ _
 rw [if_neg (show ¬ ((Value.ref d==Value.none)=true) from Bool.false_ne_true)];refine wpAny_bind (wpAny_pure (wpAny_bind (wpAny_dictEntries g1 g3 ?_)))
 rw [if_neg (by simp)];refine wpAny_bind (wpAny_pure (wpAny_bind (wpAny_dictEpoch g1 g3 ?_)))
 rw [if_neg (by simp)];refine wpAny_pure ?_
 simp only [show ¬ ((i:Int)<0) from by omega,if_false,Int.toNat_natCast,hx]
 refine wpAny_bind ?_;first | refine wpAny_bind (wpAny_typeNameOfWhole_itemiter hT (wpAny_pure ?_)) | refine wpAny_bind (wpAny_typeNameOf_itemiter hT (wpAny_pure ?_))
 refine wpAny_bind (wpAny_isOneOf_itemiter hT ?_);show wpAny _ _ (setField (.ref it) 3 (rawInt ((i:Int)+1)) >>= _) _ _ _;refine wpAny_bind (wpAny_setField_rec hit (by simp) λh1 he1 hs1=>?_);replace hs1:Heap.SameBut it hp h1:=hs1
 replace he1:h1.get? it=some (itO f0 f1 d (i+1) es.size ep ok ov):=by
  have e:((i+1:Nat):Int)=(i:Int)+1:=by omega
  unfold itO;rw [e];simpa [rawInt] using he1
 have hT1:Shared.TypeIs ⟨h1,g,dr,tk,os⟩ (.ref it) "dict_itemiterator":=⟨_,he1,rfl⟩;refine wpAny_bind (wpAny_holding (wpAny_bind (wpAny_isOneOf_itemiter hT1 (wpAny_bind (wpAny_isOneOf_itemiter hT1 ?_)))));show wpAny _ _ (Builtin.Dict_items.pairFromOwner (.ref it) 6 e.key e.val) _ _ ⟨h1,g,dr,tk,os⟩;unfold Builtin.Dict_items.pairFromOwner;refine wpAny_bind (wpAny_newTuple ?_);have he2:(h1.push (tupO e.key e.val)).get? it=some (itO f0 f1 d (i+1) es.size ep ok ov):=Heap.get?_push_of_some _ he1;have hz1:h1.objs.size=hp.objs.size:=hs1.1;have hil:it<hp.objs.size:=Heap.lt_size hit
 have ht2:(h1.push (tupO e.key e.val)).get? hp.objs.size=some (tupO e.key e.val):=by rw [<-hz1];exact Heap.get?_push_size _ rfl
 have hz2:(h1.push (tupO e.key e.val)).objs.size=hp.objs.size+1:=by rw [Heap.size_push,hz1]
 have hk2:∀ b o,b≠it->hp.get? b=some o->(h1.push (tupO e.key e.val)).get? b=some o:=λb o hb e=>Heap.get?_push_of_some _ (hs1.extBut b o hb e);show wpAny _ _ (Builtin.Dict_items.ownedTupleIsFree (.ref it) >>= _) _ _ ⟨h1.push (tupO e.key e.val),g,dr,tk,os⟩;rw [hz1];generalize h1.push (tupO e.key e.val)=h2 at he2 ht2 hz2 hk2 ⊢;clear he1 hs1 hT1 hz1 h1
 have fin:∀ (h3:Heap) f0 f1 k v,(f0=.none\/∃ a:Nat,f0=rawInt a)->h3.get? it=some (itO f0 f1 d (i+1) es.size ep k v)->Heap.SameBut it h2 h3->Q (some (.ref hp.objs.size)) ⟨h3,g,dr,tk,os⟩:=λh3 f0 f1 k v hf he hs=>
  q h3 ⟨f0,f1,k,v,hf,he⟩ (hs.extBut _ _ (Nat.ne_of_gt hil) ht2) (by show h3.objs.size=hp.objs.size+1;rw [hs.1,hz2]) λb o hb e=>hs.extBut b o hb (hk2 b o hb e)
 have free:wpAny (model prog w) A.in1 (do
   let old:=[<-field (.ref it) 6,<-field (.ref it) 7]
   setField (.ref it) 6 e.key;setField (.ref it) 7 e.val
   setField (.ref it) 0 (rawInt hp.objs.size);setField (.ref it) 1 (.bool false)
   letGo old [.ref hp.objs.size]
   pure (Value.ref hp.objs.size)) (λr t=>r=.ref hp.objs.size/\Q (some r) t) (λ_ _=>False) ⟨h2,g,dr,tk,os⟩:=by
  refine wpAny_bind (wpAny_field he2 rfl (x:=ok) rfl (wpAny_bind (wpAny_field he2 rfl (x:=ov) rfl ?_)));refine wpAny_bind (wpAny_setField_rec he2 (by simp) λh3 he3 hs3=>wpAny_bind (wpAny_setField_rec he3 (by simp) λh4 he4 hs4=>wpAny_bind (wpAny_setField_rec he4 (by simp) λh5 he5 hs5=>wpAny_bind (wpAny_setField_rec he5 (by simp) λh6 he6 hs6=>?_))))
  have e6:h6.get? it=some (itO (rawInt hp.objs.size) (.bool false) d (i+1) es.size ep e.key e.val):=by unfold itO;simpa using he6
  exact wpAny_bind (wpAny_letGo (wpAny_pure ⟨rfl,fin h6 _ _ _ _ (.inr ⟨_,rfl⟩) e6 (((hs3.trans hs4).trans hs5).trans hs6)⟩))
 unfold Builtin.Dict_items.ownedTupleIsFree
 rcases hf with rfl | ⟨a,rfl⟩
 ·refine wpAny_bind (wpAny_bind (wpAny_field he2 rfl (x:=.none) rfl (wpAny_pure ?_)))
  simp only [if_true];refine wpAny_mono free (λr t q_=>?_) λ_ _ h=>h.elim;obtain ⟨e1,hq⟩:=q_;subst e1;exact wpAny_pure ⟨_,rfl,wpAny_pure hq⟩
 ·refine wpAny_bind (wpAny_bind (wpAny_field he2 rfl (x:=rawInt a) rfl ?_))
  refine wpAny_bind (zmY ?_);show wpAny _ _ (if (h2.get? _).isNone=true then _ else _) _ _ _
  by_cases hn:(h2.get? (Int.toNat (a:Int))).isNone=true
  ·rw [if_pos hn]
   refine wpAny_pure ?_;simp only [if_true];refine wpAny_mono free (λr t q_=>?_) λ_ _ h=>h.elim;obtain ⟨e1,hq⟩:=q_;subst e1;exact wpAny_pure ⟨_,rfl,wpAny_pure hq⟩
  ·rw [if_neg hn]
   refine wpAny_bind (wpAny_field he2 rfl (x:=f1) rfl ?_);refine wpAny_ite_split (λ_=>?_) (λ_=>?_)
   ·refine wpAny_bind (wpAny_setField_rec he2 (by simp) λh3 he3 hs3=>wpAny_pure ?_)
    have e3:h3.get? it=some (itO (rawInt a) (.bool true) d (i+1) es.size ep ok ov):=by unfold itO;simpa using he3
    simp only [Bool.false_eq_true,if_false];exact wpAny_pure (wpAny_pure ⟨_,rfl,wpAny_pure (fin h3 _ _ _ _ (.inr ⟨_,rfl⟩) e3 hs3)⟩)
   ·refine wpAny_pure ?_
    simp only [Bool.false_eq_true,if_false];exact wpAny_pure (wpAny_pure ⟨_,rfl,wpAny_pure (fin h2 _ _ _ _ (.inr ⟨_,rfl⟩) he2 (Heap.SameBut.refl it h2))⟩)
theorem zlr {Q:Option Value->Shared->Prop} (hh:A.handled=none) (hit:IsIt s.heap it d i es.size ep) (g1:s.heap.get? d=some od) (g3:od.data=.dict es ep) (hx:es.size<=i)
  (q:∀ h',Heap.ExtBut it s.heap h'->Q none { s with heap:=h' }):wpAny (model prog w) A (pyNext (.ref it)) Q E s:=by
 obtain ⟨f0,f1,ok,ov,hf,hit⟩:=hit;have hT:s.TypeIs (.ref it) "dict_itemiterator":=⟨_,hit,rfl⟩;unfold pyNext;refine wpAny_bind (wpAny_attempt (wpAny_callSpecial?_slot (name:=Str.ofString "__next__") hT F.slot_dict_itemiterator_next (wpAny_call_entry F.slot_dict_itemiterator_next hT F.entry_dict_itemiterator_next ?_ (F.args_dict_itemiterator_next_1 _))));refine wpAny_bind (wpAny_pure (wpAny_bind (wpAny_bind ?_)))
 first | refine wpAny_bind (wpAny_typeNameOfWhole_itemiter hT (wpAny_pure ?_)) | refine wpAny_bind (wpAny_typeNameOf_itemiter hT (wpAny_pure ?_));skip
 refine wpAny_bind (wpAny_fieldsOf hit rfl ?_)
 have own:Builtin.Dict_items.ownsTuple "dict_itemiterator"=true:=by decide
 simp only [own,if_true];show wpAny _ _ (if (Value.ref d==Value.none)=true then _ else _) _ _ _
 rw [if_neg (show ¬ ((Value.ref d==Value.none)=true) from Bool.false_ne_true)];refine wpAny_bind (wpAny_pure (wpAny_bind (wpAny_dictEntries g1 g3 ?_)))
 rw [if_neg (by simp)];refine wpAny_bind (wpAny_pure (wpAny_bind (wpAny_dictEpoch g1 g3 ?_)))
 rw [if_neg (by simp)];refine wpAny_pure ?_
 simp only [show ¬ ((i:Int)<0) from by omega,if_false,Int.toNat_natCast,Array.getElem?_eq_none hx]
 refine wpAny_bind ?_;first | refine wpAny_bind (wpAny_typeNameOfWhole_itemiter hT (wpAny_pure ?_)) | refine wpAny_bind (wpAny_typeNameOf_itemiter hT (wpAny_pure ?_))
 show wpAny _ _ (setField (.ref it) 2 .none >>= _) _ _ _;refine wpAny_bind (wpAny_setField hit rfl (by simp) ?_);show wpAny _ _ (newExc (.type "StopIteration") [] >>= _) _ _ _
 refine wpAny_bind ?_;simp only [newExc,newTuple]
 refine wpAny_bind (wpAny_newObj_type ?_ (by size_fits))
 refine wpAny_bind (m:=firstArgMember _ _) (wpAny_of_eq (a:=Value.none) (by first | rfl | (simp only [firstArgMember];rfl)) ?_);refine wpAny_newObj_type ?_ (by size_fits)
 simp only [raiseNew];refine wpAny_bind (wpAny_handled ?_)
 rw [show A.in1.handled=none from hh];refine wpAny_bind (wpAny_pure (wpAny_throw ?_))
 refine wpAny_bind (wpAny_isInstance (T:="StopIteration") (b:=true) ⟨_,Heap.get?_push_size _ rfl,rfl⟩ isSubtype_stop ?_);exact wpAny_pure (q _ (((Heap.SameBut.update ..).extBut.push _).push _))
structure zeA (es:Array DictEntry) (h:Heap) (S it base:Addr) (acc:Array Value) (i:Nat):Prop where
 size:acc.size=i
 at':∀ j,j<i->∃ (a:Addr) (e:DictEntry),acc[j]?=some (.ref a)/\es[j]?=some e/\h.get? a=some (tupO e.key e.val)/\a≠S/\a≠it/\base<=a
 inc:∀ (j k:Nat) (a b:Addr),j<k->acc[j]?=some (.ref a)->acc[k]?=some (.ref b)->a<b
theorem zkh {R:Result->Shared->Prop} {S base:Addr} {res:Value} (hh:A.handled=none) (hn:es.size<=sizeLine) (g3:od.data=.dict es ep) (hSi:S≠it) (hSd:S≠d) (hdi:d≠it) :
  ∀ (k i:Nat) (s:Shared) (acc:Array Value) (c:Nat),es.size-i=k->i<=es.size->base<=s.heap.objs.size->IsIt s.heap it d i es.size ep->s.heap.get? d=some od->s.heap.get? S=some { cls:=.type "list",dict:=none,data:=.seq acc c,slots:=#[] }->zeA es s.heap S it base acc i →
  (∀ h' acc' c',(∀ b o,b≠S->b≠it->s.heap.get? b=some o->h'.get? b=some o)->h'.get? S=some { cls:=.type "list",dict:=none,data:=.seq acc' c',slots:=#[] }->zeA es h' S it base acc' es.size->R (.ok (.ret res)) { s with heap:=h' }) →
  codeAny (model prog w) A (.builtin "list.extend.loop" ⟨[.ref S,.ref it,res],[]⟩) R s:=by
 intro k
 induction k with
 | zero=>
  intro i s acc c hk hi hbs hst hd hS hacc hR
  have hin:i=es.size:=by omega
  subst hin;refine codeAny_builtin F.entry_extend_loop ?_;rw [Around.under_plainId F.plain_extend_loop _];show wpAny _ A.in1 (pyNext (.ref it) >>= _) _ _ s;refine wpAny_bind (zlr (A:=A.in1) hh hst hd g3 (Nat.le_refl _) λh' he=>wpAny_pure (hR h' acc c (λb o _ hb e=>he b o hb e) (he S _ hSi hS) ⟨hacc.size,λj hj=>?_,hacc.inc⟩));obtain ⟨a,e,e1,e2,e3,e4,e5,e6⟩:=hacc.at' j hj;exact ⟨a,e,e1,e2,he a _ e5 e3,e4,e5,e6⟩
 | succ k ih=>
  intro i s acc c hk hi hbs hst hd hS hacc hR
  have hlt:i<es.size:=by omega
  refine codeAny_builtin F.entry_extend_loop ?_;rw [Around.under_plainId F.plain_extend_loop _];show wpAny _ A.in1 (pyNext (.ref it) >>= _) _ _ s;refine wpAny_bind (ziH (A:=A.in1) hst hd g3 (e:=es[i]) (by simp [hlt]) λh1 hit1 ht1 hz1 hk1=>?_);have hS1:=hk1 S _ hSi hS;have hd1:=hk1 d _ hdi hd;have nS:S<s.heap.objs.size:=Heap.lt_size hS
  have nI:it<s.heap.objs.size:=by obtain ⟨_,_,_,_,_,e⟩:=hst;exact Heap.lt_size e
  show wpAny _ A.in1 (updateSeq S (·.push (.ref s.heap.objs.size)) >>= _) _ _ _
  refine wpAny_bind (wpAny_updateSeq hS1 rfl (wpAny_pure ⟨plainId_quiet F.plain_extend_loop _,?_⟩) (by rw [hacc.size];omega) (by show (acc.push _).size<=sizeLine+1;rw [Array.size_push,hacc.size];omega))
  have oth:∀ b o,b≠S->h1.get? b=some o->(h1.update S (Obj.mapSeq (·.push (.ref s.heap.objs.size)))).get? b=some o:=λb o hb e=>(Heap.get?_update_other _ _ (Ne.symm hb)).trans e
  have acc0:∀ j,j≠i->(acc.push (.ref s.heap.objs.size))[j]?=acc[j]?:=λj hj=>by rw [Array.getElem?_push,if_neg (by rw [hacc.size];exact hj)]
  have acc1:(acc.push (.ref s.heap.objs.size))[i]?=some (.ref s.heap.objs.size):=by rw [Array.getElem?_push,if_pos hacc.size.symm]
  refine ih (i+1) _ (acc.push (.ref s.heap.objs.size)) _ (by omega) hlt ?_ ?_ (oth d _ (Ne.symm hSd) hd1) (Heap.get?_update_self _ hS1 rfl) ⟨by rw [Array.size_push,hacc.size],λj hj=>?_,λj k a b hjk ea eb=>?_⟩ λh' acc' c' hk' hS' hacc'=>?_
  ·show base<=(h1.update S _).objs.size
   rw [Heap.size_update,hz1];exact Nat.le_succ_of_le hbs
  ·obtain ⟨f0,f1,k',v',hf,e⟩:=hit1
   exact ⟨f0,f1,k',v',hf,oth it _ (Ne.symm hSi) e⟩
  ·by_cases hji:j=i
   ·subst hji
    exact ⟨s.heap.objs.size,es[j],acc1,by simp [hlt],oth _ _ (Nat.ne_of_gt nS) ht1,Nat.ne_of_gt nS,Nat.ne_of_gt nI,hbs⟩
   ·obtain ⟨a,e,e1,e2,e3,e4,e5,e6⟩:=hacc.at' j (by omega)
    exact ⟨a,e,by rw [acc0 j hji];exact e1,e2,oth a _ e4 (hk1 a _ e5 e3),e4,e5,e6⟩
  ·have hki:k<=i:=by
    rcases Nat.lt_or_ge i k with h | h
    ·rw [Array.getElem?_eq_none (by rw [Array.size_push,hacc.size];exact h)] at eb;cases eb
    ·exact h
   rw [acc0 j (by omega)] at ea
   by_cases hk2:k=i
   ·subst hk2
    rw [acc1] at eb;cases eb;obtain ⟨a',e,e1,_,e3,_⟩:=hacc.at' j hjk
    rw [e1] at ea;cases ea
    exact Heap.lt_size e3
   ·rw [acc0 k hk2] at eb
    exact hacc.inc j k a b hjk ea eb
  ·exact hR h' acc' c' (λb o h1 h2 e=>hk' b o h1 h2 (oth b o h1 (hk1 b o h2 e))) hS' hacc'
theorem zeP {v:Addr} {Q:List Value->Shared->Prop} (hh:A.handled=none) (hn:es.size<=sizeLine) (hv:s.heap.IsItemsView v d) (g1:s.heap.get? d=some od) (g3:od.data=.dict es ep)
  (q:∀ h' acc,(∀ b o,s.heap.get? b=some o->h'.get? b=some o)->s.heap.objs.size<=h'.objs.size->zeA es h' s.heap.objs.size (s.heap.objs.size+1) s.heap.objs.size acc es.size->Q acc.toList { s with heap:=h' }):wpAny (model prog w) A (collect (.ref v)) Q E s:=by
 obtain ⟨ov,hov,hcv,hdv⟩:=id hv;have vlt:v<s.heap.objs.size:=Heap.lt_size hov;have dlt:d<s.heap.objs.size:=Heap.lt_size g1;unfold collect;refine wpAny_bind (wpAny_runValue (codeAny_builtin entry_proto_collect' ?_));show wpAny _ _ (do again (.builtin "list.__iadd__" ⟨[<-newList [],.ref v],[]⟩)) _ _ s;refine wpAny_bind (wpAny_newList (wpAny_pure ⟨Code.quiet_builtin _ (by decide +kernel),codeAny_builtin entry_list_iadd' ?_⟩));have hS:(s.heap.push (seqObj "list" #[] 0)).get? s.heap.objs.size=some { cls:=.type "list",data:=.seq #[] }:=Heap.get?_push_size _ rfl;show wpAny _ _ (Builtin.List.listExtendWith (.ref s.heap.objs.size) (.ref v) (.ref s.heap.objs.size)) _ _ { s with heap:=s.heap.push (seqObj "list" #[] 0) };have g1':=Heap.get?_push_of_some (seqObj "list" #[] 0) g1;have hov':=Heap.get?_push_of_some (seqObj "list" #[] 0) hov;have sz0:(s.heap.push (seqObj "list" #[] 0)).objs.size=s.heap.objs.size+1:=Heap.size_push ..;have kp:∀ b o,s.heap.get? b=some o->(s.heap.push (seqObj "list" #[] 0)).get? b=some o:=λb o e=>Heap.get?_push_of_some _ e;generalize s.heap.push (seqObj "list" #[] 0)=h1 at hS g1' hov' sz0 kp ⊢;have hT:({ s with heap:=h1 }:Shared).TypeIs (.ref v) "dict_items":=⟨ov,hov',hcv⟩;unfold Builtin.List.listExtendWith;refine wpAny_bind (wpAny_typeOf hT ?_)
 have e1:Builtin.List.listSameRef (.ref s.heap.objs.size) (.ref v)=false:=by simp [Builtin.List.listSameRef,Nat.ne_of_gt vlt]
 have n1:(Value.type "dict_items"==Value.type "list")=false:=by decide
 have n2:(Value.type "dict_items"==Value.type "tuple")=false:=by decide
 simp only [e1,n1,n2,Bool.or_false,Bool.false_eq_true,if_false];refine wpAny_bind (ziI (s:={ s with heap:=h1 }) ⟨ov,hov',hcv,hdv⟩ g1' g3 ?_);have hT1:({ s with heap:=h1.push (itO .none (.bool false) d 0 es.size ep .none .none) }:Shared).TypeIs (.ref v) "dict_items":=⟨ov,Heap.get?_push_of_some _ hov',hcv⟩;refine wpAny_bind (wpAny_holding (PySem.W.kdx_hint hT1 ?_));have hS1:=Heap.get?_push_of_some (itO .none (.bool false) d 0 es.size ep .none .none) hS
 have hI1:(h1.push (itO .none (.bool false) d 0 es.size ep .none .none)).get? (s.heap.objs.size+1)=some (itO .none (.bool false) d 0 es.size ep .none .none):=by rw [<-sz0];exact Heap.get?_push_size _ rfl
 have g2':=Heap.get?_push_of_some (itO .none (.bool false) d 0 es.size ep .none .none) g1'
 have sz1:(h1.push (itO .none (.bool false) d 0 es.size ep .none .none)).objs.size=s.heap.objs.size+2:=by rw [Heap.size_push,sz0]
 have kp1:∀ b o,s.heap.get? b=some o->(h1.push (itO .none (.bool false) d 0 es.size ep .none .none)).get? b=some o:=λb o e=>Heap.get?_push_of_some _ (kp b o e);show wpAny _ _ _ _ _ { s with heap:=h1.push (itO .none (.bool false) d 0 es.size ep .none .none) };show wpAny _ _ (if (_||_)=true then _ else _) _ _ _;refine wpAny_ite_split (λ_=>?_) (λhab=>absurd (by decide) hab);rw [sz0];generalize h1.push (itO .none (.bool false) d 0 es.size ep .none .none)=h2 at hS1 hI1 g2' sz1 kp1 ⊢;refine wpAny_bind (wpAny_rule (wpAny_bind ?_));show wpAny _ _ (updateSeq s.heap.objs.size (·.push .none) >>= λ_=>updateSeq s.heap.objs.size (·.pop)) _ _ _;refine wpAny_bind (wpAny_updateSeq hS1 rfl ?_);have hS2:=Heap.get?_update_self (Obj.mapSeq (·.push Value.none)) hS1 rfl;refine wpAny_updateSeq (hz:=by seq_fits) hS2 rfl ?_;have hS3:=Heap.get?_update_self (Obj.mapSeq (·.pop)) hS2 rfl
 have oth:∀ b o,b≠s.heap.objs.size->h2.get? b=some o->((h2.update s.heap.objs.size (Obj.mapSeq (·.push Value.none))).update s.heap.objs.size (Obj.mapSeq (·.pop))).get? b=some o:=λb o hb e=>
  (Heap.get?_update_other _ _ (Ne.symm hb)).trans ((Heap.get?_update_other _ _ (Ne.symm hb)).trans e)
 refine wpAny_pure ⟨plainId_quiet F.plain_extend_loop _,?_⟩;refine zkh (base:=s.heap.objs.size) (od:=od) (es:=es) (ep:=ep) (d:=d) (it:=s.heap.objs.size+1) hh hn g3 (Nat.ne_of_lt (Nat.lt_succ_self _)) (Nat.ne_of_gt dlt) (Nat.ne_of_lt (Nat.lt_succ_of_lt dlt)) es.size 0 _ #[] _ (by omega) (Nat.zero_le _) ?_ ⟨_,_,_,_,.inl rfl,oth _ _ (by omega) hI1⟩ (oth _ _ (Nat.ne_of_lt dlt) g2') hS3 ⟨rfl,λj hj=>absurd hj (Nat.not_lt_zero _),λj k a b _ e=>by simp at e⟩ λh' acc c' hk hS' hacc=>?_
 ·show s.heap.objs.size<=_
  simp only [Heap.size_update];omega
 ·show wpAny (model prog w) A (do
   let o<-load s.heap.objs.size
   match o.data with
   | .seq xs _=>pure xs.toList
   | _=>unsupported "internal:collect") _ _ _
  refine wpAny_bind (wpAny_load hS' ?_);exact wpAny_pure (q h' acc (λb o e=>hk b o (Nat.ne_of_lt (Heap.lt_size e)) (Nat.ne_of_lt (Nat.lt_succ_of_lt (Heap.lt_size e))) (oth b o (Nat.ne_of_lt (Heap.lt_size e)) (kp1 b o e))) (Nat.le_of_lt (Heap.lt_size hS')) hacc)
end
end IT
namespace IT
open PySem PyProof.Rows
section
variable {prog:Program} {w:World} {A:Around} {E:Value->Shared->Prop} {s:Shared} {I v:Addr} {rs:List (D×Addr)} {es:Array (Int×Value)} {ep:Nat} {t:SetTable} {P:List Nat}
theorem zlb (l:List (Int×Value)):((List.range l.length).map λj=>l.getD j (0,.none))=l:=by
 refine List.ext_getElem (by simp) λi h1 h2=>?_;simp [h2]
theorem zn1 {Q:Value->Shared->Prop} (S:SetW w s.heap v rs es ep t P)
  (q:∀ h' d fs vs,h'.get? (h'.objs.size-1)=some (sitO (fs 0) 0 v es.size ep)->(∀ b o,s.heap.get? b=some o->h'.get? b=some o)->s.heap.objs.size<=h'.objs.size-1->Mode w v es ep t P fs vs h'->vs.Perm es.toList->Q (.ref (h'.objs.size-1)) { s with heap:=h',drawn:=d }):wpAny (model prog w) A (pyIter (.ref v)) Q E s:=by
 have hT:s.TypeIs (.ref v) "set":=⟨_,S.get,rfl⟩;have hz:=S.size;have h4:=S.le5;refine wpAny_pyIter_slot hT F.slot_set_iter (wpAny_call_entry F.slot_set_iter hT zfk ?_ (F.args_set_iter_1 _));show wpAny _ _ (Builtin.Frozenset.sizeOf v >>= _) _ _ _;unfold Builtin.Frozenset.sizeOf;refine wpAny_bind (wpAny_bind (wpAny_setEntries_of S.get rfl S.fits (wpAny_pure ?_)));unfold setDrawn;refine wpAny_bind (wpAny_bind (wpAny_setState_of S.get rfl S.fits ?_));dsimp only;refine wpAny_bind (za3 (wpAny_pure ?_))
 have fin:∀ (h1:Heap) (d:Drawn) (f:Value),(∀ b o,s.heap.get? b=some o->h1.get? b=some o)->s.heap.objs.size<=h1.objs.size->(∀ fs vs,fs 0=f->(∀ h2,(∀ b o,h1.get? b=some o->h2.get? b=some o)->Mode w v es ep t P fs vs h2)->vs.Perm es.toList->True) →
   (∃ fs vs,fs 0=f/\(∀ h2,(∀ b o,h1.get? b=some o->h2.get? b=some o)->Mode w v es ep t P fs vs h2)/\vs.Perm es.toList) →
   wpAny (model prog w) A.in1 (do ret (<-newFields "set_iterator" [f,rawInt 0,.ref v,rawInt es.size,rawInt (<-setEpoch v)])) (λfl s'=>∃ a,fl=.done (.ret a)/\∃ T r,s'.TypeIs a T/\typeLookup (.type T) (Str.ofString "__next__")=pure (some r)/\Q a s') E { s with heap:=h1,drawn:=d }:=by
  intro h1 d f k1 sz1 _ ⟨fs,vs,e0,hm,hp⟩;refine wpAny_bind (wpAny_setEpoch_of (s:={ s with heap:=h1,drawn:=d }) (k1 _ _ S.get) rfl S.fits ?_);refine wpAny_bind (wpAny_newObj_type (wpAny_pure ⟨_,rfl,"set_iterator",_,⟨_,Heap.get?_push_size _ rfl,rfl⟩,zaE.lookup,?_⟩) (by size_fits))
  have e1:(h1.push (sitO f 0 v es.size ep)).objs.size-1=h1.objs.size:=by rw [Heap.size_push];rfl
  have:=q (h1.push (sitO f 0 v es.size ep)) d fs vs (by rw [e1,e0];exact Heap.get?_push_size _ rfl) (λb o e=>Heap.get?_push_of_some _ (k1 b o e)) (by rw [e1];exact sz1) (hm _ λb o e=>Heap.get?_push_of_some _ e) hp
  rw [e1] at this;exact this
 by_cases hb:byTx w=true
 ·have e0:(!byTx w&&(!t.plain&&decide (es.size>1)))=false:=by rw [hb];rfl
  show wpAny _ _ (if (!byTx w&&(!t.plain&&decide (es.size>1)))=true then _ else _) _ _ _;rw [e0];simp only [Bool.false_eq_true,if_false];refine wpAny_bind (wpAny_pure ?_)
  exact fin s.heap s.drawn (rawInt 0) (λ_ _ e=>e) (Nat.le_refl _) (λ_ _ _ _ _=>trivial) ⟨λ_=>rawInt 0,_,rfl,λh2 _=>.text hb rfl rfl,by have:=zgl (w.params.setOrder v ep) es.size 0 es.toList #[] (by simp);rw [List.nil_append] at this;exact this⟩
 ·have hb':byTx w=false:=by simpa using hb
  by_cases hd:(!t.plain&&decide (es.size>1))=true
  ·have e0:(!byTx w&&(!t.plain&&decide (es.size>1)))=true:=by rw [hb',hd];rfl
   show wpAny _ _ (if (!byTx w&&(!t.plain&&decide (es.size>1)))=true then _ else _) _ _ _;rw [e0];simp only [if_true];refine wpAny_bind (zjO es.size (List.range es.size) s _ (by simp) λys d hp=>?_)
   refine wpAny_bind (wpAny_newTuple ?_ (by rw [List.length_map,hp.length_eq,List.length_range,sizeLine_eq];omega))
   refine fin (s.heap.push { cls:=.type "tuple",data:=.seq (ys.map λi:Nat=>rawInt (i:Int)).toArray 0 }) d (.ref s.heap.objs.size) (λb o e=>Heap.get?_push_of_some _ e) (by rw [Heap.size_push];exact Nat.le_succ _) (λ_ _ _ _ _=>trivial) ⟨λ_=>.ref s.heap.objs.size,ys.map λj=>es.toList.getD j (0,.none),rfl,λh2 k2=>.drawn s.heap.objs.size ys rfl (k2 _ _ (Heap.get?_push_size _ rfl)) (by rw [hp.length_eq,List.length_range]) λi j e=>?_,?_⟩
   ·have hj:j<es.toList.length:=by
     have:=(hp.mem_iff).mp (List.mem_of_getElem? e)
     simpa using this
    refine ⟨es.toList[j],by rw [<-Array.getElem?_toList];exact List.getElem?_eq_getElem hj,?_⟩
    rw [List.getElem?_map,e];simp only [Option.map_some,List.getD_eq_getElem?_getD,List.getElem?_eq_getElem hj,Option.getD_some]
   ·have:=(hp.map λj=>es.toList.getD j (0,Value.none))
    rw [<-Array.length_toList,zlb] at this;exact this
  ·have e0:(!byTx w&&(!t.plain&&decide (es.size>1)))=false:=by rw [hb'];simpa using hd
   show wpAny _ _ (if (!byTx w&&(!t.plain&&decide (es.size>1)))=true then _ else _) _ _ _;rw [e0];simp only [Bool.false_eq_true,if_false];refine wpAny_bind (wpAny_pure ?_);refine fin s.heap s.drawn (rawInt 0) (λ_ _ e=>e) (Nat.le_refl _) (λ_ _ _ _ _=>trivial) ⟨λi=>rawInt ((if i=0 then 0 else P.getD (i-1) 0+1:Nat):Int),es.toList,rfl,λh2 _=>.slots hb' ?_ rfl rfl,List.Perm.refl _⟩;simp only [Bool.and_eq_true,Bool.not_eq_true',decide_eq_true_eq,not_and] at hd
   by_cases hpn:t.plain=true
   ·exact .inl hpn
   ·exact .inr (Nat.le_of_not_lt (hd (by simpa using hpn)))
theorem zoV {R:Result->Shared->Prop} {L:Addr} {res:Value} {fs:Nat->Value} {vs:List (Int×Value)} (hh:A.handled=none) (hLI:L≠I) (hLv:L≠v) (hvI:v≠I) (hl:vs.length=es.size) :
  ∀ (k i:Nat) (s:Shared) (acc:Array Value) (c:Nat),es.size-i=k->i<=es.size->SetW w s.heap v rs es ep t P->Mode w v es ep t P fs vs s.heap->s.heap.get? I=some (sitO (fs i) i v es.size ep)->s.heap.get? L=some { cls:=.type "list",dict:=none,data:=.seq acc c,slots:=#[] }->acc.toList=(vs.take i).map (·.2) →
  (∀ h' acc' c',(∀ b o,b≠L->b≠I->s.heap.get? b=some o->h'.get? b=some o)->h'.get? L=some { cls:=.type "list",dict:=none,data:=.seq acc' c',slots:=#[] }->acc'.toList=vs.map (·.2)->R (.ok (.ret res)) { s with heap:=h' }) →
  codeAny (model prog w) A (.builtin "list.extend.loop" ⟨[.ref L,.ref I,res],[]⟩) R s:=by
 intro k
 induction k with
 | zero=>
  intro i s acc c hk hi S m hit hL hacc hR
  have hin:i=es.size:=by omega
  subst hin;refine codeAny_builtin F.entry_extend_loop ?_
  rw [Around.under_plainId F.plain_extend_loop _];show wpAny _ A.in1 (pyNext (.ref I) >>= _) _ _ s
  exact wpAny_bind (zp4 (A:=A.in1) hh S m hl hit λh' he=>wpAny_pure (hR h' acc c (λb o _ hb e=>he b o hb e) (he L _ hLI hL) (by rw [hacc,List.take_of_length_le (by omega)])))
 | succ k ih=>
  intro i s acc c hk hi S m hit hL hacc hR
  have hlt:i<es.size:=by omega
  have hiv:i<vs.length:=by omega
  refine codeAny_builtin F.entry_extend_loop ?_
  rw [Around.under_plainId F.plain_extend_loop _];show wpAny _ A.in1 (pyNext (.ref I) >>= _) _ _ s
  refine wpAny_bind (zoX (A:=A.in1) S m hit hlt (List.getElem?_eq_getElem hiv) λh1 hit1 hs1=>?_);have hL1:=hs1.extBut L _ hLI hL
  have sz:acc.size=i:=by rw [<-Array.length_toList,hacc,List.length_map,List.length_take];omega
  have h4:=S.le5;have hz:=S.size;show wpAny _ A.in1 (updateSeq L (·.push (vs[i]).2) >>= _) _ _ _
  refine wpAny_bind (wpAny_updateSeq hL1 rfl (wpAny_pure ⟨plainId_quiet F.plain_extend_loop _,?_⟩) (by rw [sz,sizeLine_eq];omega) (by show (acc.push _).size<=sizeLine+1;rw [Array.size_push,sz,sizeLine_eq];omega))
  have oth:∀ b o,b≠L->h1.get? b=some o->(h1.update L (Obj.mapSeq (·.push (vs[i]).2))).get? b=some o:=λb o hb e=>(Heap.get?_update_other _ _ (Ne.symm hb)).trans e
  have kIL:∀ b its,s.heap.IsTuple b its->(h1.update L (Obj.mapSeq (·.push (vs[i]).2))).IsTuple b its:=λb its ⟨o,e,cc,r⟩=>by
   have n1:b≠I:=λz=>by subst z;rw [hit] at e;cases e;injection cc with z;exact absurd z (by decide)
   have n2:b≠L:=λz=>by subst z;rw [hL] at e;cases e;injection cc with z;exact absurd z (by decide)
   exact ⟨o,oth b o n2 (hs1.extBut b o n1 e),cc,r⟩
  have m1:Mode w v es ep t P fs vs h1:=m.keep (b:=I) (λc o hc e=>hs1.extBut c o hc e) λo e z=>by rw [hit] at e;cases e;injection z with z;exact absurd z (by decide)
  refine ih (i+1) _ (acc.push (vs[i]).2) _ (by omega) hlt (S.mono (λo e=>oth v o (Ne.symm hLv) (hs1.extBut v o hvI e)) kIL) (m1.keep (b:=L) oth λo e z=>?_) (oth I _ (Ne.symm hLI) hit1) (Heap.get?_update_self _ hL1 rfl) ?_ λh' acc' c' hk' hL' hacc'=>?_
  ·rw [hL1] at e;cases e;injection z with z;exact absurd z (by decide)
  ·rw [Array.toList_push,hacc,List.take_succ_eq_append_getElem hiv,List.map_append];rfl
  ·exact hR h' acc' c' (λb o h1' h2' e=>hk' b o h1' h2' (oth b o h1' (hs1.extBut b o h2' e))) hL' hacc'
theorem ziE:isSubtype (.type "set") (.type "set")=pure true:=by rw [isSubtype_type];kernel_rfl
theorem zm3 {prog:Program} {w:World} {A:Around} {E:Value->Shared->Prop} {s:Shared} {d:Addr} {Q:Bool->Shared->Prop} (hT:s.TypeIs (.ref d) "set") (q:Q false s):wpAny (model prog w) A (Builtin.List.listLengthHint (.ref d)) Q E s:=by
 unfold Builtin.List.listLengthHint;generalize hi : "set.__len__"=id
 have e:splitId id=some ("set", "__len__"):=by subst hi;decide +kernel
 refine wpAny_bind (wpAny_specialOf hT (hi▸F.slot_set_len.lookup) ?_)
 wp_delta
 rw [e];subst hi;refine wpAny_bind (wpAny_isInstance hT ziE (wpAny_ite_split (λz=>absurd z (by decide)) λ_=>wpAny_ite_split (λ_=>wpAny_bind (wpAny_typeOf hT (wpAny_pure q))) λz=>absurd (by decide +kernel) z))
theorem zhd {Q:List Value->Shared->Prop} (hh:A.handled=none) (S:SetW w s.heap v rs es ep t P)
  (q:∀ (h':Heap) (d:Drawn) (vs:List (Int×Value)),(∀ b o,s.heap.get? b=some o->h'.get? b=some o)->s.heap.objs.size<=h'.objs.size->vs.Perm es.toList->Q (vs.map (·.2)) { s with heap:=h',drawn:=d }):wpAny (model prog w) A (collect (.ref v)) Q E s:=by
 have vlt:v<s.heap.objs.size:=Heap.lt_size S.get;unfold collect;refine wpAny_bind (wpAny_runValue (codeAny_builtin entry_proto_collect' ?_));show wpAny _ _ (do again (.builtin "list.__iadd__" ⟨[<-newList [],.ref v],[]⟩)) _ _ s;refine wpAny_bind (wpAny_newList (wpAny_pure ⟨Code.quiet_builtin _ (by decide +kernel),codeAny_builtin entry_list_iadd' ?_⟩));have hS:(s.heap.push (seqObj "list" #[] 0)).get? s.heap.objs.size=some { cls:=.type "list",data:=.seq #[] }:=Heap.get?_push_size _ rfl;show wpAny _ _ (Builtin.List.listExtendWith (.ref s.heap.objs.size) (.ref v) (.ref s.heap.objs.size)) _ _ { s with heap:=s.heap.push (seqObj "list" #[] 0) };have S1:SetW w (s.heap.push (seqObj "list" #[] 0)) v rs es ep t P:=S.mono (λo e=>Heap.get?_push_of_some _ e) λb its ⟨o,e,r⟩=>⟨o,Heap.get?_push_of_some _ e,r⟩;have sz0:(s.heap.push (seqObj "list" #[] 0)).objs.size=s.heap.objs.size+1:=Heap.size_push ..;have kp:∀ b o,s.heap.get? b=some o->(s.heap.push (seqObj "list" #[] 0)).get? b=some o:=λb o e=>Heap.get?_push_of_some _ e;generalize s.heap.push (seqObj "list" #[] 0)=h1 at hS S1 sz0 kp ⊢;have hT:({ s with heap:=h1 }:Shared).TypeIs (.ref v) "set":=⟨_,S1.get,rfl⟩;unfold Builtin.List.listExtendWith;refine wpAny_bind (wpAny_typeOf hT ?_)
 have e1:Builtin.List.listSameRef (.ref s.heap.objs.size) (.ref v)=false:=by simp [Builtin.List.listSameRef,Nat.ne_of_gt vlt]
 have n1:(Value.type "set"==Value.type "list")=false:=by decide
 have n2:(Value.type "set"==Value.type "tuple")=false:=by decide
 simp only [e1,n1,n2,Bool.or_false,Bool.false_eq_true,if_false];refine wpAny_bind (zn1 (s:={ s with heap:=h1 }) S1 λh2 d fs vs hit k2 hI m hp=>?_)
 have hI':s.heap.objs.size+1<=h2.objs.size-1:=by rw [<-sz0];exact hI
 have hT1:({ s with heap:=h2,drawn:=d }:Shared).TypeIs (.ref v) "set":=⟨_,k2 _ _ S1.get,rfl⟩;refine wpAny_bind (wpAny_holding (zm3 hT1 ?_));have hS1:=k2 _ _ hS;have S2:SetW w h2 v rs es ep t P:=S1.mono (λo e=>k2 v o e) λb its ⟨o,e,r⟩=>⟨o,k2 b o e,r⟩;generalize hIe:h2.objs.size-1=I at hit hI' ⊢;show wpAny _ _ (if (_||_)=true then _ else _) _ _ _;refine wpAny_ite_split (λ_=>?_) (λhab=>absurd (by decide) hab);refine wpAny_bind (wpAny_rule (wpAny_bind ?_));show wpAny _ _ (updateSeq s.heap.objs.size (·.push .none) >>= λ_=>updateSeq s.heap.objs.size (·.pop)) _ _ _;refine wpAny_bind (wpAny_updateSeq hS1 rfl ?_);have hS2:=Heap.get?_update_self (Obj.mapSeq (·.push Value.none)) hS1 rfl;refine wpAny_updateSeq (hz:=by seq_fits) hS2 rfl ?_;have hS3:=Heap.get?_update_self (Obj.mapSeq (·.pop)) hS2 rfl
 have oth:∀ b o,b≠s.heap.objs.size->h2.get? b=some o->((h2.update s.heap.objs.size (Obj.mapSeq (·.push Value.none))).update s.heap.objs.size (Obj.mapSeq (·.pop))).get? b=some o:=λb o hb e=>
  (Heap.get?_update_other _ _ (Ne.symm hb)).trans ((Heap.get?_update_other _ _ (Ne.symm hb)).trans e)
 have notT:∀ b its,h2.IsTuple b its->b≠s.heap.objs.size:=λb its ⟨o,e,cc,_⟩ z=>by
  subst z
  rw [hS1] at e;cases e;injection cc with z;exact absurd z (by decide)
 refine wpAny_pure ⟨plainId_quiet F.plain_extend_loop _,?_⟩;refine zoV (I:=I) (v:=v) hh (Nat.ne_of_lt hI') (Nat.ne_of_gt vlt) (Nat.ne_of_lt (Nat.lt_trans vlt hI')) (by rw [hp.length_eq,Array.length_toList]) es.size 0 _ #[] _ (by omega) (Nat.zero_le _) (S2.mono (λo e=>oth v o (Nat.ne_of_lt vlt) e) λb its tt=>?_) (m.keep (b:=s.heap.objs.size) oth λo e z=>?_) (oth I _ (Nat.ne_of_gt hI') hit) hS3 (by simp) λh' acc c' hk hL' hacc=>?_
 ·have:=notT b its tt
  obtain ⟨o,e,r⟩:=tt;exact ⟨o,oth b o this e,r⟩
 ·rw [hS1] at e;cases e;injection z with z;exact absurd z (by decide)
 ·show wpAny (model prog w) A (do
   let o<-load s.heap.objs.size
   match o.data with
   | .seq xs _=>pure xs.toList
   | _=>unsupported "internal:collect") _ _ _
  refine wpAny_bind (wpAny_load hL' ?_);have key:=q h' d vs (λb o e=>hk b o (Nat.ne_of_lt (Heap.lt_size e)) (Nat.ne_of_lt (Nat.lt_trans (Heap.lt_size e) hI')) (oth b o (Nat.ne_of_lt (Heap.lt_size e)) (k2 b o (kp b o e)))) (Nat.le_of_lt (Heap.lt_size hL')) hp;rw [<-hacc] at key;exact wpAny_pure key
end
end IT
namespace IT
open PySem PySem.Spec L2
section
variable {X:Cx} {A0:Addr->Prop} {H:Hp} {s:Shared}
mutual
theorem zdM (S:zaM X s H):∀ (x:D) (v:V) (u:Value),D.hk x=true->RepD X.K A0 H x v->RelV v u->KAt s.heap x u
 | .int i,v,u,_,q,r=>by
  simp only [RepD] at q;subst q
  simp only [KAt];exact r
 | .str x,v,u,_,q,r=>by
  simp only [RepD] at q;subst q
  simp only [KAt];exact r
 | .tup xs,v,u,hk,q,r=>by
  simp only [RepD] at q;obtain ⟨a,vs,rfl,sq,zs⟩:=q;cases r;obtain ⟨its,ri,p⟩:=S.tup a vs sq;simp only [KAt];exact ⟨a,its.toArray,rfl,p,by simpa using kAts_of S xs vs its hk zs ri⟩
 | .non,_,_,hk,_,_=>by cases hk
 | .bl _,_,_,hk,_,_=>by cases hk
 | .lst _,_,_,hk,_,_=>by cases hk
theorem kAts_of (S:zaM X s H):∀ (x:List D) (v:List V) (u:List Value),D.hks x=true->RepDs X.K A0 H x v->Vals v u->KAts s.heap x u
 | [],v,u,_,q,r=>by
  simp only [RepDs] at q;subst q
  cases r;simp only [KAts]
 | x::xs,v,u,hk,q,r=>by
  simp only [RepDs] at q;obtain ⟨w,ws,rfl,q1,q2⟩:=q
  cases r with
  | cons r1 r2=>
   rw [D.hks,Bool.and_eq_true] at hk;simp only [KAts];exact ⟨_,_,rfl,zdM S x w _ hk.1 q1 r1,kAts_of S xs ws _ hk.2 q2 r2⟩
end
theorem zbH (h:zaq k=true):D.hk k=true/\k.dep<=8:=by
 cases k with
 | tup xs=>
  rw [zaq,Bool.and_eq_true] at h
  have:=of_decide_eq_true h.2
  exact ⟨h.1,by simp only [D.dep];omega⟩
 | _=>cases h
theorem zo6 (h:zaq k=true) (q:RepD X.K A0 H k v):∃ b,v=.ref b:=by
 cases k with
 | tup xs=>simp only [RepD] at q;obtain ⟨a,_,e,_⟩:=q;exact ⟨a,e⟩
 | _=>cases h
theorem znq (S:zaM X s H) (h:zaq k=true) (q:RepD X.K A0 H k (.ref b)):(dKind X.prog X.w).is s.heap k b:=
 ⟨(zbH h).2,zdM S k (.ref b) (.ref b) (zbH h).1 q rfl⟩
end
noncomputable def KvR (K:PySem.W.Frag) (A:Addr->Prop) (H:Hp) (p:D×D) (q:D×Addr×Value):Prop:=p.1=q.1/\(zaq p.1=true/\RepD K A H p.1 (.ref q.2.1))/\∃ v,RelV v q.2.2/\RepD K A H p.2 v
theorem zdF {α β γ:Type} {F:α->β->Prop} {G:β->γ->Prop} {T:α->γ->Prop} (k:∀ a b c,F a b->G b c->T a c):∀ {xs:List α} {ys:List β} {zs:List γ},Paired F xs ys->Paired G ys zs->Paired T xs zs
 | _,_,_,.nil,.nil=>.nil
 | _,_,_,.cons f fs,.cons g gs=>.cons (k _ _ _ f g) (zdF k fs gs)
section
variable {X:Cx} {pins:List (Addr×Obj)} {σ:St} {H:Hp} {s:Shared} {μ:List Addr} {h:Sto} {l:Nat} {a:Addr} {kvs:List (D×D)}
structure zsE (X:Cx) (μ:List Addr) (h:Sto) (H:Hp) (s:Shared) (a:Addr) (kvs:List (D×D)) (xv:List (D×Addr×Value)):Prop where
 sys:(a==sysModules)=false
 len:kvs.length<=sizeLine
 rel:Paired (KvR X.K (Live μ h) H) kvs xv
 dic:s.heap.DictOfH (dKind X.prog X.w) a xv
theorem zjV (I:Inv X pins σ H s) (R0:Rep X.K μ h H) (ea:μ[l]?=some a) (ho:h[l]?=some (.dic kvs)\/h[l]?=some (.dfr kvs)):∃ xs xv,(h[l]?=some (.dic kvs)->H a=some (.dT xs))/\Rd H a (.dT xs)/\Paired (λ(p:D×D) (q:D×Addr×V)=>p.1=q.1/\(zaq p.1=true/\RepD X.K (Live μ h) H p.1 (.ref q.2.1))/\RepD X.K (Live μ h) H p.2 q.2.2) kvs xs ∧
  Paired (λ(p:D×Addr×V) (q:D×Addr×Value)=>p.1=q.1/\p.2.1=q.2.1/\RelV p.2.2 q.2.2) xs xv/\zsE X μ h H s a kvs xv:=by
 have zz:∃ xs,(h[l]?=some (.dic kvs)->H a=some (.dT xs))/\Rd H a (.dT xs)/\Paired (λ(p:D×D) (q:D×Addr×V)=>p.1=q.1/\(zaq p.1=true/\RepD X.K (Live μ h) H p.1 (.ref q.2.1))/\RepD X.K (Live μ h) H p.2 q.2.2) kvs xs:=by
  rcases ho with ho | ho
  ·obtain ⟨xs,e,z⟩:=R0.obj l a _ ea ho
   exact ⟨xs,λ_=>e,.inl e,z⟩
  ·obtain ⟨ob,xs,e,z⟩:=R0.obj l a _ ea ho
   exact ⟨xs,(λq=>by rw [ho] at q;cases q),.inr ⟨ob,e⟩,z⟩
 obtain ⟨xs,e0,e,z⟩:=zz;obtain ⟨hz,hS,xv,r,o,es,ep,h1,h2,h3,h4,h5⟩:=(show zaR X.prog X.w H s.heap a (.dT xs) from e.ok I.hok)
 have rel:Paired (KvR X.K (Live μ h) H) kvs xv:=zdF (λp q t ⟨c1,c2,c3⟩ ⟨d1,d2,d3⟩=>⟨c1.trans d1,⟨c2.1,by rw [<-d2];exact c2.2⟩,q.2.2,d3,c3⟩) z r
 refine ⟨xs,xv,e0,e,z,r,hS,by rw [Paired.length z];exact hz,rel,o,es,ep,h1,h2,h3,h4,?_,h5⟩
 have S:=zaB I
 have all:∀ {l1:List (D×D)} {l2:List (D×Addr×Value)},Paired (KvR X.K (Live μ h) H) l1 l2->∀ x∈l2,(dKind X.prog X.w).is s.heap x.1 x.2.1:=by
  intro l1 l2 q
  induction q with
  | nil=>intro x hx;cases hx
  | @cons p q ps qs hq t ih=>
   intro x hx
   rcases List.mem_cons.mp hx with e | hx
   ·subst e
    obtain ⟨c1,c2,_⟩:=hq;rw [<-c1];exact znq S c2.1 c2.2
   ·exact ih x hx
 exact all rel
theorem zlN (e:kRd x h=some (k,h')):x=.d k/\zaq k=true/\h'=h:=by
 cases x with
 | loc _=>cases e
 | d d=>
  simp only [kRd] at e
  split at e
  ·rename_i hk
   simp only [Option.some.injEq,Prod.mk.injEq] at e;obtain ⟨rfl,rfl⟩:=e;exact ⟨rfl,hk,rfl⟩
  ·cases e
theorem zmR (e:dRd x h=some (kvs,h')):∃ l,x=.loc l/\(h[l]?=some (.dic kvs)\/h[l]?=some (.dfr kvs))/\h'=h:=by
 cases x with
 | d _=>cases e
 | loc l=>
  simp only [dRd] at e
  split at e
  ·rename_i kvs' ho
   simp only [Option.some.injEq,Prod.mk.injEq] at e;obtain ⟨rfl,rfl⟩:=e;exact ⟨l,rfl,.inl ho,rfl⟩
  ·rename_i kvs' ho
   simp only [Option.some.injEq,Prod.mk.injEq] at e;obtain ⟨rfl,rfl⟩:=e;exact ⟨l,rfl,.inr ho,rfl⟩
  ·cases e
end
section
variable {X:Cx} {a b e:Expr} {pos:Pos} {f g:IT.Env->M R}
theorem zsr (hu:X.A.units+64<cLine):(dKind X.prog X.w).room X.A.in1:=by
 show X.A.units+1+8<cLine;omega
end
noncomputable def putV {β:Type} (k:D) (b:Addr) (v:β):List (D×Addr×β)->List (D×Addr×β)
 | []=>[(k,b,v)]
 | q::r=>if q.1=k then (q.1,q.2.1,v)::r else q::putV k b v r
theorem zhO {β:Type} (k:D) (b:Addr) (v:β):∀ xs:List (D×Addr×β),(putV k b v xs).length<=xs.length+1
 | []=>by simp [putV]
 | q::r=>by
  have:=zhO k b v r
  rw [putV]
  split<;>simp<;>omega
theorem zga:∀ {xs:List (D×Addr×Value)},k ∉ xs.map (·.1)->xs.map (putAt k v)=xs
 | [],_=>rfl
 | x::r,h=>by
  rw [List.map_cons,List.mem_cons,not_or] at h;have e:putAt k v x=x:=if_neg λe=>h.1 e.symm;rw [List.map_cons,e,zga h.2]
theorem zeu (k:D) (b:Addr) (v:Value):∀ {xs:List (D×Addr×Value)},(xs.map (·.1)).Nodup->storedH xs k b v=putV k b v xs
 | [],_=>by simp [storedH,atKey,putV]
 | x::r,n=>by
  rw [List.map_cons,List.nodup_cons] at n;rw [putV]
  by_cases e:x.1=k
  ·rw [if_pos e]
   have h1:(atKey (x::r) k).isSome=true:=by simp [atKey,List.find?_cons,e]
   unfold storedH
   rw [if_pos h1,List.map_cons,zga (by rw [<-e];exact n.1)]
   simp [putAt,e]
  ·rw [if_neg e,<-zeu k b v n.2]
   have h1:atKey (x::r) k=atKey r k:=by simp [atKey,List.find?_cons,e]
   unfold storedH;rw [h1]
   split
   ·rw [List.map_cons,putAt,if_neg e]
   ·rfl
theorem zhZ {α:Type} {F:D×α->D×Addr×V->Prop} {k:D} {d:α} {b:Addr} {v:V} (hF:∀ p q,F p q->p.1=q.1) (h1:F (k,d) (k,b,v)) (h2:∀ p q,F p q->p.1=k->F (p.1,d) (q.1,q.2.1,v)) (pt:List (D×α)->List (D×α))
  (p0:pt []=[(k,d)]) (pc:∀ p r,pt (p::r)=if p.1.same k then (p.1,d)::r else p::pt r):∀ {xs:List (D×α)} {ys:List (D×Addr×V)},Paired F xs ys->Paired F (pt xs) (putV k b v ys)
 | _,_,.nil=>by rw [p0,putV];exact .cons h1 .nil
 | _,_,.cons (a:=p) (b:=q) (l₁:=r) (l₂:=t) hq ht=>by
  rw [pc,putV,zdG]
  by_cases e:p.1=k
  ·rw [if_pos (by simp [e]),if_pos (by rw [<-hF p q hq];exact e)]
   exact .cons (h2 p q hq e) ht
  ·rw [if_neg (by simp [e]),if_neg (by rw [<-hF p q hq];exact e)]
   exact .cons hq (zhZ hF h1 h2 pt p0 pc ht)
theorem zh4 (rv:RelV v u):∀ {xs:List (D×Addr×V)} {ys:List (D×Addr×Value)},Paired (λ(p:D×Addr×V) (q:D×Addr×Value)=>p.1=q.1/\p.2.1=q.2.1/\RelV p.2.2 q.2.2) xs ys →
  Paired (λ(p:D×Addr×V) (q:D×Addr×Value)=>p.1=q.1/\p.2.1=q.2.1/\RelV p.2.2 q.2.2) (putV k b v xs) (putV k b u ys)
 | _,_,.nil=>.cons ⟨rfl,rfl,rv⟩ .nil
 | _,_,.cons (a:=p) (b:=q) (l₁:=r) (l₂:=t) hq ht=>by
  rw [putV,putV,hq.1]
  split
  ·exact .cons ⟨rfl,hq.2.1,rv⟩ ht
  ·exact .cons hq (zh4 rv ht)
section
variable {X:Cx}
noncomputable def zsA (K:PySem.W.Frag):TSet:=λo i v H Q=>∃ μ h l kvs k d,Rep K μ h H/\RepR K μ h H (.loc l) o/\h[l]?=some (.dic kvs)/\zaq k=true/\RepD K (Live μ h) H k i/\RepD K (Live μ h) H d v/\kvs.length<big ∧
 (∀ H',Stp μ h H μ (h.set l (.dic (dPut k d kvs))) H'->Rep K μ (h.set l (.dic (dPut k d kvs))) H'->Q H')
theorem zoM (hu:X.A.units+64<cLine):PSet X (zsA X.K):=by
 intro pins s σ H o i v ov iv u Q I ro ri rv q;obtain ⟨μ,h,l,kvs,k,d,R0,⟨a,ea,rfl⟩,ho,hk,qk,qd,hb,q⟩:=q;cases ro;obtain ⟨b,rfl⟩:=zo6 hk qk;cases ri;obtain ⟨xs,xv,eH0,_,z,r,DA⟩:=zjV I R0 ea (.inl ho);have eH:=eH0 ho;have lx:xs.length=xv.length:=Paired.length r;have lk:kvs.length=xs.length:=Paired.length z;have hbig:big=sizeLine:=rfl;refine wpAny_setItem_heap (hsz:=by omega) (zsr hu) (znq (zaB I) hk qk) DA.dic λh' dd' hs=>?_;obtain ⟨o,es,ep,g1,g2,g3,g4,g5,g6⟩:=dd'
 have nd:(xv.map (·.1)).Nodup:=let ⟨_,_,_,_,_,_,_,_,n⟩:=DA.dic;n
 rw [zeu k b u nd] at g4 g6
 refine ⟨upd H a (.dT (putV k b v xs)),I.write (x:=a) (e:=a) (by rw [eH];exact True.intro) (.inl rfl) (λc w hc e=>(hs.2 c hc).trans e) ⟨o,g1⟩ ⟨by have:=zhO k b v xs;omega,DA.sys,_,zh4 rv r,o,es,ep,g1,g2,g3,g4,g6⟩,?_⟩
 obtain ⟨s2,R2⟩:=znk (o':=.dic (dPut k d kvs)) (u:=.dT (putV k b v xs)) R0 ea ho rfl λst=>⟨putV k b v xs,zaj,zhZ (F:=λ(p:D×D) (q:D×Addr×V)=>p.1=q.1/\(zaq p.1=true/\RepD X.K (Live μ (h.set l (.dic (dPut k d kvs)))) (upd H a (.dT (putV k b v xs))) p.1 (.ref q.2.1))/\RepD X.K (Live μ (h.set l (.dic (dPut k d kvs)))) (upd H a (.dT (putV k b v xs))) p.2 q.2.2)
  (λp q z=>z.1) ⟨rfl,⟨hk,RepD.stp st R0 qk⟩,RepD.stp st R0 qd⟩ (λp q z e=>⟨z.1,z.2.1,RepD.stp st R0 qd⟩) (dPut k d) rfl (λp r=>rfl) (L2.Paired.mapP z λp q y=>⟨y.1,⟨y.2.1.1,RepD.stp st R0 y.2.1.2⟩,RepD.stp st R0 y.2.2⟩)⟩
 exact q _ s2 R2
theorem zn9 (hu:X.A.units+64<cLine) (he:IE X e f) (ho:IE X o g) (hi:IE X i k)
  (ha:∀ v,assign (.Subscript o i p2) X.env v=(do let ov<-holding [v] (eval o X.env);let iv<-holding [v,ov] (eval i X.env);standAt p2;holding [v,ov,iv] (setItem ov iv v);release [v,ov,iv] []))
  (hs:swapsWithSole [.Subscript o i p2] e pos.line X.env=pure false) (hw:swappedStores [.Subscript o i p2] e X.env=pure none) (h1:(assignEach [.Subscript o i p2] X.env).map (·.2)=[assign (.Subscript o i p2) X.env]) :
  PS X (.Assign [.Subscript o i p2] e pos) (tS X.K λσ=>bnd (f σ) λr=>bnd (g σ) λx=>bnd (k σ) λy=>bnd (fz r) λd=>bnd (kRd y) λk=>bnd (dSet x k d) λ_=>ok (.nx,σ)):=by
 refine PS.imp (zj2 he (znp ho hi (zoM hu) ha) hs hw h1) λD σ H q0=>?_;obtain ⟨μ,h,env,R0,re,fl,env',h',e,kk⟩:=q0;simp only [zab,zac,Prod.mk.injEq] at e;obtain ⟨r,h1,e1,x,h2,e2,y,h3,e3,d,h4,e4,ky,h5,e5,_,h6,e6,⟨rfl,rfl⟩,rfl⟩:=e;refine ⟨μ,h,env,R0,re,r,h1,e1,λμ1 H1 v s1 R1 q1=>⟨μ1,h1,env,R1,re.stp s1 R0,x,h2,e2,λμ2 H2 u s2 R2 q2=>⟨μ2,h2,env,R2,re.stp (s1.trans s2) R0,y,h3,e3,λμ3 H3 w s3 R3 q3=>?_⟩⟩⟩;obtain ⟨s4,R4,zd⟩:=zje R3 ((q1.stp s2 R1).stp s3 R2) e4;obtain ⟨rfl,hk,rfl⟩:=zlN e5
 cases x with
 | d _=>cases e6
 | loc l=>
  simp only [dSet] at e6
  split at e6
  ·rename_i kvs hx
   split at e6
   ·rename_i hb
    simp only [Option.some.injEq,Prod.mk.injEq] at e6;obtain ⟨_,rfl⟩:=e6;refine ⟨μ3,_,l,kvs,ky,d,R4,(q2.stp s3 R2).stp s4 R3,hx,hk,(q3.stp s4 R3),zd,of_decide_eq_true hb,λH' s5 R5=>?_⟩;have st:=(((s1.trans s2).trans s3).trans s4).trans s5;exact kk μ3 _ σ st R5 (re.stp st R0)
   ·cases e6
  ·cases e6
theorem zpc:IE X (.Dict [] [] pos) (λ_=>dNew):=by
 intro pins s σ H Q I q;obtain ⟨μ,h,env,R0,re,r,h',e,k⟩:=q;simp only [dNew,Option.some.injEq,Prod.mk.injEq] at e;obtain ⟨rfl,rfl⟩:=e;have hf:=I.fresh;refine wpAny_Dict_empty ⟨.ref s.heap.objs.size,upd H s.heap.objs.size (.dT []),I.laid (t':=s.toks) (λ_ _ q=>Heap.get?_push_of_some _ q) (Nat.le_refl _) ⟨Nat.zero_le _,beq_eq_false_iff_ne.mpr (Ne.symm (Nat.ne_of_lt (zrI I))),[],.nil,_,#[],0,Heap.get?_push_size _ rfl,⟨rfl,rfl,rfl⟩,rfl,rfl,List.nodup_nil⟩,rfl,?_⟩
 exact k (μ++[s.heap.objs.size]) _ _ (Stp.allocO R0 hf) (R0.allocO hf ⟨[],zaj,.nil⟩) ⟨_,by rw [<-R0.len];simp,rfl⟩
end
end IT
namespace IT
open PySem PySem.Spec L2 PyProof.Rows
noncomputable def lays (H:Hp):List (Addr×List V)->Hp
 | []=>H
 | t::r=>upd (lays H r) t.1 (.tup t.2)
theorem zdd:∀ {ts:List (Addr×List V)},a ∉ ts.map (·.1)->lays H ts a=H a
 | [],_=>rfl
 | t::r,h=>by
  rw [List.map_cons,List.mem_cons,not_or] at h;rw [lays,zao h.1,zdd h.2]
theorem zjw:∀ {ts:List (Addr×List V)},(ts.map (·.1)).Nodup->(a,vs)∈ts->lays H ts a=some (.tup vs)
 | [],_,h=>nomatch h
 | t::r,n,h=>by
  rw [List.map_cons,List.nodup_cons] at n
  rcases List.mem_cons.mp h with e | h
  ·subst e;exact zaj
  ·rw [lays,zao (λe=>n.1 (by rw [<-e];exact List.mem_map.mpr ⟨_,h,rfl⟩)),zjw n.2 h]
theorem zj8:∀ {ts:List (Addr×List V)},lays H ts a=some o->H a=some o\/∃ vs,(a,vs)∈ts/\o=.tup vs
 | [],h=>.inl h
 | t::r,h=>by
  rw [lays] at h
  by_cases e:a=t.1
  ·subst e
   rw [zaj] at h;cases h;exact .inr ⟨t.2,List.mem_cons_self,rfl⟩
  ·rw [zao e] at h
   rcases zj8 h with h | ⟨vs,h,z⟩
   ·exact .inl h
   ·exact .inr ⟨vs,List.mem_cons_of_mem _ h,z⟩
section
variable {K:PySem.W.Frag} {μ:List Addr} {h:Sto} {H:Hp}
theorem zhY (R0:Rep K μ h H):∀ {ts:List (Addr×List V)},(ts.map (·.1)).Nodup->(∀ t∈ts,H t.1=none)->Stp μ h H μ h (lays H ts)/\Rep K μ h (lays H ts)
 | [],_,_=>⟨Stp.refl,R0⟩
 | t::r,n,z=>by
  rw [List.map_cons,List.nodup_cons] at n;obtain ⟨s,R⟩:=zhY R0 n.2 λt ht=>z t (List.mem_cons_of_mem _ ht)
  have e:lays H r t.1=none:=by rw [zdd n.1];exact z t List.mem_cons_self
  exact ⟨s.trans (Stp.fresh e),R.fresh e⟩
end
section
variable {X:Cx} {pins:List (Addr×Obj)} {σ:L2.St} {H H':Hp} {s:Shared} {h':Heap}
theorem zlM (I:Inv X pins σ H s) (k:∀ b u,s.heap.get? b=some u->h'.get? b=some u) (ag:∀ b,b<s.heap.objs.size->H' b=H b) (new:∀ a o,s.heap.objs.size<=a->H' a=some o->zaR X.prog X.w H' h' a o) :
  Inv X pins σ H' { s with heap:=h',toks:=t' }:=by
 have lt:∀ b u,H b=some u->b<s.heap.objs.size:=λb u e=>(I.hok b u e).lt
 refine I.un ⟨λb o e _ _ _=>k b o e,λb o e _ _ _=>⟨o.slots,k b o e⟩,λb o e n _=>by rw [ag b (Heap.lt_size e)];exact n,λb o e _=>⟨o,k b o e⟩,λb xs e=>by rw [ag b (lt b _ e)];exact e,λb o u e=>by rw [ag b (lt b _ e)];exact e,λb ps e=>⟨#[],by rw [ag b (lt b _ e),e];simp⟩⟩ λa o e=>?_
 by_cases hl:a<s.heap.objs.size
 ·have e0:H a=some o:=by rw [<-ag a hl];exact e
  exact (I.hok a o e0).stay (λb u _ q=>k b u q) (λb q=>by rw [ag b (lt b _ q)];exact q) λb xs q=>by rw [ag b (lt b _ q)];exact q
 ·exact new a o (Nat.le_of_not_lt hl) e
end
theorem zhB:∀ {xs:List D} {vs:List Value},xs.length=vs.length->(∀ (j:Nat) (x:D) (v:Value),xs[j]?=some x->vs[j]?=some v->KAt h x v)->KAts h xs vs
 | [],[],_,_=>by simp only [KAts]
 | [],_::_,l,_=>by simp at l
 | _::_,[],l,_=>by simp at l
 | x::xs,v::vs,l,k=>by
  simp only [KAts];exact ⟨v,vs,rfl,k 0 x v rfl rfl,zhB (by simpa using l) λj x v e1 e2=>k (j+1) x v (by simpa using e1) (by simpa using e2)⟩
theorem zdb {K:PySem.W.Frag}:∀ {xs:List D} {vs:List V},xs.length=vs.length->(∀ (j:Nat) (x:D) (v:V),xs[j]?=some x->vs[j]?=some v->RepD K A H x v)->RepDs K A H xs vs
 | [],[],_,_=>RepDs.nil
 | [],_::_,l,_=>by simp at l
 | _::_,[],l,_=>by simp at l
 | x::xs,v::vs,l,k=>.cons (k 0 x v rfl rfl) (zdb (by simpa using l) λj x v e1 e2=>k (j+1) x v (by simpa using e1) (by simpa using e2))
theorem zfz:∀ {xs:List V} {vs:List Value},xs.length=vs.length->(∀ (j:Nat) (x:V) (v:Value),xs[j]?=some x->vs[j]?=some v->RelV x v)->Vals xs vs
 | [],[],_,_=>.nil
 | [],_::_,l,_=>by simp at l
 | _::_,[],l,_=>by simp at l
 | x::xs,v::vs,l,k=>.cons (k 0 x v rfl rfl) (zfz (by simpa using l) λj x v e1 e2=>k (j+1) x v (by simpa using e1) (by simpa using e2))
theorem zcf {α β:Type} {F:α->β->Prop}:∀ {xs:List α} {ys:List β},Paired F xs ys->∀ (i:Nat) (x:α),xs[i]?=some x->∃ y,ys[i]?=some y/\F x y
 | _,_,.nil,i,x,e=>by simp at e
 | _,_,.cons (b:=y) f fs,0,x,e=>by simp at e;subst e;exact ⟨y,rfl,f⟩
 | _,_,.cons f fs,i+1,x,e=>by simp at e;simpa using zcf fs i x e
theorem zfX {K:PySem.W.Frag} (q:RepDs K A H xs ws) {p:List Nat} (hp:∀ i∈p,i<xs.length):RepDs K A H (p.map λi=>xs.getD i .non) (p.map λi=>ws.getD i .non):=by
 refine zdb (by simp) λj x v e1 e2=>?_;rw [List.getElem?_map] at e1 e2
 cases e:p[j]? with
 | none=>rw [e] at e1;cases e1
 | some i=>
  rw [e] at e1 e2;simp only [Option.map_some,Option.some.injEq] at e1 e2;have hi:=hp i (List.mem_of_getElem? e);obtain ⟨w,ew,qw⟩:=q.get (List.getElem?_eq_getElem hi);rw [<-e1,<-e2,zbn hi,List.getD_eq_getElem?_getD,ew];exact qw
theorem zh1 {ws:List V} {vs:List Value} (q:Vals ws vs) {p:List Nat} (hp:∀ i∈p,i<ws.length):Vals (p.map λi=>ws.getD i .non) (p.map λi=>vs.getD i .none):=by
 refine zfz (by simp) λj x v e1 e2=>?_;rw [List.getElem?_map] at e1 e2
 cases e:p[j]? with
 | none=>rw [e] at e1;cases e1
 | some i=>
  rw [e] at e1 e2;simp only [Option.map_some,Option.some.injEq] at e1 e2;have hi:=hp i (List.mem_of_getElem? e);obtain ⟨w,ew,qw⟩:=zcf q i _ (List.getElem?_eq_getElem hi);rw [<-e1,<-e2,List.getD_eq_getElem?_getD,List.getD_eq_getElem?_getD,ew,List.getElem?_eq_getElem hi];exact qw
section
variable {prog:Program} {w:World} {A:Around} {E:Value->Shared->Prop} {s:Shared}
theorem zfZ {G:List Value->Shared->Prop} (hu:A.units+16<cLine) (hc:∀ (Q':List Value->Shared->Prop) (E:Value->Shared->Prop),(∀ vs s',G vs s'->Q' vs s')->wpAny (model prog w) A.in1 (collect v) Q' E s)
  (h:∀ vs s',G vs s'->∃ xs ys p,KAts s'.heap xs vs/\Srt xs ys p/\∀ h' c,(∀ b o,s'.heap.get? b=some o->h'.get? b=some o)->h'.get? s'.heap.objs.size=some (seqObj "list" (List.toArray (p.map λi=>vs.getD i .none)) c)->Q (.ref s'.heap.objs.size) { s' with heap:=h' }) :
  wpAny (model prog w) A (call (.builtin "sorted") [v]) Q E s:=by
 refine Calls.call_function_entry kind_sorted plain_sorted entry_sorted (args_sorted1 _) ?_;unfold Builtin.«sorted»;refine wpAny_bind (m:=checkCount "sorted" 1 1 _) (wpAny_pure ?_);refine wpAny_bind (hc _ _ λvs s' g=>?_);obtain ⟨xs,ys,p,hk,S,q⟩:=h vs s' g;have hl:=hk.length;have h4:=S.len
 refine wpAny_bind (wpAny_newList ?_ (by rw [sizeLine_eq];omega))
 have hoL:(s'.heap.push (seqObj "list" vs.toArray 0)).get? s'.heap.objs.size=some (seqObj "list" vs.toArray 0):=Heap.get?_push_size _ rfl;show wpAny _ _ _ _ _ { s' with heap:=s'.heap.push (seqObj "list" vs.toArray 0) };refine wpAny_bind (wpAny_holding (wpAny_call_entry slot_list_sort ⟨_,hoL,rfl⟩ entry_list_sort ?_ (args_list_sort _)))
 refine zeb (s:={ s' with heap:=s'.heap.push (seqObj "list" vs.toArray 0) }) (a:=s'.heap.objs.size) hoL (KAts.keep (λb its t=>let ⟨o,e,r⟩:=t;⟨o,Heap.get?_push_of_some _ e,r⟩) xs vs hk) S (by show A.units+1+1+8<cLine;omega) λh' c k g'=>?_
 exact ⟨_,rfl,wpAny_pure ⟨_,rfl,q h' c (λb o e=>k b o (Nat.ne_of_lt (Heap.lt_size e)) (Heap.get?_push_of_some _ e)) g'⟩⟩
theorem zeA.as {S it base:Addr} (P:zeA es h S it base acc n):∃ as:List Addr,acc.toList=as.map Value.ref/\as.length=n/\as.Nodup/\∀ (j:Nat) (a:Addr),as[j]?=some a->base<=a/\∃ e,es[j]?=some e/\h.get? a=some (tupO e.key e.val):=by
 have el:∀ j (hj:j<acc.toList.length),∃ a e,acc.toList[j]=Value.ref a/\es[j]?=some e/\h.get? a=some (tupO e.key e.val)/\base<=a:=by
  intro j hj
  obtain ⟨a,e,e1,e2,e3,_,_,e4⟩:=P.at' j (by rw [<-P.size];simpa using hj)
  refine ⟨a,e,?_,e2,e3,e4⟩;rw [<-Array.getElem?_toList,List.getElem?_eq_getElem hj] at e1;exact Option.some.inj e1
 let g:Value->Addr:=λv=>match v with
  | .ref a=>a
  | _=>0
 have hg:∀ (j:Nat) (a:Addr),(acc.toList.map g)[j]?=some a->acc.toList[j]?=some (Value.ref a):=by
  intro j a e;rw [List.getElem?_map] at e
  cases hj:acc.toList[j]? with
  | none=>rw [hj] at e;cases e
  | some v=>
   rw [hj] at e;obtain ⟨h1,h2⟩:=List.getElem?_eq_some_iff.mp hj;obtain ⟨a',_,e1,_⟩:=el j h1;rw [<-h2,e1] at e;cases e;rw [<-h2,e1]
 refine ⟨acc.toList.map g,?_,by rw [List.length_map,Array.length_toList,P.size],?_,λj a e=>?_⟩
 ·refine List.ext_getElem (by simp) λj h1 h2=>?_
  obtain ⟨a,_,e1,_⟩:=el j h1;rw [List.getElem_map,List.getElem_map,e1]
 ·rw [List.nodup_iff_pairwise_ne,List.pairwise_iff_getElem]
  intro i j hi hj hij;have e1:=hg i _ (List.getElem?_eq_getElem hi);have e2:=hg j _ (List.getElem?_eq_getElem hj);rw [Array.getElem?_toList] at e1 e2;exact Nat.ne_of_lt (P.inc i j _ _ hij e1 e2)
 ·have e1:=hg j a e
  obtain ⟨h1,h2⟩:=List.getElem?_eq_some_iff.mp e1;obtain ⟨a',t,e3,e4,e5,e6⟩:=el j h1;rw [h2] at e3;cases e3;exact ⟨e6,t,e4,e5⟩
end
noncomputable def zgm (v a:Addr):HO:=.ext λh=>h.IsItemsView v a
section
variable {X:Cx}
theorem zcA (hu:X.A.units+64<cLine) (hc:X.calm=true):zbj X (.builtin "sorted") (λvs H Q=>∃ (μ:List Addr) (h:Sto) (l:Nat) (kvs:List (D×D)) (v a:Addr) (zs:List D),vs=[.ref v]/\H v=some (zgm v a)/\Rep X.K μ h H/\μ[l]?=some a/\(h[l]?=some (.dic kvs)\/h[l]?=some (.dfr kvs))/\zbN (kvs.map zcs)=some zs ∧
  ∀ p H' ws,Stp μ h H μ h H'->Rep X.K μ h H'->RepDs X.K (Live μ h) H' zs ws->H' p=none->Q (.ref p) (upd H' p (.lst ws))):=by
 intro pins s σ H vs us Q I rs q;obtain ⟨μ,h,l,kvs,v,a,zs,rfl,hv,R0,ea,ho,hz,k⟩:=q;obtain ⟨u,rfl,ru⟩:=rs.one;cases ru;obtain ⟨xs,xv,_,_,z,r,DA⟩:=zjV I R0 ea ho;obtain ⟨od,es,ep,g1,g2,g3,g4,g5,g6⟩:=id DA.dic;have hview:s.heap.IsItemsView v a:=(show zaR X.prog X.w H s.heap v (zgm v a) from I.hok v _ hv).1;have lk:kvs.length=xs.length:=Paired.length z;have lx:xs.length=xv.length:=Paired.length r
 have le:es.size=xv.length:=by rw [<-Array.length_toList,g4,List.length_map]
 have hsz:es.size<=sizeLine:=by have:=DA.len;omega
 obtain ⟨p,S⟩:=zhJ hz;have SA:=zaB I;have hh:X.A.in1.handled=none:=I.ok.hd hc;refine zfZ (G:=λvs s'=>∃ (h':Heap) (acc:Array Value),s'={ s with heap:=h' }/\vs=acc.toList/\(∀ b o,s.heap.get? b=some o->h'.get? b=some o)/\s.heap.objs.size<=h'.objs.size/\zeA es h' s.heap.objs.size (s.heap.objs.size+1) s.heap.objs.size acc es.size) (by omega) (λQ' E hQ=>zeP (A:=X.A.in1) hh hsz hview g1 g3 λh' acc hk szL hp=>hQ _ _ ⟨h',acc,rfl,rfl,hk,szL,hp⟩) λvs s' q_=>?_;obtain ⟨h',acc,es',evs,hk,szL,hp⟩:=q_;subst es';obtain ⟨as,eas,las,nd,hat⟩:=hp.as;rw [eas] at evs
 have ent:∀ (j:Nat) (kv:D×D) (b:Addr),kvs[j]?=some kv->as[j]?=some b->s.heap.objs.size<=b/\∃ (q:D×Addr×V) (t:D×Addr×Value),xs[j]?=some q/\xv[j]?=some t/\q.2.1=t.2.1/\RelV q.2.2 t.2.2/\h'.get? b=some (tupO (.ref t.2.1) t.2.2)/\zaq kv.1=true/\RepD X.K (Live μ h) H kv.1 (.ref q.2.1)/\RepD X.K (Live μ h) H kv.2 q.2.2:=by
  intro j kv b e1 e2;obtain ⟨q,e3,c1,c2,c3⟩:=zcf z j kv e1;obtain ⟨t,e4,d1,d2,d3⟩:=zcf r j q e3;obtain ⟨e5,e,e6,e7⟩:=hat j b e2;rw [<-Array.getElem?_toList,g4,List.getElem?_map,e4] at e6;cases e6;exact ⟨e5,q,t,e3,e4,d2,d3,e7,c2.1,c2.2,c3⟩
 have KA:KAts h' (kvs.map zcs) vs:=by
  rw [evs]
  refine zhB (by rw [List.length_map,List.length_map];omega) λj x u e1 e2=>?_
  rw [List.getElem?_map] at e1 e2
  cases e3:kvs[j]? with
  | none=>rw [e3] at e1;cases e1
  | some kv=>
   cases e4:as[j]? with
   | none=>rw [e4] at e2;cases e2
   | some b=>
    rw [e3] at e1;rw [e4] at e2
    simp only [Option.map_some,Option.some.injEq] at e1 e2;subst e1 e2;obtain ⟨_,q,t,_,_,d2,d3,d4,d5,d6,d7⟩:=ent j kv b e3 e4;have hkey:=S.key (zcs kv) (List.mem_map.mpr ⟨kv,List.mem_of_getElem? e3,rfl⟩)
    have hv2:D.hk kv.2=true:=by
     simp only [zcs,zaq,D.hks,Bool.and_eq_true] at hkey;exact hkey.1.2.1
    have kt:∀ c its,s.heap.IsTuple c its->h'.IsTuple c its:=λc its ⟨o,e,y⟩=>⟨o,hk c o e,y⟩;simp only [zcs,KAt];refine ⟨b,#[.ref t.2.1,t.2.2],rfl,⟨_,d4,rfl,0,rfl⟩,?_⟩;simp only [KAts]
    exact ⟨_,_,rfl,KAt.keep kt _ _ (zdM SA kv.1 (.ref q.2.1) (.ref t.2.1) (zbH d5).1 d6 (by rw [d2];rfl)),_,_,rfl,KAt.keep kt _ _ (zdM SA kv.2 q.2.2 t.2.2 hv2 d7 d3),rfl⟩
 refine ⟨kvs.map zcs,zs,p,KA,S,λh2 c hk2 hL=>?_⟩
 let ts:List (Addr×List V):=(as.zip xs).map λt=>(t.1,[.ref t.2.2.1,t.2.2.2])
 have hts:ts.map (·.1)=as:=by
  show ((as.zip xs).map λt=>(t.1,[V.ref t.2.2.1,t.2.2.2])).map (·.1)=as;rw [List.map_map];show (as.zip xs).map Prod.fst=as;rw [List.map_fst_zip];omega
 have hfr:∀ t∈ts,H t.1=none:=λt ht=>by
  have:t.1∈as:=by rw [<-hts];exact List.mem_map.mpr ⟨t,ht,rfl⟩
  obtain ⟨j,hj⟩:=List.getElem?_of_mem this;exact I.hok.fresh (hat j _ hj).1
 obtain ⟨st,R1⟩:=zhY R0 (ts:=ts) (by rw [hts];exact nd) hfr
 have hn1:lays H ts h'.objs.size=none:=by
  rw [zdd,I.hok.fresh szL];rw [hts];intro hm;obtain ⟨j,hj⟩:=List.getElem?_of_mem hm;obtain ⟨_,e,_,e7⟩:=hat j _ hj;exact absurd (Heap.lt_size e7) (Nat.lt_irrefl _)
 have tin:∀ (j:Nat) (b:Addr) (q:D×Addr×V),as[j]?=some b->xs[j]?=some q->(b,[V.ref q.2.1,q.2.2])∈ts:=λj b q e1 e2=>
  List.mem_map.mpr ⟨(b,q),List.mem_of_getElem? (i:=j) (by rw [List.getElem?_zip_eq_some];exact ⟨e1,e2⟩),rfl⟩
 have RD:RepDs X.K (Live μ h) (lays H ts) (kvs.map zcs) (as.map V.ref):=by
  refine zdb (by rw [List.length_map,List.length_map];omega) λj x u e1 e2=>?_
  rw [List.getElem?_map] at e1 e2
  cases e3:kvs[j]? with
  | none=>rw [e3] at e1;cases e1
  | some kv=>
   cases e4:as[j]? with
   | none=>rw [e4] at e2;cases e2
   | some b=>
    rw [e3] at e1;rw [e4] at e2
    simp only [Option.map_some,Option.some.injEq] at e1 e2;subst e1 e2;obtain ⟨_,q,t,d0,_,d2,d3,d4,d5,d6,d7⟩:=ent j kv b e3 e4;simp only [zcs,RepD]
    exact ⟨b,_,rfl,.inl (.inl (zjw (by rw [hts];exact nd) (tin j b q e4 d0))),.cons (RepD.stp st R0 d6) (.one (RepD.stp st R0 d7))⟩
 have key:=k h'.objs.size (lays H ts) (p.map λi=>(as.map V.ref).getD i .non) st R1 (by rw [S.out];exact zfX RD S.mem) hn1
 have hlen:(kvs.map zcs).length=(as.map V.ref).length:=by rw [List.length_map,List.length_map];omega
 have V1:Vals (as.map V.ref) vs:=by
  rw [evs];refine zfz (by simp) λj x u e1 e2=>?_;rw [List.getElem?_map] at e1 e2
  cases e4:as[j]? with
  | none=>rw [e4] at e2;cases e2
  | some b=>
   rw [e4] at e1 e2;simp only [Option.map_some,Option.some.injEq] at e1 e2;subst e1 e2;rfl
 refine ⟨.ref h'.objs.size,upd (lays H ts) h'.objs.size (.lst (p.map λi=>(as.map V.ref).getD i .non)),zlM (s:=s) (h':=h2) (t':=s.toks) I (λb o e=>hk2 b o (hk b o e)) (λb hb=>?_) (λb o hb e=>?_),rfl,key⟩
 ·rw [zao (Nat.ne_of_lt (Nat.lt_of_lt_of_le hb szL)),zdd]
  rw [hts];intro hm;obtain ⟨j,hj⟩:=List.getElem?_of_mem hm;exact absurd (hat j _ hj).1 (Nat.not_le_of_lt hb)
 ·by_cases eb:b=h'.objs.size
  ·subst eb
   rw [zaj] at e;cases e
   refine ⟨?_,_,c,zh1 V1 (λi hi=>by have:=S.mem i hi;omega),hL⟩
   rw [List.length_map,S.plen,sizeLine_eq]
   have:=S.len
   omega
  ·rw [zao eb] at e
   rcases zj8 e with e | ⟨ws,hm,rfl⟩
   ·rw [I.hok.fresh hb] at e;cases e
   ·obtain ⟨⟨b',q⟩,hm2,ez⟩:=List.mem_map.mp hm
    obtain ⟨j,hj⟩:=List.getElem?_of_mem hm2;rw [List.getElem?_zip_eq_some] at hj;simp only [Prod.mk.injEq] at ez hj;obtain ⟨rfl,rfl⟩:=ez
    have hjl:j<kvs.length:=by
     have:=(List.getElem?_eq_some_iff.mp hj.1).1
     omega
    obtain ⟨_,q',t,d0,_,d2,d3,d4,_⟩:=ent j _ b' (List.getElem?_eq_getElem hjl) hj.1;rw [hj.2] at d0;cases d0;have e9:=hk2 b' _ d4
    refine ⟨by show (2:Nat)<=sizeLine;rw [sizeLine_eq];omega,[.ref t.2.1,t.2.2],.cons (by rw [d2];rfl) (.cons d3 .nil),⟨_,e9,rfl,0,rfl⟩,λo e=>by rw [e9] at e;cases e;rfl⟩
end
end IT
namespace IT
open PySem PySem.Spec L2
section
variable {prog:Program} {w:World} {A:Around} {E:Value->Shared->Prop} {R:Result->Shared->Prop}
end
section
variable {X:Cx}
end
end IT
namespace IT
open PySem PySem.Spec L2
noncomputable def Itd (a:Addr) (ob:Obj):L2.It:=
 ⟨λi H=>∃ xs q,H a=some (.frz ob (.dT xs))/\xs[i]?=some q,λi H x H'=>H'=H/\∀ xs,H a=some (.frz ob (.dT xs))->∃ q:D×Addr×V,xs[i]?=some q/\x=.ref q.2.1,λi H=>∃ xs,H a=some (.frz ob (.dT xs))/\xs.length<=i⟩
noncomputable def zsP (a it:Addr) (ob:Obj) (i:Nat) (h:Heap):Prop:=∃ es ep,ob.data=.dict es ep/\h.IsKeyIter it a i es.size ep
theorem zls (I:Inv X pins σ H s) (e:H a=some (.frz ob (.dT xs))) (ed:ob.data=.dict es ep) :
  s.heap.get? a=some ob/\ob.ExactDict/\(a==sysModules)=false/\es.size=xs.length/\∀ (i:Nat) (q:D×Addr×V),xs[i]?=some q->∃ t,es[i]?=some t/\t.key=.ref q.2.1/\RelV q.2.2 t.val:=by
 obtain ⟨g0,hz,hS,xv,r,o,es',ep',g1,g2,g3,g4,g5⟩:=(show zaR X.prog X.w H s.heap a (.frz ob (.dT xs)) from I.hok a _ e);rw [g0] at g1;cases g1;rw [ed] at g3;cases g3;have hl:xs.length=xv.length:=Paired.length r
 have hs:es.size=xv.length:=by rw [<-Array.length_toList,g4,List.length_map]
 refine ⟨g0,g2,hS,by omega,λi q hq=>?_⟩
 have at2:∀ {l1:List (D×Addr×V)} {l2:List (D×Addr×Value)},Paired (λ(p:D×Addr×V) (q:D×Addr×Value)=>p.1=q.1/\p.2.1=q.2.1/\RelV p.2.2 q.2.2) l1 l2->∀ (i:Nat) q,l1[i]?=some q->∃ t,l2[i]?=some t/\q.2.1=t.2.1/\RelV q.2.2 t.2.2:=by
  intro l1 l2 z
  induction z with
  | nil=>intro i q e;simp at e
  | @cons p t ps ts h _ ih=>
   intro i q e
   cases i with
   | zero=>simp at e;subst e;exact ⟨t,rfl,h.2⟩
   | succ i=>simp at e;simpa using ih i q e
 obtain ⟨t,e1,e2,e3⟩:=at2 r i q hq
 refine ⟨entryOfKey (dKind X.prog X.w) t,?_,by rw [e2];rfl,e3⟩
 rw [<-Array.getElem?_toList,g4,List.getElem?_map,e1];rfl
theorem zl7 (a it:Addr) (ob:Obj):Turn P w K tg (Itd a ob) [it] it (zsP a it ob) where
 mem:=by simp
 obj:=λi h st b hb=>by
  have e:b=it:=by simpa using hb
  subst e;obtain ⟨_,_,_,o,e,c,d⟩:=st
  exact ⟨o,e,λv z=>by rw [d] at z;cases z⟩
 keep:=λi h h' st k=>by
  obtain ⟨es,ep,e0,o,e,c⟩:=st;exact ⟨es,ep,e0,o,k it (by simp) o e,c⟩
 item:=by
  intro X hP hw hK hc i pins s σ H E I hf st hg;subst hP hw hK;obtain ⟨xs,q,eH,hq⟩:=hg;obtain ⟨es,ep,ed,hit⟩:=st;obtain ⟨g0,g2,hS,hz,hat⟩:=zls I eH ed;obtain ⟨t,e1,e2,e3⟩:=hat i q hq;obtain ⟨f0,f1,f2,f3,f4,f5⟩:=hf it (by simp);refine zlx hit g0 ed e1 λh' st' sb=>?_;have I1:Inv X pins σ H { s with heap:=h' }:=I.turned (t':=s.toks) (λb o hb e=>(sb.2 b hb).trans e) f0 f1 f3 f4 f5;obtain ⟨o,e,c,d⟩:=id st';refine ⟨t.key,rfl,zjk (s:={ s with heap:=h' }) e c d (by decide) ⟨.ref q.2.1,H,I1,e2,⟨rfl,λys hy=>?_⟩,⟨es,ep,ed,st'⟩,λb hb=>(hf b hb).1⟩⟩;rw [eH] at hy;cases hy;exact ⟨q,hq,rfl⟩
 done:=by
  intro X hP hw hK hc i pins s σ H E I hf st hg;subst hP hw hK;obtain ⟨xs,eH,hx⟩:=hg;obtain ⟨es,ep,ed,hit⟩:=st;obtain ⟨g0,g2,hS,hz,hat⟩:=zls I eH ed;obtain ⟨f0,f1,f2,f3,f4,f5⟩:=hf it (by simp);exact zmx (I.ok.hd hc) hit g0 ed (by omega) λh' eb=>⟨rfl,I.turned (t':=s.toks) (λb o hb e=>eb b o hb e) f0 f1 f3 f4 f5⟩
 self:=λ_ _ _ _ _ st h=>by
  obtain ⟨_,_,_,hit⟩:=st;exact wpAny_pyIter_keyiter hit h
section
variable {X:Cx} {tg:Expr}
noncomputable def iDic (tl:TE):TI:=λσ H R=>tl σ H λx H1=>∃ a ob xs,x=.ref a/\H1 a=some (.frz ob (.dT xs))/\(xs.length<=sizeLine->R (Itd a ob) H1)
theorem zqM (hl:PE X l tl):PI X tg l (iDic tl):=by
 intro pins s σ H R I h;refine thn (hl pins s σ H _ I h) λv s1 q_=>?_;obtain ⟨x,H1,I1,r1,q1⟩:=q_;obtain ⟨a,ob,xs,e,hq,q⟩:=q1;subst e;cases r1
 have:∃ es ep,ob.data=.dict es ep/\xs.length<=sizeLine:=by
  obtain ⟨g0,hz,hS,xv,r,o,es',ep',g1,g2,g3,_⟩:=(show zaR X.prog X.w H1 s1.heap a (.frz ob (.dT xs)) from I1.hok a _ hq);rw [g0] at g1;cases g1;exact ⟨_,_,g3,hz⟩
 obtain ⟨es,ep,ed,hzz⟩:=this;obtain ⟨g0,g2,hS,hz,hat⟩:=zls I1 hq ed;refine zkx hS g0 g2 ed ?_;refine ⟨s1.heap.objs.size,[s1.heap.objs.size],_,_,H1,rfl,I1.kept (t':=s1.toks) λb o e=>Heap.get?_push_of_some _ e,zl7 a _ ob,⟨es,ep,ed,_,Heap.get?_push_size _ rfl,rfl,rfl⟩,λb hb=>?_,q hzz⟩
 have e:b=s1.heap.objs.size:=by simpa using hb
 subst e;exact I1.fpOk (Nat.le_refl _) (I1.hok.fresh (Nat.le_refl _))
theorem zfW {α β:Type} {F:α->β->Prop}:∀ {xs:List α} {ys:List β},Paired F xs ys->∀ (i:Nat) x,xs[i]?=some x->∃ y,ys[i]?=some y/\F x y
 | _,_,.nil,i,x,e=>by simp at e
 | _,_,.cons (b:=b) h t,0,x,e=>by simp at e;subst e;exact ⟨b,rfl,h⟩
 | _,_,.cons h t,i+1,x,e=>by simp at e;simpa using zfW t i x e
theorem zoq {μ:List Addr} {h:Sto} {kvs:List (D×D)} {ob:Obj} {xs:List (D×Addr×V)} (R0:Rep K μ h H) (e:H a=some (.frz ob (.dT xs)))
  (z:Paired (λ(p:D×D) (q:D×Addr×V)=>p.1=q.1/\(zaq p.1=true/\RepD K (Live μ h) H p.1 (.ref q.2.1))/\RepD K (Live μ h) H p.2 q.2.2) kvs xs):Wlk K (Itd a ob) ⟨kvs.map λp=>dI p.1,some l⟩ μ h H:=by
 have keep:∀ μ1 h1 H1,Stp μ h H μ1 h1 H1->H1 a=some (.frz ob (.dT xs)):=λμ1 h1 H1 st=>st.keep a _ (R0.notLive e (by intro vs z;cases z)) e
 refine ⟨λμ1 h1 H1 i x st R1 _ ex=>?_,λμ1 h1 H1 st R1 _=>⟨xs,keep _ _ _ st,by rw [List.length_map,Paired.length z];exact Nat.le_refl _⟩⟩
 rw [List.getElem?_map,Option.map_eq_some_iff] at ex;obtain ⟨p,ep,rfl⟩:=ex;obtain ⟨q,eq,h1,h2,h3⟩:=zfW z i p ep;refine ⟨⟨xs,q,keep _ _ _ st,eq⟩,λv' H' q_=>?_⟩;obtain ⟨hH,hv⟩:=q_;subst hH;obtain ⟨q',eq',rfl⟩:=hv xs (keep _ _ _ st);rw [eq] at eq';cases eq';exact ⟨Stp.refl,R1,RepD.stp st R0 h2.2⟩
theorem zrg (hl:IE X l f):PI X tg l (tI X.K λσ=>bnd (f σ) λr=>zhm r):=by
 refine PI.imp (zqM hl) λσ H R q0=>?_;obtain ⟨μ,h,env,R0,re,w,h',e,k⟩:=q0;simp only [zab] at e;obtain ⟨r,h1,e1,e2⟩:=e;refine ⟨μ,h,env,R0,re,r,h1,e1,λμ1 H1 v s1 R1 q1=>?_⟩
 cases r with
 | d _=>cases e2
 | loc l=>
  simp only [zhm] at e2
  split at e2
  ·rename_i kvs ho
   simp only [Option.some.injEq,Prod.mk.injEq] at e2;obtain ⟨rfl,rfl⟩:=e2;obtain ⟨a,ea,rfl⟩:=q1;obtain ⟨ob,xs,eH,z⟩:=R1.obj l a _ ea ho
   exact ⟨a,ob,xs,rfl,eH,λhz=>k μ1 H1 _ s1 R1 (zoq R1 eH z) (by rw [List.length_map,Paired.length z];exact hz)⟩
  ·cases e2
end
end IT
namespace IT
open PySem PySem.Spec L2
section
variable {X:Cx}
theorem zjt:MtR X "dict.items" (λx vs H Q=>∃ (μ:List Addr) (h:Sto) (l:Nat) (kvs:List (D×D)) (a:Addr),x=.ref a/\μ[l]?=some a/\Rep X.K μ h H/\(h[l]?=some (.dic kvs)\/h[l]?=some (.dfr kvs))/\vs=[]/\∀ v,H v=none->Q (.ref v) (upd H v (zgm v a))):=by
 intro pins s σ H x vs v us Q I rx rs q;obtain ⟨μ,h,l,kvs,a,rfl,ea,R0,ho,rfl,k⟩:=q;cases rx;cases rs;obtain ⟨xs,xv,_,_,_,_,DA⟩:=zjV I R0 ea ho;refine wpAny_call_entry F.slot_dict_items DA.dic.typeIs F.entry_dict_items ?_ (F.args_dict_items_1 _);unfold Builtin.«dict.items»;refine wpAny_bind ?_;unfold Builtin.Dict.noArgs;refine wpAny_bind (wpAny_notOrdered_dict DA.dic.typeIs ?_);show wpAny _ _ (pure a) _ _ s;refine wpAny_pure ?_;show wpAny _ _ (Builtin.Dict.showsAll a >>= _) _ _ s;unfold Builtin.Dict.showsAll
 rw [if_neg (by rw [DA.sys];exact Bool.false_ne_true)]
 refine wpAny_bind (wpAny_pure ?_);refine wpAny_bind (wpAny_newObj_type (wpAny_pure ⟨_,rfl,?_⟩));refine ⟨.ref s.heap.objs.size,upd H s.heap.objs.size (zgm s.heap.objs.size a),I.laid (t':=s.toks) (λ_ _ q=>Heap.get?_push_of_some _ q) (Nat.le_refl _) ⟨⟨_,Heap.get?_push_size _ rfl,rfl,rfl⟩,⟨_,Heap.get?_push_size _ rfl⟩,λh1 h2 ⟨o,e,c⟩ kp=>⟨o,kp o e,c⟩⟩,rfl,k _ I.fresh⟩
theorem zrE (hu:X.A.units+64<cLine) (hc:X.calm=true) (hg:Gl X "sorted") (hm:X.mg "sorted"=none) (ho:IE X o f) (hname:name=("items":Str))
  (hbase:attributeBase o name X.env (eval o X.env)=eval o X.env) (hline:(apos.endLine==cpos.line)=true) (hs:starEach [.Call (.Attribute o name apos) [] [] cpos] X.env=[(false,eval (.Call (.Attribute o name apos) [] [] cpos) X.env)]) :
  IL X (.Call (.Name "sorted" p) [.Call (.Attribute o name apos) [] [] cpos] [] pos) (λσ=>bnd (f σ) λr=>bnd (dRd r) λkvs=>opt (zbN (kvs.map zcs))):=by
 subst hname;refine PE.imp (zco (zcA hu hc) hg hm PyProof.Rows.boot_sorted (zaH (znh PySem.F.plainAttrs_dict PySem.F.slot_dict_items PySem.F.type_dict_items zjt ho hbase hline) zbP hs) (by decide) (by decide) hs rfl) λσ H Q q0=>?_;obtain ⟨μ,h,env,R0,re,zs,h',e,k⟩:=q0;simp only [zab,zas] at e;obtain ⟨r,h1,e1,kvs,h2,e2,e3,rfl⟩:=e;obtain ⟨l,rfl,ho1,rfl⟩:=zmR e2;refine ⟨μ,h,env,R0,re,.loc l,_,e1,λμ1 H1 v s1 R1 q1=>?_⟩;obtain ⟨a,ea,rfl⟩:=q1
 have ex:∃ xs,Rd H1 a (.dT xs):=by
  rcases ho1 with ho1 | ho1
  ·obtain ⟨xs,ex,_⟩:=R1.obj l a _ ea ho1;exact ⟨xs,.inl ex⟩
  ·obtain ⟨ob,xs,ex,_⟩:=R1.obj l a _ ea ho1;exact ⟨xs,.inr ⟨ob,ex⟩⟩
 refine ⟨.inr (.inr (.inl ⟨rfl,.inr ex⟩)),μ1,_,l,kvs,a,rfl,ea,R1,ho1,rfl,λv hv=>?_⟩;have sF:=Stp.fresh (μ:=μ1) (h:=h2) (o:=zgm v a) hv;refine ⟨μ1,h2,l,kvs,v,a,zs,rfl,zaj,R1.fresh hv,ea,ho1,e3,λp H' ws st R2 q2 hp=>?_⟩;exact k μ1 H' p ws ((s1.trans sF).trans st) R2 q2 hp
end
end IT
namespace IT
open PySem PySem.Spec L2
theorem zd1 (x:D):∀ l:List D,(insD x l).Perm (x::l)
 | []=>List.Perm.refl _
 | y::r=>by
  simp only [insD]
  split
  ·exact (List.Perm.cons y (zd1 x r)).trans (List.Perm.swap x y r)
  ·exact List.Perm.refl _
theorem za1:∀ l:List D,(zc7 l).Perm l
 | []=>List.Perm.refl _
 | x::r=>(zd1 x (zc7 r)).trans (List.Perm.cons x (za1 r))
theorem zhK {f:D->Nat} (x:D):∀ l:List D,(∀ y∈l,ltT y x=decide (f y<f x))->(∀ y∈l,f y≠f x)->l.Pairwise (λa b=>f a<f b)->(insD x l).Pairwise (λa b=>f a<f b)
 | [],_,_,_=>by simp [insD]
 | y::r,h,hn,hp=>by
  rw [List.pairwise_cons] at hp;simp only [insD];rw [h y List.mem_cons_self];have ny:=hn y List.mem_cons_self
  by_cases e:f y<f x
  ·rw [decide_eq_true e,if_pos rfl,List.pairwise_cons]
   refine ⟨λz hz=>?_,zhK x r (λz hz=>h z (List.mem_cons_of_mem _ hz)) (λz hz=>hn z (List.mem_cons_of_mem _ hz)) hp.2⟩
   rcases List.mem_cons.mp ((zd1 x r).mem_iff.mp hz) with rfl | hz
   ·exact e
   ·exact hp.1 z hz
  ·rw [decide_eq_false e,if_neg Bool.false_ne_true,List.pairwise_cons,List.pairwise_cons]
   refine ⟨λz hz=>?_,hp⟩
   rcases List.mem_cons.mp hz with rfl | hz
   ·omega
   ·have:=hp.1 z hz;omega
theorem zdK {f:D->Nat}:∀ l:List D,(∀ y∈l,∀ x∈l,ltT y x=decide (f y<f x))->l.Pairwise (λa b=>f a≠f b)->(zc7 l).Pairwise (λa b=>f a<f b)
 | [],_,_=>List.Pairwise.nil
 | x::r,h,hn=>by
  rw [List.pairwise_cons] at hn;refine zhK x (zc7 r) (λy hy=>h y (List.mem_cons_of_mem _ ((za1 r).mem_iff.mp hy)) x List.mem_cons_self) (λy hy=>Ne.symm (hn.1 y ((za1 r).mem_iff.mp hy))) (zdK r (λy hy z hz=>h y (List.mem_cons_of_mem _ hy) z (List.mem_cons_of_mem _ hz)) hn.2)
theorem zhX {f:D->Nat}:∀ {l m:List D},l.Perm m->l.Pairwise (λa b=>f a<f b)->m.Pairwise (λa b=>f a<f b)->l=m
 | [],m,p,_,_=>(List.Perm.nil_eq p)
 | x::l,[],p,_,_=>by simp at p
 | x :: l,y::m,p,h1,h2=>by
  rw [List.pairwise_cons] at h1 h2
  have e:x=y:=by
   rcases List.mem_cons.mp (p.mem_iff.mp List.mem_cons_self) with e | hx
   ·exact e
   ·rcases List.mem_cons.mp (p.mem_iff.mpr List.mem_cons_self) with e | hy
    ·exact e.symm
    ·have:=h1.1 y hy
     have:=h2.1 x hx
     omega
  subst e;rw [zhX (List.Perm.cons_inv p) h1.2 h2.2]
theorem zfj:∀ {l:List D},apart l=true↔l.Nodup
 | []=>by simp [apart]
 | x::r=>by
  simp only [apart,Bool.and_eq_true,List.nodup_cons,List.all_eq_true,zfj (l:=r)];refine ⟨λh=>⟨λhx=>?_,h.2⟩,λh=>⟨λy hy=>?_,h.2⟩⟩
  ·have:=h.1 x hx
   rw [D.same_refl] at this;cases this
  ·rw [zcw (x:=x) (y:=y) λe=>h.1 (by rw [e];exact hy)];rfl
theorem zen {xs ys zs:List D} (p:ys.Perm xs) (h:zbN xs=some zs):zbN ys=some zs:=by
 unfold zbN at h ⊢
 split at h
 ·rename_i hc
  simp only [Option.some.injEq] at h;simp only [Bool.and_eq_true,Bool.or_eq_true,List.all_eq_true,decide_eq_true_eq,beq_iff_eq] at hc;obtain ⟨⟨⟨⟨h4,hk⟩,ha⟩,hr⟩,hf⟩:=hc;have er:∀ x,rnk ys x=rnk xs x:=λx=>p.countP_eq _;have hr':=hr;unfold rkOk at hr';simp only [List.all_eq_true,Bool.and_eq_true,beq_iff_eq] at hr'
  have hrk:rkOk ys=true:=by
   unfold rkOk;simp only [List.all_eq_true,Bool.and_eq_true,beq_iff_eq,er];exact λx hx y hy=>hr' x (p.mem_iff.mp hx) y (p.mem_iff.mp hy)
  have hlt:∀ x∈xs,∀ y∈xs,ltT x y=decide (rnk xs x<rnk xs y):=λx hx y hy=>(hr' x hx y hy).2
  have hne:∀ l:List D,l.Nodup->(∀ x∈l,x∈xs)->l.Pairwise (λa b=>rnk xs a≠rnk xs b):=λl hn hs=>by
   induction l with
   | nil=>exact List.Pairwise.nil
   | cons x r ih=>
    rw [List.nodup_cons] at hn;refine List.pairwise_cons.mpr ⟨λy hy e=>?_,ih hn.2 λz hz=>hs z (List.mem_cons_of_mem _ hz)⟩;have hx:=hs x List.mem_cons_self;have hy':=hs y (List.mem_cons_of_mem _ hy);obtain ⟨t1,e1⟩:=Option.isSome_iff_exists.mp (hr' x hx y hy').1;obtain ⟨t2,e2⟩:=Option.isSome_iff_exists.mp (hr' y hy' x hx).1;have f1:=(hr' x hx y hy').2;have f2:=(hr' y hy' x hx).2;simp only [ltT,e1,e2,e,Nat.lt_irrefl,decide_false] at f1 f2;subst f1 f2;exact hn.1 (zlC x y e1 e2▸hy)
  have nx:=zfj.mp ha;have ny:ys.Nodup:=p.nodup_iff.mpr nx;have es:zc7 ys=zc7 xs:=zhX (f:=rnk xs) ((za1 ys).trans (p.trans (za1 xs).symm)) (zdK ys (λx hx y hy=>hlt x (p.mem_iff.mp hx) y (p.mem_iff.mp hy)) (hne ys ny λx hx=>p.mem_iff.mp hx)) (zdK xs hlt (hne xs nx λ_ h=>h));rw [if_pos,es,h];simp only [Bool.and_eq_true,Bool.or_eq_true,List.all_eq_true,decide_eq_true_eq,beq_iff_eq]
  refine ⟨⟨⟨⟨by rw [p.length_eq];exact h4,λx hx=>hk x (p.mem_iff.mp hx)⟩,zfj.mpr ny⟩,hrk⟩,hf.imp (λg x hx=>g x (p.mem_iff.mp hx)) λg x hx=>g x (p.mem_iff.mp hx)⟩
 ·cases h
theorem zfu {x:D}:∀ {l:List D},x∈once l↔x∈l
 | []=>by simp [once]
 | y :: r=>by
  simp only [once,List.mem_cons,List.mem_filter,zfu (l:=r)];constructor
  ·rintro (h | h)
   ·exact .inl h
   ·exact .inr h.1
  ·rintro (h | h)
   ·exact .inl h
   ·by_cases e:x=y
    ·exact .inl e
    ·exact .inr ⟨h,by rw [zcw (Ne.symm e)];rfl⟩
theorem zlp:∀ l:List D,(once l).Nodup
 | []=>List.nodup_nil
 | y::r=>by
  rw [once,List.nodup_cons];refine ⟨λh=>?_,(zlp r).filter _⟩
  have:=(List.mem_filter.mp h).2
  rw [D.same_refl] at this;cases this
theorem zlA:∀ {l m:List D},l.Nodup->m.Nodup->(∀ x,x∈l↔x∈m)->l.Perm m
 | [],m,_,_,h=>by
  cases m with
  | nil=>exact List.Perm.refl _
  | cons y m=>exact absurd ((h y).mpr List.mem_cons_self) (by simp)
 | x::l,m,n1,n2,h=>by
  rw [List.nodup_cons] at n1;have hx:=(h x).mp List.mem_cons_self;refine (List.Perm.cons x (zlA n1.2 (n2.erase x) λy=>?_)).trans (List.perm_cons_erase hx).symm;rw [n2.mem_erase_iff];constructor
  ·exact λhy=>⟨λe=>n1.1 (e▸hy),(h y).mp (List.mem_cons_of_mem _ hy)⟩
  ·rintro ⟨hne,hy⟩
   rcases List.mem_cons.mp ((h y).mpr hy) with e | hy
   ·exact absurd e hne
   ·exact hy
theorem zlY {α β:Type} {f:α->β}:∀ {l m:List β},l.Perm m->∀ rs:List α,m=rs.map f->∃ rs':List α,rs'.Perm rs/\l=rs'.map f:=by
 intro l m p
 induction p with
 | nil=>
  intro rs e;exact ⟨rs,List.Perm.refl _,e⟩
 | cons x p ih=>
  intro rs e
  cases rs with
  | nil=>cases e
  | cons r rs=>
   simp only [List.map_cons,List.cons.injEq] at e;obtain ⟨rs',h1,h2⟩:=ih rs e.2;exact ⟨r::rs',List.Perm.cons r h1,by rw [List.map_cons,e.1,h2]⟩
 | swap x y l=>
  intro rs e
  match rs,e with
  | [],e=>cases e
  | [_],e=>simp at e
  | r1::r2::rs,e=>
   simp only [List.map_cons,List.cons.injEq] at e;exact ⟨r2::r1::rs,List.Perm.swap _ _ _,by simp only [List.map_cons,e.1,e.2.1,e.2.2]⟩
 | trans p1 p2 ih1 ih2=>
  intro rs e;obtain ⟨rs1,h1,h2⟩:=ih2 rs e;obtain ⟨rs2,h3,h4⟩:=ih1 rs1 h2;exact ⟨rs2,h3.trans h1,h4⟩
structure SetF (w:World) (rs:List (D×Addr)) (es:Array (Int×Value)) (t:SetTable) (P:List Nat):Prop where
 tab:TabW t P
 len:P.length=rs.length
 led:t.led=!byTx w
 ents:es.toList=rs.map λr=>(zaf w r.1,Value.ref r.2)
 nd:(rs.map (·.1)).Nodup
noncomputable abbrev ziM (es:Array (Int×Value)) (ep:Nat) (t:SetTable):Obj:={ cls:=.type "set",dict:=none,data:=.set es ep t,slots:=#[] }
noncomputable def setO (v:Addr) (o:Obj):HO:=.ext λh=>h.get? v=some o
theorem zlh {X:Cx} {pins:List (Addr×Obj)} {σ:St} {H:Hp} {s:Shared} (I:Inv X pins σ H s) (d:Drawn):Inv X pins σ H { s with drawn:=d }:=
 ⟨I.ok,I.os,I.bare,I.base,I.loc,I.cell,I.free,I.freeC,I.pin,I.hok,I.len⟩
theorem zgn {K:PySem.W.Frag} {A0:Addr->Prop} {H:Hp}:∀ {xs:List D} {ws:List V},RepDs K A0 H xs ws->(∀ x∈xs,zaq x=true)->∃ vals:List (D×Addr),vals.map (·.1)=xs/\ws=vals.map (λr=>V.ref r.2)/\∀ r∈vals,zaq r.1=true/\RepD K A0 H r.1 (.ref r.2)
 | [],ws,q,_=>by
  simp only [RepDs] at q;subst q;exact ⟨[],rfl,rfl,λr hr=>nomatch hr⟩
 | x::xs,ws,q,h=>by
  simp only [RepDs] at q;obtain ⟨v,r,rfl,q1,q2⟩:=q;obtain ⟨vals,e1,e2,e3⟩:=zgn q2 λy hy=>h y (List.mem_cons_of_mem _ hy);have hx:=h x List.mem_cons_self
  have hb:∃ b,v=.ref b:=by
   cases x with
   | tup ys=>simp only [RepD] at q1;obtain ⟨b,_,e,_⟩:=q1;exact ⟨b,e⟩
   | _=>cases hx
  obtain ⟨b,rfl⟩:=hb;refine ⟨(x,b)::vals,by rw [List.map_cons,e1],by rw [List.map_cons,e2],λr hr=>?_⟩
  rcases List.mem_cons.mp hr with rfl | hr
  ·exact ⟨hx,q1⟩
  ·exact e3 r hr
theorem zkf:∀ {vals:List (D×Addr)} {us:List Value},Vals (vals.map λr=>V.ref r.2) us->us=vals.map λr=>Value.ref r.2
 | [],us,q=>by cases q;rfl
 | r::vals,us,q=>by
  cases q with
  | cons h t=>
   cases h;rw [List.map_cons,zkf t]
section
variable {X:Cx}
theorem zfY (hc:X.calm=true) (hu:X.A.units+64<cLine):zbj X (.type "set") (λus H Q=>∃ (A0:Addr->Prop) (l:Addr) (ws:List V) (xs:List D),us=[.ref l]/\SqL X.K H l ws/\RepDs X.K A0 H xs ws/\(∀ x∈xs,zaq x=true)/\((once xs).length<=4\/xs.length<=5) ∧
  ∀ (v:Addr) (rs:List (D×Addr)) (es:Array (Int×Value)) (ep:Nat) (t:SetTable) (P:List Nat),SetF X.w rs es t P->(∀ y,y∈rs.map (·.1)↔y∈xs)->(∀ r∈rs,zaq r.1=true/\RepD X.K A0 H r.1 (.ref r.2))->H v=none->Q (.ref v) (upd H v (setO v (ziM es ep t)))):=by
 intro pins s σ H us vs Q I rv q;obtain ⟨A0,l,ws,xs,rfl,hq,zs,hk,h4,k⟩:=q;obtain ⟨u,rfl,ru⟩:=rv.one;cases ru;obtain ⟨its,rv,pl,hz⟩:=I.list hq;obtain ⟨vals,e1,rfl,e3⟩:=zgn zs hk;have eu:=zkf rv;have SA:=zaB I
 refine zeR (vals:=vals) (mx:=once xs) (I.ok.hd hc) (by omega) pl.isList (by simpa using eu) (λr hr=>⟨(e3 r hr).1,zdM SA r.1 (.ref r.2) (.ref r.2) (zbH (e3 r hr).1).1 (e3 r hr).2 rfl⟩) (h4.imp id λz=>by rw [<-e1,List.length_map] at z;exact z) (λr hr=>zfu.mpr (by rw [<-e1];exact List.mem_map.mpr ⟨r,hr,rfl⟩)) λh' tk rs es ep t P S g2 g3 g4=>?_
 refine ⟨.ref s.heap.objs.size,upd H s.heap.objs.size (setO s.heap.objs.size (ziM es ep t)),I.laid (t':=tk) g4 (Nat.le_refl _) ⟨S.get,⟨_,S.get⟩,λh1 h2 e kp=>kp _ e⟩,rfl,k _ rs es ep t P ⟨S.tab,S.len,S.led,S.ents,S.nd⟩ (λy=>by rw [g2 y,e1]) (λr hr=>e3 r (g3 r hr)) I.fresh⟩
theorem zdw (hc:X.calm=true) (hu:X.A.units+64<cLine):zbj X (.builtin "sorted") (λus H Q=>∃ (μ:List Addr) (h:Sto) (v:Addr) (rs:List (D×Addr)) (es:Array (Int×Value)) (ep:Nat) (t:SetTable) (P:List Nat) (xs zs:List D),us=[.ref v]/\H v=some (setO v (ziM es ep t))/\SetF X.w rs es t P/\(∀ y,y∈rs.map (·.1)↔y∈xs) ∧
  (∀ r∈rs,zaq r.1=true/\RepD X.K (Live μ h) H r.1 (.ref r.2))/\zbN (once xs)=some zs/\∀ p ws,RepDs X.K (Live μ h) H zs ws->H p=none->Q (.ref p) (upd H p (.lst ws))):=by
 intro pins s σ H us vs Q I rv q;obtain ⟨μ,h,v,rs,es,ep,t,P,xs,zs,rfl,hv,F,hm,hk,hz,k⟩:=q;obtain ⟨u,rfl,ru⟩:=rv.one;cases ru;have SA:=zaB I;have hget:s.heap.get? v=some (ziM es ep t):=(show zaR X.prog X.w H s.heap v (setO v (ziM es ep t)) from I.hok v _ hv).1;have S:SetW X.w s.heap v rs es ep t P:=⟨hget,F.tab,F.len,F.led,F.ents,λr hr=>⟨(hk r hr).1,zdM SA r.1 (.ref r.2) (.ref r.2) (zbH (hk r hr).1).1 (hk r hr).2 rfl⟩,F.nd⟩
 refine zfZ (G:=λvs s'=>∃ (h':Heap) (d:Drawn) (rs':List (D×Addr)),s'={ s with heap:=h',drawn:=d }/\(∀ b o,s.heap.get? b=some o->h'.get? b=some o)/\s.heap.objs.size<=h'.objs.size/\rs'.Perm rs/\vs=rs'.map λr=>Value.ref r.2) (by omega)
  (λQ' E hQ=>zhd (A:=X.A.in1) (I.ok.hd hc) S λh' d vs0 g1 g2 g3=>hQ _ _ ?_) λvs s' ⟨h',d,rs',e1,g1,g2,g3,e2⟩=>?_
 ·rw [S.ents] at g3
  obtain ⟨rs',p1,p2⟩:=zlY g3 rs rfl
  exact ⟨h',d,rs',rfl,g1,g2,p1,by rw [p2,List.map_map];rfl⟩
 ·subst e1
  have pm:(rs'.map (·.1)).Perm (once xs):=(g3.map _).trans (zlA S.nd (zlp xs) λy=>by rw [hm y,zfu]);obtain ⟨p,Sp⟩:=zhJ (zen pm hz);have hk':∀ r∈rs',zaq r.1=true/\RepD X.K (Live μ h) H r.1 (.ref r.2):=λr hr=>hk r (g3.mem_iff.mp hr)
  have KA:KAts h' (rs'.map (·.1)) vs:=by
   rw [e2];refine zhB (by simp) λj x u e3 e4=>?_;rw [List.getElem?_map,Option.map_eq_some_iff] at e3 e4;obtain ⟨r,e5,rfl⟩:=e3;obtain ⟨r',e6,rfl⟩:=e4;rw [e5] at e6;cases e6;have hr:=List.mem_of_getElem? e5;exact KAt.keep (λc its ⟨o,e,y⟩=>⟨o,g1 c o e,y⟩) _ _ (zdM SA r.1 (.ref r.2) (.ref r.2) (zbH (hk' r hr).1).1 (hk' r hr).2 rfl)
  refine ⟨rs'.map (·.1),zs,p,KA,Sp,λh2 c hk2 hL=>?_⟩
  have RD:RepDs X.K (Live μ h) H (rs'.map (·.1)) (rs'.map λr=>V.ref r.2):=by
   refine zdb (by simp) λj x u e3 e4=>?_;rw [List.getElem?_map,Option.map_eq_some_iff] at e3 e4;obtain ⟨r,e5,rfl⟩:=e3;obtain ⟨r',e6,rfl⟩:=e4;rw [e5] at e6;cases e6;exact (hk' r (List.mem_of_getElem? e5)).2
  have V1:Vals (rs'.map λr=>V.ref r.2) vs:=by
   rw [e2];refine zfz (by simp) λj x u e3 e4=>?_;rw [List.getElem?_map,Option.map_eq_some_iff] at e3 e4;obtain ⟨r,e5,rfl⟩:=e3;obtain ⟨r',e6,rfl⟩:=e4;rw [e5] at e6;cases e6;rfl
  refine ⟨.ref h'.objs.size,upd H h'.objs.size (.lst (p.map λi=>(rs'.map λr=>V.ref r.2).getD i .non)),zlh (I.laid (h':=h2) (t':=s.toks) (o:=.lst (p.map λi=>(rs'.map λr=>V.ref r.2).getD i .non)) (λb o e=>hk2 b o (g1 b o e)) g2 ⟨?_,_,c,zh1 V1 (λi hi=>by have:=Sp.mem i hi;simpa using this),hL⟩) d,rfl,k _ _ (by rw [Sp.out];exact zfX RD Sp.mem) (I.hok.fresh g2)⟩
  rw [List.length_map,Sp.plen,sizeLine_eq]
  have:=Sp.len
  omega
theorem zqj {e:Expr} {p p2 pos2 pos:Pos} {f:IT.Env->M R} (hu:X.A.units+64<cLine) (hc:X.calm=true) (hg:Gl X "sorted") (hm:X.mg "sorted"=none) (hg2:Gl X "set") (hm2:X.mg "set"=none) (he:IE X e f) (hs:starEach [e] X.env=[(false,eval e X.env)])
  (hs2:starEach [.Call (.Name "set" p2) [e] [] pos2] X.env=[(false,eval (.Call (.Name "set" p2) [e] [] pos2) X.env)]) :
  IL X (.Call (.Name "sorted" p) [.Call (.Name "set" p2) [e] [] pos2] [] pos) (λσ=>bnd (f σ) λr=>bnd (rd r) λd=>opt (zbd d)):=by
 refine PE.imp (zco (zdw hc hu) hg hm PyProof.Rows.boot_sorted (zaH (zbB (zfY hc hu) hg2 hm2 PyProof.Rows.boot_set (zaH he zbP hs) (by decide) (by decide) hs rfl) zbP hs2) (by decide) (by decide) hs2 rfl) λσ H Q q0=>?_;obtain ⟨μ,h,env,R0,re,zs,h',e,k⟩:=q0;simp only [zab,zas] at e;obtain ⟨r,h1,e1,d,h2,e2,e3,rfl⟩:=e;refine ⟨μ,h,env,R0,re,r,h1,e1,λμ1 H1 v s1 R1 q1=>?_⟩;obtain ⟨rfl,z⟩:=za2 R1 q1 e2
 cases d with
 | lst xs=>
  obtain ⟨a,vs,rfl,q,zs'⟩:=z;simp only [zbd] at e3
  split at e3
  ·rename_i hb
   simp only [Bool.and_eq_true,Bool.or_eq_true,List.all_eq_true] at hb;refine ⟨Live μ1 h2,a,vs,xs,rfl,q,zs',hb.1.2,hb.2.imp of_decide_eq_true of_decide_eq_true,λv rs es ep t P F hmem hkey hv=>?_⟩;have sF:=Stp.fresh (μ:=μ1) (h:=h2) (o:=setO v (ziM es ep t)) hv;refine ⟨μ1,h2,v,rs,es,ep,t,P,xs,zs,rfl,zaj,F,hmem,λr hr=>⟨(hkey r hr).1,RepD.stp sF R1 (hkey r hr).2⟩,e3,λp ws q2 hp=>?_⟩;exact k μ1 _ p ws (s1.trans sF) (R1.fresh hv) q2 hp
  ·cases e3
 | _=>simp [zbd] at e3
end
end IT
namespace IT
open PySem PySem.Spec L2
inductive GEnt (K:PySem.W.Frag) (w:World):List (List Nat×D)->List DictEntry->Prop where
 | nil:GEnt K w [] []
 | cons {k:List Nat} {d:D} {e:DictEntry} {t:Tok} {v:V} {kvs:List (List Nat×D)} {es:List DictEntry} (h1:e.hash=hashStr w (zaa k)) (h2:e.key=.str (zaa k) t) (h3:RelV v e.val) (h4:∀ A H,RepD K A H d v) (r:GEnt K w kvs es):GEnt K w ((k,d)::kvs) (e::es)
inductive GDic (K:PySem.W.Frag) (w:World) (mg:Str->Option Value) (x:Str) (kvs:List (List Nat×D)):Prop where
 | mk (a:Addr) (o:Obj) (es:Array DictEntry) (ep:Nat) (h1:mg x=some (.ref a)) (h2:K.lookup a=some o) (h4:o.ExactDict) (h5:o.data=.dict es ep) (h6:GEnt K w kvs es.toList) (h7:(kvs.map (·.1)).Nodup)
section
variable {K:PySem.W.Frag} {w:World} {prog:Program}
theorem GEnt.keys:∀ {kvs:List (List Nat×D)} {es:List DictEntry},GEnt K w kvs es->∀ e∈es,∃ k,(strKind prog w).is k e.key=true/\e.hash=(strKind prog w).hash k
 | _,_,.nil,e,h=>nomatch h
 | _,_,.cons (k:=k) (e:=e0) h1 h2 h3 h4 r,e,h=>by
  rcases List.mem_cons.mp h with rfl | h
  ·exact ⟨zaa k,by rw [h2];exact strKind_is ..,h1⟩
  ·exact GEnt.keys r e h
theorem GEnt.pairs:∀ {kvs:List (List Nat×D)} {es:List DictEntry},GEnt K w kvs es->∃ vs:List (Str×Value),Pairs (strKind prog w) es vs/\vs.map (·.1)=kvs.map (λp=>zaa p.1)/\∀ (k:List Nat) (d:D),kvs.lookup k=some d->∃ (i:Nat) (u:Value) (v:V),vs[i]?=some (zaa k,u)/\RelV v u/\∀ A H,RepD K A H d v
 | _,_,.nil=>⟨[],.nil,rfl,λk d e=>by simp at e⟩
 | _,_,.cons (k:=k) (d:=d) (e:=e0) (v:=v) (kvs:=kvs) h1 h2 h3 h4 r=>by
  obtain ⟨vs,g1,g2,g3⟩:=GEnt.pairs r
  refine ⟨(zaa k,e0.val)::vs,.cons (by rw [h2];exact strKind_is ..) rfl g1,by rw [List.map_cons,List.map_cons,g2],λk' d' e=>?_⟩
  rw [List.lookup_cons] at e
  split at e
  ·rename_i hk
   have hk:=eq_of_beq hk;cases e;subst hk;exact ⟨0,_,v,rfl,h3,h4⟩
  ·obtain ⟨i,u,v',e1,e2⟩:=g3 k' d' e
   exact ⟨i+1,u,v',by simpa using e1,e2⟩
end
section
variable {X:Cx}
end
section
variable {X:Cx} {pos:Pos}
end
end IT
open PySem.AutoSeq1 (wpAny_loadPart')
namespace PySem
section
variable {prog:Program} {w:World} {A:Around} {E:Value->Shared->Prop} {s:Shared} {h0:Heap} {e it l:Addr} {i n k:Nat} {vs items:Array Value} {x:Value}
end
section
variable {prog:Program} {w:World} {A:Around} {E:Value->Shared->Prop} {s:Shared}
theorem zsY {M:Model} {c:Code} {P:Value->Shared->Prop} {R:Result->Shared->Prop} (h:codeAny M A c (wants P E) s) (k:∀ v t,P v t->R (.ok (.ret v)) t) (ke:∀ e t,E e t->R (.error e) t):codeAny M A c R s:=
 codeAny_mono h λr t z=>match r,z with
  | .ok (.ret v),z=>k v t z
  | .error e,z=>ke e t z
end
end PySem
namespace IT
open PySem PySem.Spec L2
section
variable {X:Cx}
end
end IT
namespace PySem
section
variable {M:Model} {A:Around} {E:Value->Shared->Prop} {s:Shared} {env:Env}
end
end PySem
namespace IT
open PySem PySem.Spec L2
section
variable {X:Cx}
end
end IT
namespace IT
open PySem PyProof.Rows
section
variable {prog:Program} {w:World} {A:Around} {E:Value->Shared->Prop} {R:Result->Shared->Prop} {I l S:Addr} {items:Array Value} {ts:List (List Nat)}
variable {s:Shared}
end
open PySem PySem.Spec L2
section
variable {X:Cx}
end
end IT
namespace IT
open PySem PySem.Spec L2
theorem noT {P:Prop} (h:false=true):P:=by cases h
theorem noF {P:Prop} (h:true=false):P:=by cases h
structure zkw where
 name:Str
 init:Nat
 fields:List Str
 meths:List (Str×Nat)
structure Cst where
 N:List Str
 names:List (Str×NameKind)
 fns:List (Str×Nat×List D)
 globs:List (Str×D)
 top:Bool
 cls:List zkw
 gds:List (Str×List (List Nat×D))
noncomputable def zan:Expr->Bool
 | .Starred _ _=>false
 | _=>true
noncomputable def visB (C:Cst) (x:Str):Bool:=match C.names.lookup x with
 | some .local=>true
 | some .cell=>true
 | some .free=>true
 | _=>false
noncomputable def locB (C:Cst) (x:Str):Bool:=match C.names.lookup x with
 | some .local=>true
 | some .cell=>C.top
 | _=>false
noncomputable def zc6 (C:Cst) (x:Str):Bool:=match C.names.lookup x with
 | some .globalImplicit=>true
 | _=>false
noncomputable def zbp (x:Str):Bool:=!(x==("__debug__":Str))&&!(x==("__classdict__":Str))
noncomputable def conB:D->Const->Bool
 | .non,.none=>true
 | .bl b,.bool c=>b==c
 | .int i,.int j=>i==j
 | .str x,.str y=>zaa x==y
 | _,_=>false
noncomputable def boB:Bo->Operator->Bool
 | .add,.Add=>true
 | .sub,.Sub=>true
 | .mul,.Mult=>true
 | .fdiv,.FloorDiv=>true
 | .mod,.Mod=>true
 | .pow,.Pow=>true
 | .band,.BitAnd=>true
 | .bor,.BitOr=>true
 | _,_=>false
noncomputable def coB:Co->CmpOp->Bool
 | .eq,.Eq=>true
 | .ne,.NotEq=>true
 | .lt,.Lt=>true
 | .le,.LtE=>true
 | .gt,.Gt=>true
 | .ge,.GtE=>true
 | .isin,.In=>true
 | .notin,.NotIn=>true
 | .isN,.Is=>true
 | .isnotN,.IsNot=>true
 | _,_=>false
noncomputable def biS:Bi->Str
 | .len=>"len"
 | .sum=>"sum"
 | .tuple=>"tuple"
 | .int=>"int"
 | .all=>"all"
 | .any=>"any"
 | .max=>"max"
 | .min=>"min"
 | .str=>"str"
noncomputable def meS:Me->Str
 | .append=>"append"
 | .pop=>"pop"
 | .popAt=>"pop"
 | .clear=>"clear"
 | .extend=>"extend"
noncomputable def biOn:Bi->Bool
 | .len=>true
 | .sum=>false
 | .tuple=>true
 | .int=>true
 | .all=>true
 | .any=>false
 | .max=>false
 | .min=>false
 | .str=>true
noncomputable def meOn:Me->Bool
 | .append=>true
 | .pop=>false
 | .popAt=>false
 | .clear=>true
 | .extend=>false
noncomputable def zj4:Expr->Bool
 | .Call _ [] _ _=>false
 | _=>true
noncomputable def me0:Me->Bool
 | .pop=>true
 | .clear=>true
 | _=>false
noncomputable def zgM:Expr->Bool
 | .Name _ _=>true
 | _=>false
noncomputable def zjW:Expr->Bool
 | .Set _ _ _=>true
 | _=>false
noncomputable def zdO:Expr->Bool
 | .Slice _ _ _ _=>true
 | _=>false
noncomputable def zda:E->Bool
 | .con .non=>true
 | _=>false
noncomputable def zd2:Expr->Bool
 | .UnaryOp .Not _ _=>false
 | .BoolOp _ _ _=>false
 | .IfExp _ _ _ _=>false
 | .Compare _ _ _ _=>false
 | _=>true
noncomputable def zlz:Expr->Bool
 | .Compare _ _ _ _=>true
 | _=>false
noncomputable def zrf (x:Str):Str:=("?":Str)++x
noncomputable def relN (outer names:List (Str×NameKind)):List (Str×NameKind):=
 names.map λ(n,k)=>if (k==NameKind.free&&outer.lookup n==some .cell) then (n,.cell) else (n,k)
mutual
noncomputable def zcC:Tg->Expr->List (Nat×Str)
 | .name i,e=>match e with
  | .Name x _=>[(i,x)]
  | _=>[]
 | .tup ts,e=>match e with
  | .Tuple xs _ _=>tgNamess ts xs
  | _=>[]
noncomputable def tgNamess:List Tg->List Expr->List (Nat×Str)
 | [],_=>[]
 | t::ts,es=>match es with
  | e::es=>zcC t e++tgNamess ts es
  | []=>[]
end
noncomputable def blkN (N:List Str) (own:List (Nat×Str)):List Str:=
 own.foldl (λM p=>M.set p.1 p.2) (N.map λx=>if own.any (λp=>p.2==x) then zrf x else x)
noncomputable def blkC (C:Cst) (sc:Scope) (own:List (Nat×Str)):Cst:={ N:=blkN C.N own,names:=relN C.names sc.names,fns:=C.fns,globs:=C.globs,top:=false,cls:=C.cls,gds:=C.gds }
noncomputable def zpV (C:Cst) (C':Cst) (own:List Nat) (i:Nat) (x:Str):Bool:=match C'.names.lookup x with
 | some .local=>own.contains i
 | some .cell | some .free=>own.contains i||(C.N[i]?==some x&&(C.names.lookup x==some .cell||C.names.lookup x==some .free))
 | _=>true
noncomputable def zk9 (C:Cst) (sc:Scope) (C':Cst) (own:List Nat):Bool:=
 sc.kind==.function&&sc.names.all (λy=>y.2 != .cell)&&sc.names.all (λx=>x.2 != .local||sc.names.lookup x.1==some .local)
 && sc.names.all (λx=>x.2 != .free||C.names.lookup x.1==some .cell||C.names.lookup x.1==some .free)
 && (List.range C'.N.length).all (λi=>match C'.N[i]? with | some x=>zpV C C' own i x | none=>true)
 && C'.N.length==C.N.length&&decide C'.N.Nodup
mutual
noncomputable def zdi (C:Cst):Tg->Expr->Bool
 | .name i,e=>match e with
  | .Name x _=>C.N[i]?==some x&&locB C x
  | _=>false
 | .tup ts,e=>match e with
  | .Tuple xs _ _=>chkTgs C ts xs
  | _=>false
noncomputable def chkTgs (C:Cst):List Tg->List Expr->Bool
 | [],es=>match es with
  | []=>true
  | _=>false
 | t::ts,es=>match es with
  | e::es=>zan e&&zdi C t e&&chkTgs C ts es
  | []=>false
end
noncomputable def enuB:I->Expr->Bool
 | _,_=>true
theorem andT {a b:Bool} (h:(a&&b)=true):a=true/\b=true:=by simpa using h
noncomputable def kCN (e:Expr) (k:Str->Pos->(List Expr)->Pos->Bool):Bool:=match e with
 | .Call (.Name a0 a1) a2 [] a3=>k a0 a1 a2 a3
 | _=>false
inductive JCN (k:Str->Pos->(List Expr)->Pos->Bool):Expr->Prop
 | mk a0 a1 a2 a3 (h:k a0 a1 a2 a3=true):JCN k (.Call (.Name a0 a1) a2 [] a3)
theorem ofCN (h:kCN e k=true):JCN k e:=by
 cases e with
 | Call f as ks p=>cases f<;>cases ks<;>first | exact noT h | exact ⟨_,_,_,_,h⟩
 | _=>exact noT h
noncomputable def kCA (e:Expr) (k:Expr->Str->Pos->(List Expr)->Pos->Bool):Bool:=match e with
 | .Call (.Attribute a0 a1 a2) a3 [] a4=>k a0 a1 a2 a3 a4
 | _=>false
inductive JCA (k:Expr->Str->Pos->(List Expr)->Pos->Bool):Expr->Prop
 | mk a0 a1 a2 a3 a4 (h:k a0 a1 a2 a3 a4=true):JCA k (.Call (.Attribute a0 a1 a2) a3 [] a4)
theorem ofCA (h:kCA e k=true):JCA k e:=by
 cases e with
 | Call f as ks p=>cases f<;>cases ks<;>first | exact noT h | exact ⟨_,_,_,_,_,h⟩
 | _=>exact noT h
noncomputable def kNm (e:Expr) (k:Str->Pos->Bool):Bool:=match e with
 | .Name a0 a1=>k a0 a1
 | _=>false
inductive JNm (k:Str->Pos->Bool):Expr->Prop
 | mk a0 a1 (h:k a0 a1=true):JNm k (.Name a0 a1)
theorem ofNm (h:kNm e k=true):JNm k e:=by
 cases e<;>first | exact noT h | exact ⟨_,_,h⟩
noncomputable def kCo (e:Expr) (k:Const->Nat->Pos->Bool):Bool:=match e with
 | .Constant a0 a1 a2=>k a0 a1 a2
 | _=>false
inductive JCo (k:Const->Nat->Pos->Bool):Expr->Prop
 | mk a0 a1 a2 (h:k a0 a1 a2=true):JCo k (.Constant a0 a1 a2)
theorem ofCo (h:kCo e k=true):JCo k e:=by
 cases e<;>first | exact noT h | exact ⟨_,_,_,h⟩
noncomputable def kBi (e:Expr) (k:Expr->Operator->Expr->Pos->Bool):Bool:=match e with
 | .BinOp a0 a1 a2 a3=>k a0 a1 a2 a3
 | _=>false
inductive JBi (k:Expr->Operator->Expr->Pos->Bool):Expr->Prop
 | mk a0 a1 a2 a3 (h:k a0 a1 a2 a3=true):JBi k (.BinOp a0 a1 a2 a3)
theorem ofBi (h:kBi e k=true):JBi k e:=by
 cases e<;>first | exact noT h | exact ⟨_,_,_,_,h⟩
noncomputable def kUn (e:Expr) (k:PySem.UnaryOp->Expr->Pos->Bool):Bool:=match e with
 | .UnaryOp a0 a1 a2=>k a0 a1 a2
 | _=>false
inductive JUn (k:PySem.UnaryOp->Expr->Pos->Bool):Expr->Prop
 | mk a0 a1 a2 (h:k a0 a1 a2=true):JUn k (.UnaryOp a0 a1 a2)
theorem ofUn (h:kUn e k=true):JUn k e:=by
 cases e<;>first | exact noT h | exact ⟨_,_,_,h⟩
noncomputable def kCm (e:Expr) (k:Expr->(List CmpOp)->(List Expr)->Pos->Bool):Bool:=match e with
 | .Compare a0 a1 a2 a3=>k a0 a1 a2 a3
 | _=>false
inductive JCm (k:Expr->(List CmpOp)->(List Expr)->Pos->Bool):Expr->Prop
 | mk a0 a1 a2 a3 (h:k a0 a1 a2 a3=true):JCm k (.Compare a0 a1 a2 a3)
theorem ofCm (h:kCm e k=true):JCm k e:=by
 cases e<;>first | exact noT h | exact ⟨_,_,_,_,h⟩
noncomputable def kBo (e:Expr) (k:PySem.BoolOp->(List Expr)->Pos->Bool):Bool:=match e with
 | .BoolOp a0 a1 a2=>k a0 a1 a2
 | _=>false
inductive JBo (k:PySem.BoolOp->(List Expr)->Pos->Bool):Expr->Prop
 | mk a0 a1 a2 (h:k a0 a1 a2=true):JBo k (.BoolOp a0 a1 a2)
theorem ofBo (h:kBo e k=true):JBo k e:=by
 cases e<;>first | exact noT h | exact ⟨_,_,_,h⟩
noncomputable def kIf (e:Expr) (k:Expr->Expr->Expr->Pos->Bool):Bool:=match e with
 | .IfExp a0 a1 a2 a3=>k a0 a1 a2 a3
 | _=>false
inductive JIf (k:Expr->Expr->Expr->Pos->Bool):Expr->Prop
 | mk a0 a1 a2 a3 (h:k a0 a1 a2 a3=true):JIf k (.IfExp a0 a1 a2 a3)
theorem ofIf (h:kIf e k=true):JIf k e:=by
 cases e<;>first | exact noT h | exact ⟨_,_,_,_,h⟩
noncomputable def kTu (e:Expr) (k:(List Expr)->Nat->Pos->Bool):Bool:=match e with
 | .Tuple a0 a1 a2=>k a0 a1 a2
 | _=>false
inductive JTu (k:(List Expr)->Nat->Pos->Bool):Expr->Prop
 | mk a0 a1 a2 (h:k a0 a1 a2=true):JTu k (.Tuple a0 a1 a2)
theorem ofTu (h:kTu e k=true):JTu k e:=by
 cases e<;>first | exact noT h | exact ⟨_,_,_,h⟩
noncomputable def kSu (e:Expr) (k:Expr->Expr->Pos->Bool):Bool:=match e with
 | .Subscript a0 a1 a2=>k a0 a1 a2
 | _=>false
inductive JSu (k:Expr->Expr->Pos->Bool):Expr->Prop
 | mk a0 a1 a2 (h:k a0 a1 a2=true):JSu k (.Subscript a0 a1 a2)
theorem ofSu (h:kSu e k=true):JSu k e:=by
 cases e<;>first | exact noT h | exact ⟨_,_,_,h⟩
noncomputable def kSl (e:Expr) (k:(Option Expr)->(Option Expr)->(Option Expr)->Pos->Bool):Bool:=match e with
 | .Slice a0 a1 a2 a3=>k a0 a1 a2 a3
 | _=>false
inductive JSl (k:(Option Expr)->(Option Expr)->(Option Expr)->Pos->Bool):Expr->Prop
 | mk a0 a1 a2 a3 (h:k a0 a1 a2 a3=true):JSl k (.Slice a0 a1 a2 a3)
theorem ofSl (h:kSl e k=true):JSl k e:=by
 cases e<;>first | exact noT h | exact ⟨_,_,_,_,h⟩
noncomputable def kLC (e:Expr) (k:Expr->(List Comprehension)->Scope->Pos->Bool):Bool:=match e with
 | .ListComp a0 a1 a2 a3=>k a0 a1 a2 a3
 | _=>false
inductive JLC (k:Expr->(List Comprehension)->Scope->Pos->Bool):Expr->Prop
 | mk a0 a1 a2 a3 (h:k a0 a1 a2 a3=true):JLC k (.ListComp a0 a1 a2 a3)
theorem ofLC (h:kLC e k=true):JLC k e:=by
 cases e<;>first | exact noT h | exact ⟨_,_,_,_,h⟩
noncomputable def kLi (e:Expr) (k:(List Expr)->Pos->Bool):Bool:=match e with
 | .List a0 a1=>k a0 a1
 | _=>false
inductive JLi (k:(List Expr)->Pos->Bool):Expr->Prop
 | mk a0 a1 (h:k a0 a1=true):JLi k (.List a0 a1)
theorem ofLi (h:kLi e k=true):JLi k e:=by
 cases e<;>first | exact noT h | exact ⟨_,_,h⟩
noncomputable def kDi (e:Expr) (k:(List (Option Expr))->(List Expr)->Pos->Bool):Bool:=match e with
 | .Dict a0 a1 a2=>k a0 a1 a2
 | _=>false
inductive JDi (k:(List (Option Expr))->(List Expr)->Pos->Bool):Expr->Prop
 | mk a0 a1 a2 (h:k a0 a1 a2=true):JDi k (.Dict a0 a1 a2)
theorem ofDi (h:kDi e k=true):JDi k e:=by
 cases e<;>first | exact noT h | exact ⟨_,_,_,h⟩
noncomputable def kAs (e:Stmt) (k:(List Expr)->Expr->Pos->Bool):Bool:=match e with
 | .Assign a0 a1 a2=>k a0 a1 a2
 | _=>false
inductive JAs (k:(List Expr)->Expr->Pos->Bool):Stmt->Prop
 | mk a0 a1 a2 (h:k a0 a1 a2=true):JAs k (.Assign a0 a1 a2)
theorem ofAs (h:kAs e k=true):JAs k e:=by
 cases e<;>first | exact noT h | exact ⟨_,_,_,h⟩
noncomputable def kEx (e:Stmt) (k:Expr->Pos->Bool):Bool:=match e with
 | .Expr a0 a1=>k a0 a1
 | _=>false
inductive JEx (k:Expr->Pos->Bool):Stmt->Prop
 | mk a0 a1 (h:k a0 a1=true):JEx k (.Expr a0 a1)
theorem ofEx (h:kEx e k=true):JEx k e:=by
 cases e<;>first | exact noT h | exact ⟨_,_,h⟩
noncomputable def kIfS (e:Stmt) (k:Expr->(List Stmt)->(List Stmt)->Pos->Bool):Bool:=match e with
 | .If a0 a1 a2 a3=>k a0 a1 a2 a3
 | _=>false
inductive JIfS (k:Expr->(List Stmt)->(List Stmt)->Pos->Bool):Stmt->Prop
 | mk a0 a1 a2 a3 (h:k a0 a1 a2 a3=true):JIfS k (.If a0 a1 a2 a3)
theorem zr3 (h:kIfS e k=true):JIfS k e:=by
 cases e<;>first | exact noT h | exact ⟨_,_,_,_,h⟩
noncomputable def kFo (e:Stmt) (k:Expr->Expr->(List Stmt)->(List Stmt)->Pos->Bool):Bool:=match e with
 | .For a0 a1 a2 a3 a4=>k a0 a1 a2 a3 a4
 | _=>false
inductive JFo (k:Expr->Expr->(List Stmt)->(List Stmt)->Pos->Bool):Stmt->Prop
 | mk a0 a1 a2 a3 a4 (h:k a0 a1 a2 a3 a4=true):JFo k (.For a0 a1 a2 a3 a4)
theorem ofFo (h:kFo e k=true):JFo k e:=by
 cases e<;>first | exact noT h | exact ⟨_,_,_,_,_,h⟩
noncomputable def kRe (e:Stmt) (k:(Option Expr)->Pos->Bool):Bool:=match e with
 | .Return a0 a1=>k a0 a1
 | _=>false
inductive JRe (k:(Option Expr)->Pos->Bool):Stmt->Prop
 | mk a0 a1 (h:k a0 a1=true):JRe k (.Return a0 a1)
theorem ofRe (h:kRe e k=true):JRe k e:=by
 cases e<;>first | exact noT h | exact ⟨_,_,h⟩
noncomputable def kNo (e:PySem.UnaryOp) (k:Bool):Bool:=match e with
 | .Not=>k
 | _=>false
inductive JNo (k:Bool):PySem.UnaryOp->Prop
 | mk  (h:k=true):JNo k .Not
theorem ofNo (h:kNo e k=true):JNo k e:=by
 cases e<;>first | exact noT h | exact ⟨h⟩
noncomputable def kAn (e:PySem.BoolOp) (k:Bool):Bool:=match e with
 | .And=>k
 | _=>false
inductive JAn (k:Bool):PySem.BoolOp->Prop
 | mk  (h:k=true):JAn k .And
theorem ofAn (h:kAn e k=true):JAn k e:=by
 cases e<;>first | exact noT h | exact ⟨h⟩
noncomputable def kOr (e:PySem.BoolOp) (k:Bool):Bool:=match e with
 | .Or=>k
 | _=>false
inductive JOr (k:Bool):PySem.BoolOp->Prop
 | mk  (h:k=true):JOr k .Or
theorem ofOr (h:kOr e k=true):JOr k e:=by
 cases e<;>first | exact noT h | exact ⟨h⟩
noncomputable def kNil {α:Type} (l:List α) (b:Bool):Bool:=match l with
 | []=>b
 | _::_=>false
inductive JNil {α:Type} (b:Bool):List α->Prop
 | mk (h:b=true):JNil b []
theorem zjm (h:kNil l b=true):JNil b l:=by
 cases l with
 | nil=>exact ⟨h⟩
 | cons _ _=>exact noT h
noncomputable def zcc {α:Type} (l:List α) (k:α->List α->Bool):Bool:=match l with
 | []=>false
 | v::vs=>k v vs
inductive zrx {α:Type} (k:α->List α->Bool):List α->Prop
 | mk (v:α) (vs:List α) (h:k v vs=true):zrx k (v::vs)
theorem za0 (h:zcc l k=true):zrx k l:=by
 cases l with
 | nil=>exact noT h
 | cons _ _=>exact ⟨_,_,h⟩
noncomputable def kOne {α:Type} (l:List α) (k:α->Bool):Bool:=zcc l λv vs=>kNil vs (k v)
inductive JOne {α:Type} (k:α->Bool):List α->Prop
 | mk (v:α) (h:k v=true):JOne k [v]
theorem zbM (h:kOne l k=true):JOne k l:=by
 obtain ⟨v,vs,h⟩:=za0 h;obtain ⟨h⟩:=zjm h;exact ⟨_,h⟩
noncomputable def zq0 {α:Type} (o:Option α) (b:Bool):Bool:=match o with
 | none=>b
 | some _=>false
inductive zpW {α:Type} (b:Bool):Option α->Prop
 | mk (h:b=true):zpW b none
theorem zqZ (h:zq0 o b=true):zpW b o:=by
 cases o with
 | none=>exact ⟨h⟩
 | some _=>exact noT h
noncomputable def zpY {α:Type} (o:Option α) (k:α->Bool):Bool:=match o with
 | none=>false
 | some v=>k v
inductive zqf {α:Type} (k:α->Bool):Option α->Prop
 | mk (v:α) (h:k v=true):zqf k (some v)
theorem zq8 (h:zpY o k=true):zqf k o:=by
 cases o with
 | none=>exact noT h
 | some _=>exact ⟨_,h⟩
mutual
noncomputable def chkE:E->Cst->Expr->Bool
 | .con d,_,e=>kCo e λc _ _=>(conB d c)
 | .var i,C,e=>kNm e λx _=>(C.N[i]?==some x&&visB C x&&zbp x)
 | .bin o a b,C,e=>kBi e λl op r _=>(boB o op&&chkE a C l&&chkE b C r)
 | .cmp o a b,C,e=>kCm e λl z7 z9 _=>kOne z7 λop=>kOne z9 λr=>(coB o op&&chkE a C l&&chkE b C r&&!zjW r)
 | .and a b,C,e=>kBo e λz12 z13 pos=>kAn z12 (zcc z13 λv z14=>zcc z14 λw rest=>(chkE a C v&&(match rest with | []=>chkE b C w | y::ys=>chkE b C (.BoolOp .And (w::y::ys) pos))))
 | .or a b,C,e=>kBo e λz16 z17 pos=>kOr z16 (zcc z17 λv z18=>zcc z18 λw rest=>(chkE a C v&&(match rest with | []=>chkE b C w | y::ys=>chkE b C (.BoolOp .Or (w::y::ys) pos))))
 | .not a,C,e=>kUn e λz20 x _=>kNo z20 ((chkE a C x))
 | .ife c a b,C,e=>kIf e λt x y _=>(chkT c C t&&chkE a C x&&chkE b C y)
 | .tup es,C,e=>kTu e λxs _ _=>(chkEs es C xs&&decide (xs.length<=1000))
 | .lst _ l,C,e=>chkL l C e
 | .idx a i,C,e=>kSu e λx y _=>(chkE a C x&&chkE i C y&&!zdO y)
 | .sli a lo hi,C,e=>kSu e λx z25 _=>kSl z25 λl u z26 _=>zq0 z26 ((chkE a C x&&(match l with | none=>zda lo | some y=>chkE lo C y)&&(match u with | none=>zda hi | some y=>chkE hi C y)))
 | .call f es,C,e=>kCN e λx _ z29 _=>zcc z29 λv vs=>((match C.fns[f]? with | some p=>p.1==x | none=>false)&&zc6 C x&&zbp x&&chkEs es C (v::vs))
 | .bi b es,C,e=>kCN e λx _ z33 _=>zcc z33 λv vs=>((biOn b&&x==biS b)&&zc6 C x&&chkEs es C (v::vs))
 | .me m o es,C,e=>kCA e λov name apos vs cpos=>(match vs with
  | v::vs=>(!me0 m&&meOn m)&&name==meS m&&zgM ov&&chkE o C ov&&chkEs es C (v::vs)&&apos.endLine==cpos.line&&decide ((v::vs).length<20)
  | []=>(me0 m&&meOn m)&&name==meS m&&zgM ov&&chkE o C ov&&chkEs es C []&&apos.endLine==cpos.line)
 | .glo d,C,e=>kNm e λx _=>((match C.globs.lookup x with | some d'=>D.same d d' | none=>false)&&zc6 C x&&zbp x)
 | .isi t a,C,e=>kCN e λx _ z48 _=>zcc z48 λv z49=>kOne z49 λz50=>kNm z50 λy _=>(x==("isinstance":Str)&&zc6 C x&&zan v&&chkE a C v&&y==Str.ofString (tyS t)&&zc6 C y)
 | .tm m o es,C,e=>kCA e λov name apos z55 cpos=>zcc z55 λv vs=>(name==tmS m&&zj4 ov&&chkE o C ov&&chkEs es C (v::vs)&&apos.endLine==cpos.line&&decide ((v::vs).length<20))
 | .lm m o a,C,e=>kCA e λov name apos z59 cpos=>kOne z59 λv=>(name==lmS m&&zj4 ov&&chkE o C ov&&zan v&&chkE a C v&&apos.endLine==cpos.line)
 | .dnew,_,e=>kDi e λz87 z88 _=>kNil z87 (kNil z88 ((true)))
 | .stuck,_,_=>true
noncomputable def chkEs:List E->Cst->List Expr->Bool
 | [],_,es=>match es with
  | []=>true
  | _=>false
 | a::as,C,es=>match es with
  | e::es=>zan e&&chkE a C e&&chkEs as C es
  | []=>false
noncomputable def chkT:T->Cst->Expr->Bool
 | .val a,C,e=>chkE a C e&&(zd2 e||zlz e)
 | .and a b,C,e=>kBo e λz108 z109 pos=>kAn z108 (zcc z109 λv z110=>zcc z110 λw rest=>(chkT a C v&&(match rest with | []=>chkT b C w | y::ys=>chkT b C (.BoolOp .And (w::y::ys) pos))))
 | .or a b,C,e=>kBo e λz112 z113 pos=>kOr z112 (zcc z113 λv z114=>zcc z114 λw rest=>(chkT a C v&&(match rest with | []=>chkT b C w | y::ys=>chkT b C (.BoolOp .Or (w::y::ys) pos))))
 | .not a,C,e=>kUn e λz116 x _=>kNo z116 ((chkT a C x))
noncomputable def zlJ:List T->Cst->List Expr->Bool
 | [],_,es=>match es with
  | []=>true
  | _=>false
 | t::ts,C,es=>match es with
  | e::es=>chkT t C e&&zlJ ts C es&&es.isEmpty
  | []=>false
noncomputable def chkL:L->Cst->Expr->Bool
 | .disp es,C,e=>kLi e λxs _=>(chkEs es C xs&&decide (xs.length<=1000))
 | .comp tg it cs el,C,e=>kLC e λelt z119 sc _=>kOne z119 λg=>(g.is_async==0&&!zjW g.iter&&zk9 C sc (blkC C sc (zcC tg g.target)) tg.slots&&(zdi (blkC C sc (zcC tg g.target)) tg g.target&&enuB it g.target)&&chkI it C g.iter
    && zlJ cs (blkC C sc (zcC tg g.target)) g.ifs&&chkE el (blkC C sc (zcC tg g.target)) elt)
 | .of a,C,e=>kCN e λx _ z123 _=>kOne z123 λv=>(x==("list":Str)&&zc6 C x&&zan v&&chkE a C v)
 | .spl a b,C,e=>kCA e λov name apos z128 cpos=>kOne z128 λv=>(name==("split":Str)&&zj4 ov&&chkE a C ov&&zan v&&chkE b C v&&apos.endLine==cpos.line)
 | .sdi a,C,e=>kCN e λx _ z150 _=>kOne z150 λz151=>kCA z151 λov name apos z153 cpos=>kNil z153 ((x==("sorted":Str)&&zc6 C x&&name==("items":Str)&&zj4 ov&&chkE a C ov&&apos.endLine==cpos.line))
 | .sst a,C,e=>kCN e λx _ z159 _=>kOne z159 λz160=>kCN z160 λy _ z162 _=>kOne z162 λv=>(x==("sorted":Str)&&zc6 C x&&y==("set":Str)&&zc6 C y&&zan v&&chkE a C v)
noncomputable def chkI:I->Cst->Expr->Bool
 | .seq a,C,e=>chkE a C e
 | .rng a,C,e=>kCN e λx _ z169 _=>kOne z169 λv=>(x==("range":Str)&&zc6 C x&&zan v&&chkE a C v)
 | .dic a,C,e=>chkE a C e
end
noncomputable def zcU:Expr->Bool
 | .ListComp _ _ _ _=>true
 | .SetComp _ _ _ _=>true
 | .DictComp _ _ _ _ _=>true
 | _=>false
noncomputable def zkl:E->Bool
 | _=>false
noncomputable def zcK:Expr->Bool
 | .Tuple _ _ _=>true
 | .List _ _=>true
 | _=>false
mutual
noncomputable def chkS:S->Cst->Stmt->Bool
 | .asg tg a,C,st=>kAs st λz184 v pos=>kOne z184 λt=>(zdi C tg t&&zan t&&chkE a C v&&!(zcK t&&zcK v)&&(!zcU v||(zcU v&&zgM t&&!zkl a)))
 | .setI o i a,C,st=>kAs st λz187 v _=>kOne z187 λz188=>kSu z188 λov iv _=>(chkE a C v&&chkE o C ov&&chkE i C iv&&!zcU v&&!zdO iv)
 | .exp a,C,st=>kEx st λv _=>(chkE a C v&&!zcU v)
 | .ife c a b,C,st=>kIfS st λt x y _=>(chkT c C t&&chkSs a C x&&chkSs b C y)
 | .for tg it body,C,st=>kFo st λt iter b z201 _=>kNil z201 (((zdi C tg t&&enuB it t)&&chkI it C iter&&chkSs body C b&&!zjW iter))
 | .ret a,C,st=>kRe st λz203 _=>zpY z203 λv=>(chkE a C v)
 | .brk,_,st=>false
 | .cnt,_,st=>false
 | .setD o i a,C,st=>kAs st λz212 v _=>kOne z212 λz213=>kSu z213 λov iv _=>(chkE a C v&&chkE o C ov&&chkE i C iv&&!zcU v&&!zdO iv)
 | .stuck,_,_=>true
noncomputable def chkSs:List S->Cst->List Stmt->Bool
 | [],_,sts=>match sts with
  | []=>true
  | _=>false
 | s::ss,C,sts=>match sts with
  | st::sts=>chkS s C st&&chkSs ss C sts
  | []=>false
end
end IT
namespace IT
open PySem PySem.Spec L2
noncomputable def zcp:List Str:=["len", "sum", "tuple", "int", "range", "all", "any", "max", "min", "list", "isinstance", "str", "bool", "dict", "enumerate", "sorted", "set"]
structure Good (Γ:Calls) (n:Nat) (C:Cst) (X:Cx):Prop where
 nox:X.xe=λ_ _=>False
 calm:X.calm=true
 room:Room n X.A
 room1:Room (n+1) X.A
 kind:X.env.scope.kind=.function
 N:X.N=C.N
 nd:X.N.Nodup
 names:X.env.scope.names=C.names
 fn:C.top=true->∀ x,X.fn x=true
 funs:∀ (f:Nat) (p:Str×Nat×List D),C.fns[f]?=some p->zqW X n p.1 p.2.1 p.2.2 (Γ f)
 blt:∀ x∈zcp,X.mg x=none
 glob:∀ (x:Str) (d:D),C.globs.lookup x=some d->∃ u v,X.mg x=some u/\RelV v u/\∀ A H,RepD X.K A H d v
 gdic:∀ (x:Str) (kvs:List (List Nat×D)),C.gds.lookup x=some kvs->GDic X.K X.w X.mg x kvs
 makes:∀ i∈C.cls,∃ np,zqn X n i.name np (Γ i.init)
 meths:∀ i∈C.cls,∀ p∈i.meths,∃ np,zrm X n i.name p.1 np (Γ p.2)
 attrs:∀ i∈C.cls,∀ f∈i.fields,∀ A,PySem.W.nsIn X.K mainGlobals i.name=some (some (.ref A))->zki X.K A f
theorem zar (h:zan e=true):starEach (e::es) env=(false,eval e env)::starEach es env:=by
 cases e<;>first | rfl | (first | exact noT h | exact noF h)
theorem zcd:∀ {as:List E} {C:Cst} {es:List Expr},chkEs as C es=true->as.length=es.length
 | [],C,[],_=>rfl
 | [],C,_::_,h=>noT h
 | a::as,C,[],h=>noT h
 | a::as,C,e::es,h=>by
  change ((zan _&&chkE _ _ _)&&chkEs _ _ _)=true at h;simp only [Bool.and_eq_true] at h;simp [zcd h.2]
theorem zaX:∀ {as:List E} {C:Cst} {es:List Expr},chkEs as C es=true->∀ e∈es,zan e=true
 | [],C,[],_,e,he=>by simp at he
 | [],C,_::_,h,_,_=>noT h
 | a::as,C,[],h,_,_=>noT h
 | a::as,C,e::es,h,x,hx=>by
  change ((zan _&&chkE _ _ _)&&chkEs _ _ _)=true at h;simp only [Bool.and_eq_true] at h
  rcases List.mem_cons.mp hx with rfl | hx
  ·exact h.1.1
  ·exact zaX h.2 x hx
theorem zb9:∀ {es:List Expr},(∀ e∈es,zan e=true)->(backTo pos (starEach es env)).any (·.1)=false
  | [],_=>rfl
  | e::es,h=>by
    rw [zar (h e (by simp))];show (false||(backTo pos (starEach es env)).any (·.1))=false;rw [zb9 λx hx=>h x (by simp [hx])];rfl
theorem zif:∀ {es:List Expr},(∀ e∈es,zan e=true)->(backTo pos (starEach es env)).all (λx=>!x.1)=true
 | [],_=>rfl
 | e::es,h=>by
  rw [zar (h e (by simp))];show (true&&(backTo pos (starEach es env)).all (λx=>!x.1))=true;rw [zif λx hx=>h x (by simp [hx])];rfl
theorem zfi:∀ {es:List E} {σ:IT.Env} {h h':Sto} {rs:List R},evs Γ es σ h=some (rs,h')->rs.length=es.length
 | [],σ,h,h',rs,e=>by
  simp only [evs,zac] at e
  rw [<-e.1];rfl
 | a::as,σ,h,h',rs,e=>by
  simp only [evs,zab,zac] at e;obtain ⟨r,h1,e1,rs',h2,e2,rfl,rfl⟩:=e;simp [zfi e2]
section
variable {Γ:Calls} {n:Nat} {C:Cst} {X:Cx} {x:Str}
theorem zp5 (G:Good Γ n C X) (h:visB C x=true):Vis X.env.scope x:=by
 unfold visB at h;unfold Vis;rw [G.names]
 split at h
 ·rename_i e;exact .inl e
 ·rename_i e;exact .inr (.inl e)
 ·rename_i e;exact .inr (.inr e)
 ·cases h
theorem znz (G:Good Γ n C X) (h:locB C x=true):Loc X.env.scope x/\(X.fn x=true\/X.env.scope.names.lookup x=some .local):=by
 unfold locB at h;unfold L2.Loc;rw [G.names]
 split at h
 ·rename_i e;exact ⟨.inl e,.inr e⟩
 ·rename_i e;exact ⟨.inr e,.inl (G.fn h x)⟩
 ·cases h
theorem zee (G:Good Γ n C X) (h:zc6 C x=true):Gl X x:=by
 unfold zc6 at h;show X.env.scope.names.lookup x=_;rw [G.names]
 split at h
 ·rename_i e;exact e
 ·cases h
theorem zeL (h:zbp x=true):(x==("__debug__":Str))=false/\(x==("__classdict__":Str))=false:=by
 unfold zbp at h
 simpa using h
end
theorem opB (h:boB o op=true):OpD X (binaryOp op) (bop o):=by
  cases o<;>cases op<;>first | (exact noT h) | exact zov | exact zob | exact znJ | exact zm2 | exact zow | exact znV | exact zl1 | exact zoB
theorem coBe (hu:X.A.units+64<cLine) (h:coB o op=true):OpD X (compareOp op) (cop o):=by
  cases o<;>cases op<;>first | (exact noT h) | exact zrj hu | exact zqG hu | exact zqO | exact zqY | exact zrz | exact zqU | exact zmD hu | exact zkZ hu | exact zoO | exact zi1
theorem zpB (h:cop o x y=some z):∃ t,z=.bl t:=by
 (delta cop at h;(try dsimp only at h))
 split at h<;>first
  | (split at h<;>first | (cases h;exact ⟨_,rfl⟩) | (split at h<;>first | (cases h;exact ⟨_,rfl⟩) | cases h) | cases h)
  | (cases h;exact ⟨_,rfl⟩)
  | cases h
theorem zr1 (e:mD (cop o) x y h=some (r,h')):∃ t,r=.d (.bl t):=by
 simp only [mD,zab,zac,zas] at e;obtain ⟨dx,h1,e1,dy,h2,e2,z,h3,⟨e3,_⟩,rfl,_⟩:=e;obtain ⟨t,rfl⟩:=zpB e3;exact ⟨t,rfl⟩
theorem zi0 (h:zd2 e=true):∀ whole,isTrue e env whole=(do let v<-whole;standAt e.pos;holding [v] (truthy v)):=by
 intro whole
 cases e with
 | UnaryOp op x p=>cases op<;>first | rfl | (first | exact noT h | exact noF h)
 | BoolOp _ _ _=>first | exact noT h | exact noF h
 | IfExp _ _ _ _=>first | exact noT h | exact noF h
 | Compare _ _ _ _=>first | exact noT h | exact noF h
 | _=>rfl
theorem zcI (h:zj4 o=true):attributeBase o name env (eval o env)=eval o env:=by
 unfold attributeBase
 split
 ·cases h
 ·rfl
theorem zf7 (h:zgM o=true):attributeBase o name env (eval o env)=eval o env:=by
 cases o<;>first | rfl | (first | exact noT h | exact noF h)
theorem zmt (h:zdO e=false):zg5 e:=by
 intro o i
 cases e<;>first | rfl | (first | exact noT h | exact noF h)
theorem zj7 (h:zjW e=false):∀ x,foldedSetIterable e env x=pure x:=by
 intro x
 cases e<;>first | rfl | (first | exact noT h | exact noF h)
theorem zkY (h:zjW e=false):behindInMarks op e=false:=by
 cases e<;>first | rfl | (first | exact noT h | exact noF h)
theorem zg7 (h:zcU v=false):swapsWithSole [t] v l env=pure false:=by
 cases v<;>first | rfl | (first | exact noT h | exact noF h)
theorem zmi (h:zcU v=false):swapsWith v none l env=pure false:=by
 cases v<;>first | rfl | (first | exact noT h | exact noF h)
theorem zcu (h:(zcK t&&zcK v)=false):swappedStores [t] v env=pure none:=by
 cases t with
 | Tuple a b c=>cases v<;>first | rfl | (first | exact noT h | exact noF h)
 | List a b=>cases v<;>first | rfl | (first | exact noT h | exact noF h)
 | _=>rfl
theorem zfe (h:zan t=true):(assignEach [t] env).map (·.2)=[assign t env]:=by
 cases t<;>first | rfl | (first | exact noT h | exact noF h)
theorem zc9 (h:zan t=true):assignEach (t::ts) env=(false,assign t env)::assignEach ts env:=by
 cases t<;>first | rfl | (first | exact noT h | exact noF h)
theorem zha:∀ {ts:List Expr},(∀ e∈ts,zan e=true)->(assignEach ts env).length=ts.length/\(assignEach ts env).findIdx? (·.1)=none
 | [],_=>⟨rfl,rfl⟩
 | t::ts,h=>by
  obtain ⟨h1,h2⟩:=zha (env:=env) (ts:=ts) λx hx=>h x (by simp [hx]);rw [zc9 (h t (by simp))];refine ⟨by simp [h1],?_⟩;rw [List.findIdx?_cons];simp [h2]
theorem zkN (h:zdO i=false) (v:Value):assign (.Subscript o i p) env v=(do let ov<-holding [v] (eval o env);let iv<-holding [v,ov] (eval i env);standAt p;holding [v,ov,iv] (setItem ov iv v);release [v,ov,iv] []):=by
 cases i<;>first | rfl | (first | exact noT h | exact noF h)
theorem zqg (h:conB d c=true):IE X (.Constant c k pos) (λ_=>ok (.d d)):=by
 cases d with
 | non=>cases c<;>first | (exact noT h) | exact zgN zrL (by intro _ _;simp only [RepD])
 | bl b=>
  cases c with
  | bool c=>obtain rfl:=eq_of_beq h;exact zgN zsG (by intro _ _;simp only [RepD])
  | _=>exact noT h
 | int b=>
  cases c with
  | int c=>obtain rfl:=eq_of_beq h;exact zgN zpT (by intro _ _;simp only [RepD])
  | _=>exact noT h
 | str b=>
  cases c with
  | str c=>obtain rfl:=eq_of_beq h;exact zgN zqS (by intro _ _;simp only [RepD])
  | _=>exact noT h
 | _=>cases c<;>exact noT h
theorem zhg:∀ {ts:List Tg} {es:List Expr},chkTgs C ts es=true->(∀ e∈es,zan e=true)/\es.length=ts.length
 | [],[],_=>⟨by simp,rfl⟩
 | [],_::_,h=>noT h
 | _::_,[],h=>noT h
 | t::ts,e::es,h=>by
  change ((zan _&&zdi _ _ _)&&chkTgs _ _ _)=true at h;simp only [Bool.and_eq_true] at h;obtain ⟨h1,h2⟩:=zhg h.2;refine ⟨λx hx=>?_,by simp [h2]⟩
  rcases List.mem_cons.mp hx with rfl | hx
  ·exact h.1.1
  ·exact h1 x hx
mutual
theorem okTg {n:Nat} (G:Good Γ n C X):∀ (t:Tg) (e:Expr),zdi C t e=true->PG X e (tG X.K t)
 | .name i,e,h=>by
  cases e with
  | Name x pos=>
   change (_&&locB C _)=true at h;simp only [Bool.and_eq_true] at h;obtain ⟨h1,h2⟩:=znz G h.2
   exact znP G.nd (by rw [G.N];exact eq_of_beq h.1) h1 h2
  | _=>exact noT h
 | .tup ts,e,h=>by
  cases e with
  | Tuple xs k pos=>
   have h:chkTgs C ts xs=true:=h;obtain ⟨h1,h2⟩:=zhg h;obtain ⟨h3,h4⟩:=zha (env:=X.env) h1;exact zry G.calm (okTgs G ts xs h) h2 h3 h4
  | _=>exact noT h
theorem okTgs (G:Good Γ n C X):∀ (ts:List Tg) (es:List Expr),chkTgs C ts es=true->PGs X es (tGs X.K ts)
 | [],es,h=>by
  cases es with
  | nil=>exact zoi
  | cons _ _=>exact noT h
 | t::ts,es,h=>by
  cases es with
  | nil=>exact noT h
  | cons e es=>
   change ((zan _&&zdi _ _ _)&&chkTgs _ _ _)=true at h;simp only [Bool.and_eq_true] at h
   exact zml (okTg G t e h.1.2) (okTgs G ts es h.2) (by rw [zc9 h.1.1];rfl)
end
theorem zqX {n:Nat} (G:Good Γ n C X) (t:Tg) (e:Expr) (h:zdi C t e=true):PG X e (tGI X.K t):=by
 cases t with
 | name i=>exact zmc (okTg G _ _ h)
 | tup ts=>
  by_cases hl:ts.length=2
  ·match ts,hl,h with
   | [a,b],_,h=>
    cases e with
    | Tuple xs k pos=>
     have h:chkTgs C [a,b] xs=true:=h
     match xs,h with
     | [x,y],h=>
      obtain ⟨h1,h2⟩:=zhg h;obtain ⟨h3,h4⟩:=zha (env:=X.env) h1;have hs:=okTgs G [a,b] [x,y] h;change (((zan _&&zdi _ _ _)&&((zan _&&zdi _ _ _)&&_))=true) at h;simp only [Bool.and_eq_true] at h
      exact zoH G.calm hs (zsw (okTg G a x h.1.2) (okTg G b y h.2.1.2) (by rw [zc9 h.1.1];rfl) (by rw [zc9 h.2.1.1];rfl)) h3 h4
     | [],h=>exact noT h
     | [_],h=>exact noT (andT h).2
     | _::_::_::_,h=>exact noT (andT (andT h).2).2
    | _=>exact noT h
  ·exact zoz hl (okTg G _ _ h)
theorem zkA (e:zba r h=some (w,h')):WlOk w h':=by
 (delta zba at e;simp only [zab] at e)
 obtain ⟨o,h1,e1,e2⟩:=e;obtain ⟨rfl,ho⟩:=zep e1
 cases o with
 | some ls=>
  obtain ⟨l,rfl,ho⟩:=ho;simp only [zac] at e2;obtain ⟨rfl,rfl⟩:=e2;intro i hi;cases hi;exact ⟨_,ho,λc fs z=>by cases z⟩
 | none=>
  simp only [zab] at e2;obtain ⟨d,h2,e3,e4⟩:=e2
  cases r with
  | loc l=>
   obtain ⟨o,ho,il,rfl,rfl⟩:=zew e3
   (delta wkOf items at e4;(try dsimp only at e4);simp only [zac] at e4)
   obtain ⟨rfl,rfl⟩:=e4;intro i hi;cases hi
   exact ⟨o,ho,λc fs z=>by rw [z] at il;cases il⟩
  | d x=>
   have:w.l=none:=by
    (delta wkOf at e4;(try dsimp only at e4))
    cases hi:items d with
    | none=>
     rw [hi] at e4;simp only at e4
     split at e4
     ·split at e4
      ·obtain ⟨rfl,rfl⟩:=zac.mp e4;rfl
      ·cases e4
     ·cases e4
    | some xs=>rw [hi] at e4;obtain ⟨rfl,rfl⟩:=zac.mp e4;rfl
   intro i hi;rw [this] at hi;cases hi
theorem zjP (e:evI Γ it σ h=some (w,h')):WlOk w h':=by
 cases it with
 | seq a=>
  simp only [evI,zab] at e;obtain ⟨r,h1,e1,e2⟩:=e;exact zkA e2
 | dic a=>
  simp only [evI,zab] at e;obtain ⟨r,h1,e1,e2⟩:=e
  cases r with
  | d _=>cases e2
  | loc l=>
   simp only [zhm] at e2
   split at e2
   ·rename_i kvs ho
    simp only [Option.some.injEq,Prod.mk.injEq] at e2;obtain ⟨rfl,rfl⟩:=e2;intro i hi;cases hi;exact ⟨_,ho,λc fs z=>by cases z⟩
   ·cases e2
 | rng a=>
  simp only [evI,zab] at e;obtain ⟨r,h1,e1,e2⟩:=e
  (delta zfb at e2;(try dsimp only at e2))
  intro i el
  split at e2
  ·split at e2
   ·obtain ⟨rfl,rfl⟩:=zac.mp e2;cases el
   ·cases e2
  ·cases e2
end IT
namespace IT
open PySem PySem.Spec L2
section
variable {Γ:Calls} {n:Nat} {C:Cst} {X:Cx}
theorem zfO (G:Good Γ n C X) (sc:Scope):(relabel sc X.env).names=relN C.names sc.names:=by
 unfold relabel relN;show sc.names.map _=sc.names.map _;refine List.map_congr_left λp _=>?_;obtain ⟨m,k⟩:=p
 have e1:X.env.kindOf m=C.names.lookup m:=by
  show X.env.scope.names.lookup m=_;rw [G.names]
 simp only [G.kind,e1];have e2:(ScopeKind.function==ScopeKind.function)=true:=rfl;rw [e2,Bool.and_true]
theorem Good.blk (G:Good Γ n C X) {os:List Nat} (h:zk9 C sc (blkC C sc own) os=true) (cl:List (Str×Addr)) (pins:List (Addr×Obj)) (s₂:Shared) (H₂:Hp) (Cc:Addr) (fp:List Addr) :
  Good Γ n (blkC C sc own) (blk X (blkC C sc own).N s₂ H₂ (compEnvC sc cl Cc X.env) fp pins):=by
 unfold zk9 at h;simp only [Bool.and_eq_true] at h;obtain ⟨⟨⟨⟨⟨⟨hk,_⟩,_⟩,_⟩,_⟩,_⟩,hnd⟩:=h
 refine ⟨G.nox,G.calm,G.room,G.room1,?_,rfl,of_decide_eq_true hnd,zfO G sc,λz=>absurd z (by show ¬ (false=true);decide),λf x e=>⟨(G.funs f x e).ex,(G.funs f x e).fill,(G.funs f x e).len⟩,G.blt,G.glob,G.gdic,λi hi=>let ⟨np,z⟩:=G.makes i hi;⟨np,z.ex,z.len⟩,λi hi p hp=>let ⟨np,z⟩:=G.meths i hi p hp;⟨np,z.ex,z.len⟩,G.attrs⟩
 show (relabel sc X.env).kind=_
 have:sc.kind=.function:=by cases e:sc.kind<;>rw [e] at hk<;>first | rfl | (exact absurd hk (by decide))
 exact this
theorem zn4 (G:Good Γ n C X) {os:List Nat} (h:zk9 C sc (blkC C sc own) os=true):zhT X sc (blkC C sc own).N os:=by
 unfold zk9 at h;simp only [Bool.and_eq_true] at h;obtain ⟨⟨⟨⟨⟨⟨hk,hc⟩,hn⟩,hf⟩,hs⟩,hl⟩,hnd⟩:=h
 have ke:∀ m,X.env.kindOf m=C.names.lookup m:=λm=>by
  show X.env.scope.names.lookup m=_;rw [G.names]
 refine ⟨?_,?_,?_,?_,?_,?_⟩
 ·cases e:sc.kind<;>rw [e] at hk<;>first | rfl | (exact absurd hk (by decide))
 ·intro y hy z
  have:=List.all_eq_true.mp hc y hy
  rw [z] at this;exact absurd this (by decide)
 ·intro x hx z
  have:=List.all_eq_true.mp hn x hx
  rw [z] at this
  have e2:(NameKind.local != NameKind.local)=false:=by decide
  rw [e2,Bool.false_or] at this;exact eq_of_beq this
 ·intro x hx z
  have:=List.all_eq_true.mp hf x hx
  rw [z] at this
  have e2:(NameKind.free != NameKind.free)=false:=by decide
  rw [e2,Bool.false_or,Bool.or_eq_true] at this;rw [ke]
  rcases this with q | q
  ·exact .inl (eq_of_beq q)
  ·exact .inr (eq_of_beq q)
 ·intro i x e v
  have hi:i<(blkC C sc own).N.length:=(List.getElem?_eq_some_iff.mp e).1
  have:=List.all_eq_true.mp hs i (by simpa using hi)
  rw [e] at this;simp only [zpV] at this;unfold Vis at v;rw [zfO G sc] at v ⊢;have en:(blkC C sc own).names=relN C.names sc.names:=rfl;rw [en] at this;rw [G.N,ke]
  rcases v with v | v | v
  ·rw [v] at this
   exact .inl (by simpa using this)
  ·rw [v] at this
   simp only [Bool.or_eq_true,Bool.and_eq_true] at this
   rcases this with q | ⟨q,q2⟩
   ·exact .inl (by simpa using q)
   ·refine .inr ⟨eq_of_beq q,?_,by rw [v];decide⟩
    rcases q2 with q2 | q2
    ·exact .inl (eq_of_beq q2)
    ·exact .inr (eq_of_beq q2)
  ·rw [v] at this
   simp only [Bool.or_eq_true,Bool.and_eq_true] at this
   rcases this with q | ⟨q,q2⟩
   ·exact .inl (by simpa using q)
   ·refine .inr ⟨eq_of_beq q,?_,by rw [v];decide⟩
    rcases q2 with q2 | q2
    ·exact .inl (eq_of_beq q2)
    ·exact .inr (eq_of_beq q2)
 ·rw [G.N]
  exact eq_of_beq hl
end
noncomputable def zdS (Γ:Calls) (X:Cx) (tg:Tg) (it:I) (cs:List T) (el:E) (e:Expr):Prop:=
 ∃ elt gt gi gifs sc pos N',e=.ListComp elt [⟨gt,gi,gifs,0⟩] sc pos/\zhT X sc N' tg.slots/\PI X gt gi (tI X.K (evI Γ it)) ∧
  (∀ cl pins s₂ H₂ C fp,PG (blk X N' s₂ H₂ (compEnvC sc cl C X.env) fp pins) gt (tGI X.K tg)/\PTs (blk X N' s₂ H₂ (compEnvC sc cl C X.env) fp pins) gifs (tTv X.K (tvs Γ cs))/\PE (blk X N' s₂ H₂ (compEnvC sc cl C X.env) fp pins) elt (tE X.K (ev Γ el))) ∧
  ∀ x,foldedSetIterable gi X.env x=pure x
theorem zdS.read (q:tLs K (evL Γ (.comp tg it cs el)) σ H Q):ziN (tI K (evI Γ it)) tg.slots (tGI K tg) (tTv K (tvs Γ cs)) (tE K (ev Γ el)) σ H Q:=by
 have e:evL Γ (.comp tg it cs el)=λσ=>bnd (evI Γ it σ) λw=>turns w.l (zrH tg (tvs Γ cs) (ev Γ el) σ) w.xs:=by
  funext σ
  rfl
 rw [e] at q;exact zky (λσ h w h' e=>zjP e) q
theorem zdS.il (hx:X.xe=λ_ _=>False) (hc:X.calm=true) (h:zdS Γ X tg it cs el e):IL X e (evL Γ (.comp tg it cs el)):=by
 obtain ⟨elt,gt,gi,gifs,sc,pos,N',rfl,ok,hi,hB,hs⟩:=h;exact PE.imp (zpa hx hc ok hi hB hs) λσ H Q q=>zdS.read q
theorem zmG {m:Bool} (q:tE K (λσ=>bnd (fl σ) λxs=>if m then alloc xs else ok (.d (.lst xs))) σ H Q):tLs K fl σ H Q:=by
 obtain ⟨μ,h,env,R0,re,r,h',e,k⟩:=q;simp only [zab] at e;obtain ⟨xs,h1,e1,e2⟩:=e;refine ⟨μ,h,env,R0,re,xs,h1,e1,λμ1 H1 a vs s1 R1 q1 ha=>?_⟩
 cases m with
 | true=>
  simp only [if_true,alloc,Option.some.injEq,Prod.mk.injEq] at e2;obtain ⟨rfl,rfl⟩:=e2;refine k (μ1++[a]) _ (.ref a) (s1.trans (Stp.alloc R1 ha)) (R1.alloc ha q1) ⟨a,?_,rfl⟩;rw [<-R1.len];simp
 | false=>
  simp only [Bool.false_eq_true,if_false] at e2;obtain ⟨rfl,rfl⟩:=zac.mp e2;have s2:Stp μ1 h1 H1 μ1 h1 (upd H1 a (.lst vs)):=Stp.fresh ha;refine k μ1 _ (.ref a) (s1.trans s2) (R1.fresh ha) ?_;simp only [RepR,RepD];refine ⟨a,vs,rfl,.inl ⟨λl=>?_,.inl zaj⟩,RepDs.stp s2 R1 q1⟩;obtain ⟨ws,z,_⟩:=R1.liveAt l
  rw [ha] at z;cases z
theorem tLs.imp (q:tLs K fl σ H Q) (i:∀ v H,Q v H->Q' v H):tLs K fl σ H Q':=by
 obtain ⟨μ,h,env,R0,re,xs,h',e,k⟩:=q;exact ⟨μ,h,env,R0,re,xs,h',e,λμ' H' a vs s1 R1 q1 ha=>i _ _ (k μ' H' a vs s1 R1 q1 ha)⟩
theorem ziU (q:tG K (.name i) v σ H Q):zmB i v σ H Q:=by
 obtain ⟨μ,h,env,r,env',R0,re,qr,e,k⟩:=q;simp only [zaz,zac] at e;obtain ⟨rfl,_⟩:=e;exact k _ (re.set i qr)
theorem znd {D:Ends} (q:tS K (λσ=>bnd (f σ) λr=>bnd (zaz t r σ) λσ'=>ok (.nx,σ')) D σ H):tE K f σ H λx H1=>tG K t x σ H1 D.nx:=by
 obtain ⟨μ,h,env,R0,re,fl,env',h',e,k⟩:=q;simp only [zab,zac,Prod.mk.injEq] at e;obtain ⟨r,h1,e1,env1,h2,e2,⟨rfl,rfl⟩,rfl⟩:=e
 have:=zaI _ _ _ _ _ _ e2
 subst this;exact ⟨μ,h,env,R0,re,r,_,e1,λμ1 H1 v s1 R1 q1=>⟨μ1,_,env,r,env1,R1,re.stp s1 R0,q1,e2,λσ' re'=>k μ1 H1 σ' s1 R1 re'⟩⟩
noncomputable def zny:Expr->Bool
 | .BoolOp _ _ _=>true
 | _=>false
theorem zr7 (G:Good Γ n C X) (ho:biOn b=true) (hx:x=biS b) (hg:Gl X x) (ha:IA X (e::es) fs)
  (he:starEach (e::es) X.env=(false,eval e X.env)::starEach es X.env) (hpl:(backTo pos (starEach es X.env)).any (·.1)=false):IE X (.Call (.Name x p) (e::es) [] pos) (λσ=>bnd (fs σ) λrs=>bnd (rds rs) λds=>bnd (opt (biD b ds)) λz=>ok (.d z)):=by
 subst hx
 cases b with
 | len=>exact PE.imp (zco zj5 hg (G.blt _ (by decide)) PySem.boot_len ha (by decide) (by decide) he hpl) λσ H Q q=>zdT q
 | sum=>exact noT ho
 | tuple=>exact PE.imp (zbB zhe hg (G.blt _ (by decide)) PyProof.Rows.boot_tuple ha (by decide) (by decide) he hpl) λσ H Q q=>zdT q
 | all=>exact PE.imp (zco (zhb G.calm true) hg (G.blt _ (by decide)) PyProof.Rows.boot_all ha (by decide) (by decide) he hpl) λσ H Q q=>zdT q
 | any=>exact noT ho
 | max=>exact noT ho
 | min=>exact noT ho
 | int=>exact PE.imp (zbB zk1 hg (G.blt _ (by decide)) PyProof.Rows.boot_int ha (by decide) (by decide) he hpl) λσ H Q q=>zdT q
 | str=>exact PE.imp (zbB zj3 hg (G.blt _ (by decide)) PyProof.Rows.boot_str ha (by decide) (by decide) he hpl) λσ H Q q=>zdT q
theorem zkp {a:E} {C:Cst} {e:Expr} (h:chkT (.val a) C e=true):chkE a C e=true:=by
 change (_&&_)=true at h;rw [Bool.and_eq_true] at h;exact h.1
theorem zgE {Γ:Calls} {a:E} {C:Cst} {e:Expr} {X:Cx} (k:IE X e (ev Γ a)) (h:chkT (.val a) C e=true) (hn:∀ l ops rs pos,e≠.Compare l ops rs pos):IT' X e (tv Γ (.val a))/\(zny e=true->PW X e (tTv X.K (tv Γ (.val a)))):=by
 change (_&&(_||_))=true at h;rw [Bool.and_eq_true,Bool.or_eq_true] at h
 have hp:zd2 e=true:=by
  rcases h.2 with z | z
  ·exact z
  ·cases e<;>first | (exact noT z) | exact absurd rfl (hn _ _ _ _)
 refine ⟨zqq k (zi0 hp),λz=>?_⟩
 cases e<;>first | (exact noT z) | (first | exact noT hp | exact noF hp)
theorem zhI {vs:List Expr} {env:PySem.Env} {cpos:Pos} (st:∀ y∈vs,zan y=true) (hl:vs.length<20):((backTo cpos (starEach vs env)).all (λx=>!x.1)&&(backToKw cpos (keywordEach [] env)).all (λx=>x.1.isSome)&&decide (vs.length+([]:List Keyword).length+(if ([]:List Keyword).isEmpty then 0 else 1)<30))=true:=by
 rw [zif st];simp only [List.length_nil,List.isEmpty_nil,if_true,Bool.true_and,Bool.and_eq_true];exact ⟨rfl,decide_eq_true (by omega)⟩
mutual
theorem okE {Γ:Calls} {n:Nat}:∀ (a:E) (C:Cst) (e:Expr) (X:Cx),chkE a C e=true->Good Γ n C X->IE X e (ev Γ a)
 | .con d,C,e,X,h,G=>by
  replace h:=ofCo h;obtain ⟨c,k,pos,h⟩:=h;exact zqg (d:=d) h
 | .var i,C,e,X,h,G=>by
  replace h:=ofNm h;obtain ⟨x,pos,h⟩:=h;simp only [Bool.and_eq_true] at h;obtain ⟨h1,h2⟩:=zeL h.2
  exact zqr (zq6 (by rw [G.N];exact eq_of_beq h.1.1) (zp5 G h.1.2) h1 h2)
 | .bin o a b,C,e,X,h,G=>by
  replace h:=ofBi h;obtain ⟨l,op,r,pos,h⟩:=h;simp only [Bool.and_eq_true] at h;exact zqF (m:=mD (bop o)) (OpD.opI (opB h.1.1)) (okE a C l X h.1.2 G) (okE b C r X h.2 G)
 | .cmp o a b,C,e,X,h,G=>by
  replace h:=ofCm h;obtain ⟨l,z222,z224,p3_,h⟩:=h;replace h:=zbM h;obtain ⟨op,h⟩:=h;replace h:=zbM h;obtain ⟨r,h⟩:=h;simp only [Bool.and_eq_true,Bool.not_eq_true'] at h;exact zpK (m:=mD (cop o)) (OpD.opI (coBe G.room.units h.1.1.1)) (okE a C _ X h.1.1.2 G) (okE b C _ X h.1.2 G) (zkY h.2)
 | .and a b,C,e,X,h,G=>by
  replace h:=ofBo h;obtain ⟨z227,z228,pos,h⟩:=h;replace h:=ofAn h;obtain ⟨h⟩:=h;replace h:=za0 h;obtain ⟨v,z229,h⟩:=h;replace h:=za0 h;obtain ⟨w,rest,h⟩:=h;simp only [Bool.and_eq_true] at h
  cases rest with
  | nil=>exact znE (okE a C v X h.1 G) (zno (okE b C w X h.2 G))
  | cons y ys=>exact znE (okE a C v X h.1 G) (okE b C _ X h.2 G)
 | .or a b,C,e,X,h,G=>by
  replace h:=ofBo h;obtain ⟨z231,z232,pos,h⟩:=h;replace h:=ofOr h;obtain ⟨h⟩:=h;replace h:=za0 h;obtain ⟨v,z233,h⟩:=h;replace h:=za0 h;obtain ⟨w,rest,h⟩:=h;simp only [Bool.and_eq_true] at h
  cases rest with
  | nil=>exact zpO (okE a C v X h.1 G) (zno (okE b C w X h.2 G))
  | cons y ys=>exact zpO (okE a C v X h.1 G) (okE b C _ X h.2 G)
 | .not a,C,e,X,h,G=>by
  replace h:=ofUn h;obtain ⟨z235,x,p1_,h⟩:=h;replace h:=ofNo h;obtain ⟨h⟩:=h;exact zqv (okE a C _ X h G)
 | .ife c a b,C,e,X,h,G=>by
  replace h:=ofIf h;obtain ⟨t,x,y,p3_,h⟩:=h;simp only [Bool.and_eq_true] at h;exact zqk (okT c C _ X h.1.1 G).1 (okE a C _ X h.1.2 G) (okE b C _ X h.2 G)
 | .tup es,C,e,X,h,G=>by
  replace h:=ofTu h;obtain ⟨xs,p1_,p2_,h⟩:=h;simp only [Bool.and_eq_true] at h
  exact zpM (okEs es C _ X h.1 G) (of_decide_eq_true h.2) (λσ h0 rs h' e=>by rw [zfi e];exact zcd h.1)
 | .lst m l,C,e,X,h,G=>by
  cases l with
  | disp es=>exact zei m (okL (.disp es) C e X h G)
  | comp tg it cs el=>exact zei m (zdS.il G.nox G.calm (okL (.comp tg it cs el) C e X h G))
  | of a=>exact zei m (okL (.of a) C e X h G)
  | spl a b=>exact zei m (okL (.spl a b) C e X h G)
  | sdi a=>exact zei m (okL (.sdi a) C e X h G)
  | sst a=>exact zei m (okL (.sst a) C e X h G)
 | .idx a i,C,e,X,h,G=>by
  replace h:=ofSu h;obtain ⟨x,y,p2_,h⟩:=h;simp only [Bool.and_eq_true,Bool.not_eq_true'] at h;exact zpZ (okE a C _ X h.1.1 G) (okE i C _ X h.1.2 G) (zmt h.2)
 | .sli a lo hi,C,e,X,h,G=>by
  replace h:=ofSu h;obtain ⟨x,z240,pos,h⟩:=h;replace h:=ofSl h;obtain ⟨l,u,z241,p2,h⟩:=h;replace h:=zqZ h;obtain ⟨h⟩:=h;simp only [Bool.and_eq_true] at h
  have non:∀ {z:E},zda z=true->PO X none (tO X.K (ev Γ z)):=by
   intro z hz;unfold zda at hz
   split at hz
   ·exact zpv
   ·cases hz
  have hl:PO X l (tO X.K (ev Γ lo)):=by
   cases l with
   | none=>exact non h.1.2
   | some y=>exact zkX (okE lo C y X h.1.2 G)
  have hu:PO X u (tO X.K (ev Γ hi)):=by
   cases u with
   | none=>exact non h.2
   | some y=>exact zkX (okE hi C y X h.2 G)
  exact zqi (okE a C x X h.1.1 G) hl hu
 | .call f es,C,e,X,h,G=>by
  replace h:=ofCN h;obtain ⟨x,p,z244,pos,h⟩:=h;replace h:=za0 h;obtain ⟨v,vs,h⟩:=h;simp only [Bool.and_eq_true] at h;have st:=zaX h.2
  cases hp:C.fns[f]? with
  | none=>rw [hp] at h;simp at h
  | some q=>
   rw [hp] at h;have hx:=eq_of_beq h.1.1.1;subst hx
   exact zoZ (G.funs f q hp) G.room (zee G h.1.1.2) (okEs es C _ X h.2 G) (λσ h0 rs h' e=>by rw [zfi e];exact zcd h.2) (zeL h.1.2).1 (zar (st v (by simp))) (zb9 λy hy=>st y (by simp [hy]))
 | .bi b es,C,e,X,h,G=>by
  replace h:=ofCN h;obtain ⟨x,p,z248,pos,h⟩:=h;replace h:=za0 h;obtain ⟨v,vs,h⟩:=h;simp only [Bool.and_eq_true] at h;have st:=zaX h.2;exact zr7 G h.1.1.1 (eq_of_beq h.1.1.2) (zee G h.1.2) (okEs es C _ X h.2 G) (zar (st v (by simp))) (zb9 λy hy=>st y (by simp [hy]))
 | .me m o es,C,e,X,h,G=>by
  replace h:=ofCA h;obtain ⟨ov,name,apos,vs,cpos,h⟩:=h
  cases vs with
  | cons v vs=>
   simp only [Bool.and_eq_true] at h;obtain ⟨⟨⟨⟨⟨⟨h0,h1⟩,h2⟩,h3⟩,h4⟩,h5⟩,h6⟩:=h;have st:=zaX h4;have h7:(v::vs).length<20:=of_decide_eq_true h6;have few:=zhI (env:=X.env) (cpos:=cpos) st (by assumption)
   cases m with
   | append=>exact zkb (okE o C ov X h3 G) (okEs es C _ X h4 G) (eq_of_beq h1) (zf7 h2) few h5 (zar (st v (by simp))) (zb9 λy hy=>st y (by simp [hy]))
   | extend=>simp [meOn] at h0
   | popAt=>simp [meOn] at h0
   | pop=>exact noT h0.1
   | clear=>exact noT h0.1
  | nil=>
   simp only [Bool.and_eq_true] at h;obtain ⟨⟨⟨⟨⟨h0,h1⟩,h2⟩,h3⟩,h4⟩,h5⟩:=h
   cases es with
   | cons _ _=>exact noT h4
   | nil=>
    cases m with
    | append=>exact noT h0.1
    | popAt=>exact noT h0.1
    | extend=>exact noT h0.1
    | pop=>simp [meOn] at h0
    | clear=>exact zms (okE o C ov X h3 G) (eq_of_beq h1) (zf7 h2) h5
 | .glo d,C,e,X,h,G=>by
  replace h:=ofNm h;obtain ⟨x,pos,h⟩:=h;simp only [Bool.and_eq_true] at h;obtain ⟨⟨h1,h2⟩,h3⟩:=h
  cases hd:C.globs.lookup x with
  | none=>rw [hd] at h1;cases h1
  | some d'=>
   rw [hd] at h1;have e:=D.same_eq _ _ h1;subst e;obtain ⟨u,v,e1,e2,e3⟩:=G.glob x d hd;exact zgN (zoc (zee G h2) e1 e2 (zeL h3).1) e3
 | .isi t a,C,e,X,h,G=>by
  replace h:=ofCN h;obtain ⟨x,p,z263,pos,h⟩:=h;replace h:=za0 h;obtain ⟨v,z264,h⟩:=h;replace h:=zbM h;obtain ⟨z265,h⟩:=h;replace h:=ofNm h;obtain ⟨y,p2,h⟩:=h;simp only [Bool.and_eq_true] at h;obtain ⟨⟨⟨⟨⟨h1,h2⟩,h3⟩,h4⟩,h5⟩,h6⟩:=h;have hx:=eq_of_beq h1;subst hx;have hy:=eq_of_beq h5
  have hb:y∈zcp:=by rw [hy];cases t<;>decide
  exact zpN (zee G h2) (G.blt _ (by decide)) (okE a C v X h4 G) hy (zee G h6) (G.blt _ hb) (by rw [zar h3];rfl)
 | .tm m o es,C,e,X,h,G=>by
  replace h:=ofCA h;obtain ⟨ov,name,apos,z270,cpos,h⟩:=h;replace h:=za0 h;obtain ⟨v,vs,h⟩:=h;simp only [Bool.and_eq_true] at h;obtain ⟨⟨⟨⟨⟨h1,h2⟩,h3⟩,h4⟩,h5⟩,h6⟩:=h;have st:=zaX h4;have hl:(v::vs).length<20:=of_decide_eq_true h6;have few:=zhI (env:=X.env) (cpos:=cpos) st (by assumption);exact zsC (okE o C ov X h3 G) (okEs es C _ X h4 G) (eq_of_beq h1) (zcI h2) few h5 (zar (st v (by simp))) (zb9 λy hy=>st y (by simp [hy]))
 | .lm m o a,C,e,X,h,G=>by
  replace h:=ofCA h;obtain ⟨ov,name,apos,z274,cpos,h⟩:=h;replace h:=zbM h;obtain ⟨v,h⟩:=h;simp only [Bool.and_eq_true] at h;obtain ⟨⟨⟨⟨⟨h1,h2⟩,h3⟩,h4⟩,h5⟩,h6⟩:=h
  have st:∀ y∈[v],zan y=true:=by intro y hy;simp at hy;rw [hy];exact h4
  have few:=zhI (env:=X.env) (cpos:=cpos) st (by simp)
  by_cases hm:m=.countT
  ·subst hm
   exact zp3 G.room.units (okE o C ov X h3 G) (okE a C v X h5 G) (eq_of_beq h1) (zcI h2) few h6 (zar h4) rfl
  ·by_cases hn:m=.indexT
   ·subst hn
    exact zqb G.room.units (okE o C ov X h3 G) (okE a C v X h5 G) (eq_of_beq h1) (zcI h2) few h6 (zar h4) rfl
   ·exact zsR G.room.units hm hn (okE o C ov X h3 G) (okE a C v X h5 G) (eq_of_beq h1) (zcI h2) few h6 (zar h4) rfl
 | .dnew,C,e,X,h,G=>by
  replace h:=ofDi h;obtain ⟨z302,z303,p0_,h⟩:=h;replace h:=zjm h;obtain ⟨h⟩:=h;replace h:=zjm h;obtain ⟨h⟩:=h;exact zpc
 | .stuck,C,e,X,h,G=>zmg
theorem okEs {Γ:Calls} {n:Nat}:∀ (as:List E) (C:Cst) (es:List Expr) (X:Cx),chkEs as C es=true->Good Γ n C X->IA X es (evs Γ as)
 | [],C,es,X,h,G=>by
  cases es with
  | nil=>exact zro
  | cons _ _=>exact noT h
 | a::as,C,es,X,h,G=>by
  cases es with
  | nil=>exact noT h
  | cons e es=>
   change ((zan _&&chkE _ _ _)&&chkEs _ _ _)=true at h;simp only [Bool.and_eq_true] at h;exact zoo (okE a C e X h.1.2 G) (okEs as C es X h.2 G) (zar h.1.1)
theorem okT {Γ:Calls} {n:Nat}:∀ (t:T) (C:Cst) (e:Expr) (X:Cx),chkT t C e=true->Good Γ n C X->IT' X e (tv Γ t)/\(zny e=true->PW X e (tTv X.K (tv Γ t)))
 | .val q,C,e,X,h,G=>by
  cases q with
  | cmp o a b=>
   replace h:=zkp h;replace h:=ofCm h;obtain ⟨l,z323,z325,p3_,h⟩:=h;replace h:=zbM h;obtain ⟨op,h⟩:=h;replace h:=zbM h;obtain ⟨r,h⟩:=h;simp only [Bool.and_eq_true,Bool.not_eq_true'] at h;exact ⟨zqm (m:=mD (cop o)) (OpD.opI (coBe G.room.units h.1.1.1)) (okE a C _ X h.1.1.2 G) (okE b C _ X h.1.2 G) (zkY h.2) (λx y h0 r h1 e=>zr1 e),λz=>by first | exact noT z | exact noF z⟩
  | stuck=>
   refine ⟨λpins s σ H Q I q=>?_,λ_ whole pins s σ H Q I q=>?_⟩
   ·obtain ⟨μ,h,env,R0,re,t,h',e,k⟩:=q
    cases e
   ·obtain ⟨μ,h,env,R0,re,t,h',e,k⟩:=q
    cases e
  | lst m l=>exact zgE (okE (.lst m l) C e X (zkp h) G) h (by intro _ ops rs pos z;subst z;cases l<;>exact noT (zkp h))
  | _=>exact zgE (okE _ C e X (zkp h) G) h (by intro l ops rs pos z;subst z;exact noT (zkp h))
 | .and a b,C,e,X,h,G=>by
  replace h:=ofBo h;obtain ⟨z333,z334,pos,h⟩:=h;replace h:=ofAn h;obtain ⟨h⟩:=h;replace h:=za0 h;obtain ⟨v,z335,h⟩:=h;replace h:=za0 h;obtain ⟨w,rest,h⟩:=h;simp only [Bool.and_eq_true] at h
  have key:PW X (.BoolOp .And (v::w::rest) pos) (tTv X.K (tv Γ (.and a b))):=by
   cases rest with
   | nil=>exact znr (tb:=λ_ _ _=>True) (okT a C v X h.1 G).1 (znL (okT b C w X h.2 G).1)
   | cons y ys=>exact znr (tb:=λ_ _ _=>True) (okT a C v X h.1 G).1 ((okT b C _ X h.2 G).2 rfl)
  exact ⟨key.pt,λ_=>key⟩
 | .or a b,C,e,X,h,G=>by
  replace h:=ofBo h;obtain ⟨z337,z338,pos,h⟩:=h;replace h:=ofOr h;obtain ⟨h⟩:=h;replace h:=za0 h;obtain ⟨v,z339,h⟩:=h;replace h:=za0 h;obtain ⟨w,rest,h⟩:=h;simp only [Bool.and_eq_true] at h
  have key:PW X (.BoolOp .Or (v::w::rest) pos) (tTv X.K (tv Γ (.or a b))):=by
   cases rest with
   | nil=>exact zpE (okT a C v X h.1 G).1 (zp6 (okT b C w X h.2 G).1)
   | cons y ys=>exact zpE (okT a C v X h.1 G).1 ((okT b C _ X h.2 G).2 rfl)
  exact ⟨key.pt,λ_=>key⟩
 | .not a,C,e,X,h,G=>by
  replace h:=ofUn h;obtain ⟨z341,x,p1_,h⟩:=h;replace h:=ofNo h;obtain ⟨h⟩:=h;exact ⟨zp1 (okT a C _ X h G).1,λz=>by first | exact noT z | exact noF z⟩
theorem okTs {Γ:Calls} {n:Nat}:∀ (ts:List T) (C:Cst) (es:List Expr) (X:Cx),zlJ ts C es=true->Good Γ n C X->PTs X es (tTv X.K (tvs Γ ts))
 | [],C,es,X,h,G=>by
  cases es with
  | nil=>
   intro pins s σ H Q I ⟨μ,h0,env,R0,re,t,h',e,k⟩;simp only [tvs,zac] at e;obtain ⟨rfl,rfl⟩:=e;exact zpo pins s σ H Q I (k μ H true Stp.refl R0 rfl)
  | cons _ _=>exact noT h
 | t :: ts,C,es,X,h,G=>by
  cases es with
  | nil=>exact noT h
  | cons e es=>
   change ((chkT _ _ _&&zlJ _ _ _)&&List.isEmpty _)=true at h;simp only [Bool.and_eq_true] at h;obtain ⟨⟨h1,h2⟩,h3⟩:=h
   cases es with
   | cons _ _=>simp at h3
   | nil=>
    cases ts with
    | cons _ _=>exact noT h2
    | nil=>
     intro pins s σ H Q I ⟨μ,h0,env,R0,re,t',h',e,k⟩;simp only [tvs,zab] at e;obtain ⟨t1,h1',e1,e2⟩:=e;refine zop (okT t C _ X h1 G).1 pins s σ H Q I ⟨μ,h0,env,R0,re,t1,h1',e1,λμ1 H1 b s1 R1 hb=>?_⟩;subst hb
     cases t1 with
     | true=>
      simp only [if_true,zac] at e2;obtain ⟨rfl,rfl⟩:=e2;exact k μ1 H1 _ s1 R1 rfl
     | false=>
      simp only [Bool.false_eq_true,if_false,zac] at e2;obtain ⟨rfl,rfl⟩:=e2;exact k μ1 H1 _ s1 R1 rfl
theorem okL {Γ:Calls} {n:Nat}:∀ (l:L) (C:Cst) (e:Expr) (X:Cx),chkL l C e=true->Good Γ n C X->match l with
  | .disp es=>IL X e (evL Γ (.disp es))
  | .comp tg it cs el=>zdS Γ X tg it cs el e
  | .of a=>IL X e (evL Γ (.of a))
  | .spl a b=>IL X e (evL Γ (.spl a b))
  | .sdi a=>IL X e (evL Γ (.sdi a))
  | .sst a=>IL X e (evL Γ (.sst a))
 | .disp es,C,e,X,h,G=>by
  replace h:=ofLi h;obtain ⟨xs,p1_,h⟩:=h;simp only [Bool.and_eq_true] at h
  exact zpk (okEs es C _ X h.1 G) (of_decide_eq_true h.2) (λσ h0 rs h' e=>by rw [zfi e];exact zcd h.1)
 | .comp tg it cs el,C,e,X,h,G=>by
  replace h:=ofLC h;obtain ⟨elt,z344,sc,pos,h⟩:=h;replace h:=zbM h;obtain ⟨g,h⟩:=h;obtain ⟨gt,gi,gifs,ga⟩:=g;simp only [Bool.and_eq_true,Bool.not_eq_true'] at h;obtain ⟨⟨⟨⟨⟨⟨h1,h2⟩,h3⟩,h4,h4'⟩,h5⟩,h6⟩,h7⟩:=h
  have ea:ga=0:=by simpa using h1
  subst ea;refine ⟨elt,gt,gi,gifs,sc,pos,(blkC C sc (zcC tg gt)).N,rfl,zn4 G h3,okI it C gi X h5 G gt h4',λcl pins s₂ H₂ Cc fp=>?_,zj7 h2⟩;have G':=G.blk h3 cl pins s₂ H₂ Cc fp;exact ⟨zqX G' tg gt h4,okTs cs _ gifs _ h6 G',okE el _ elt _ h7 G'⟩
 | .of a,C,e,X,h,G=>by
  replace h:=ofCN h;obtain ⟨x,p1_,z348,p3_,h⟩:=h;replace h:=zbM h;obtain ⟨v,h⟩:=h;simp only [Bool.and_eq_true] at h;obtain ⟨⟨⟨h1,h2⟩,h3⟩,h4⟩:=h;have hx:=eq_of_beq h1;subst hx;exact zrT (zee G h2) (G.blt _ (by decide)) (okE a C _ X h4 G) (zar h3)
 | .spl a b,C,e,X,h,G=>by
  replace h:=ofCA h;obtain ⟨ov,name,apos,z353,cpos,h⟩:=h;replace h:=zbM h;obtain ⟨v,h⟩:=h;simp only [Bool.and_eq_true] at h;obtain ⟨⟨⟨⟨⟨h1,h2⟩,h3⟩,h4⟩,h5⟩,h6⟩:=h
  have st:∀ y∈[v],zan y=true:=by intro y hy;simp at hy;rw [hy];exact h4
  have few:=zhI (env:=X.env) (cpos:=cpos) st (by simp);exact zq2 (okE a C ov X h3 G) (okE b C v X h5 G) (eq_of_beq h1) (zcI h2) few h6 (zar h4) rfl
 | .sdi a,C,e,X,h,G=>by
  replace h:=ofCN h;obtain ⟨x,p1_,z375,p6_,h⟩:=h;replace h:=zbM h;obtain ⟨z376,h⟩:=h;replace h:=ofCA h;obtain ⟨ov,name,apos,z378,cpos,h⟩:=h;replace h:=zjm h;obtain ⟨h⟩:=h;simp only [Bool.and_eq_true] at h;obtain ⟨⟨⟨⟨⟨h1,h2⟩,h3⟩,h4⟩,h5⟩,h6⟩:=h;have hx:=eq_of_beq h1;subst hx;exact zrE G.room.units G.calm (zee G h2) (G.blt _ (by decide)) (okE a C _ X h5 G) (eq_of_beq h3) (zcI h4) h6 rfl
 | .sst a,C,e,X,h,G=>by
  replace h:=ofCN h;obtain ⟨x,p1_,z384,p6_,h⟩:=h;replace h:=zbM h;obtain ⟨z385,h⟩:=h;replace h:=ofCN h;obtain ⟨y,p3_,z387,p5_,h⟩:=h;replace h:=zbM h;obtain ⟨v,h⟩:=h;simp only [Bool.and_eq_true] at h;obtain ⟨⟨⟨⟨⟨h1,h2⟩,h3⟩,h4⟩,h5⟩,h6⟩:=h;have hx:=eq_of_beq h1;have hy:=eq_of_beq h3;subst hx hy;exact zqj G.room.units G.calm (zee G h2) (G.blt _ (by decide)) (zee G h4) (G.blt _ (by decide)) (okE a C _ X h6 G) (zar h5) rfl
theorem okI {Γ:Calls} {n:Nat}:∀ (it:I) (C:Cst) (e:Expr) (X:Cx),chkI it C e=true->Good Γ n C X->∀ tg,enuB it tg=true->PI X tg e (tI X.K (evI Γ it))
 | .seq a,C,e,X,h,G,tg,_=>zrh (okE a C e X h G)
 | .dic a,C,e,X,h,G,tg,_=>zrg (okE a C e X h G)
 | .rng a,C,e,X,h,G,tg,_=>by
  replace h:=ofCN h;obtain ⟨x,p,z399,pos,h⟩:=h;replace h:=zbM h;obtain ⟨v,h⟩:=h;simp only [Bool.and_eq_true] at h;have hx:=eq_of_beq h.1.1.1;subst hx;exact zqy (zee G h.1.1.2) (G.blt _ (by decide)) (okE a C v X h.2 G) (zar h.1.2)
end
theorem zne {C:Cst} {a:E} {x1:Expr} {x2:_} {x3:_} {x4:_} (h:chkE a C (.SetComp x1 x2 x3 x4)=true):a=.stuck:=by
 cases a with
 | stuck=>rfl
 | lst m l=>cases l<;>exact noT h
 | _=>exact noT h
theorem zmn {C:Cst} {a:E} {x0 x1:Expr} {x2:_} {x3:_} {x4:_} (h:chkE a C (.DictComp x0 x1 x2 x3 x4)=true):a=.stuck:=by
 cases a with
 | stuck=>rfl
 | lst m l=>cases l<;>exact noT h
 | _=>exact noT h
theorem zm4 {C:Cst} {a:E} {x1:Expr} {x2:_} {x3:_} {x4:_} (h:chkE a C (.ListComp x1 x2 x3 x4)=true) (hO:zkl a=false):a=.stuck\/∃ m tg it cs el,a=.lst m (.comp tg it cs el):=by
 cases a with
 | stuck=>exact .inl rfl
 | lst m l=>
  cases l with
  | comp tg it cs el=>exact .inr ⟨m,tg,it,cs,el,rfl⟩
  | _=>exact noT h
 | _=>exact noT h
theorem zmQ {Γ:Calls} {n:Nat} {C:Cst} {X:Cx} (G:Good Γ n C X) {tg:Tg} {a:E} {t v:Expr} {pos:Pos} (h1:zdi C tg t=true) (h3:chkE a C v=true) (h2:zan t=true) (h4:(zcK t&&zcK v)=false) (hc:zcU v=true) (hn:zgM t=true) (hO:zkl a=false) :
  PS X (.Assign [t] v pos) (tS X.K λσ=>bnd (ev Γ a σ) λr=>bnd (zaz tg r σ) λσ'=>ok (.nx,σ')):=by
 have g:=okTg G tg t h1
 cases t with
 | Name y py=>
  cases tg with
  | tup ts=>exact noT h1
  | name iy=>
   cases v with
   | ListComp elt gens sc cpos=>
    have hb:∃ b,swapsWith (.ListComp elt gens sc cpos) (some (.Name y py)) pos.line X.env=pure b:=⟨_,rfl⟩;obtain ⟨b,hb⟩:=hb
    cases b with
    | false=>exact znv (okE a C _ X h3 G) g hb (zcu h4) (zfe h2)
    | true=>
     rcases zm4 h3 hO with rfl | ⟨m,tg2,it,cs,el,rfl⟩
     ·exact λpins s σ H D I ⟨μ,h,env,R0,re,fl,env',h',e,k⟩=>by cases e
     ·obtain ⟨elt',gt,gi,gifs,sc',pos',N',e,ok,hi,hB,hs⟩:=okL (Γ:=Γ) (n:=n) (.comp tg2 it cs el) C _ X h3 G
      cases e;change (_&&locB C _)=true at h1;simp only [Bool.and_eq_true] at h1;obtain ⟨l1,l2⟩:=znz G h1.2
      refine PS.imp (zhp G.nox G.calm ok hi hB hs hb (zll G.nd (by rw [G.N];exact eq_of_beq h1.1) l1 l2)) λD σ H q=>?_
      have q1:=znd q;have q2:=zmG (fl:=evL Γ (.comp tg2 it cs el)) (m:=m) q1;exact zdS.read (q2.imp λv H1 z=>ziU z)
   | SetComp _ _ _ _=>
    obtain rfl:=zne h3
    exact λpins s σ H D I ⟨μ,h,env,R0,re,fl,env',h',e,k⟩=>by cases e
   | DictComp _ _ _ _ _=>
    obtain rfl:=zmn h3
    exact λpins s σ H D I ⟨μ,h,env,R0,re,fl,env',h',e,k⟩=>by cases e
   | _=>first | exact noT hc | exact noF hc
 | _=>first | exact noT hn | exact noF hn
mutual
theorem okS {Γ:Calls} {n:Nat}:∀ (s:S) (C:Cst) (st:Stmt) (X:Cx),chkS s C st=true->Good Γ n C X->PS X st (tS X.K (ex Γ s))
 | .asg tg a,C,st,X,h,G=>by
  replace h:=ofAs h;obtain ⟨z409,v,pos,h⟩:=h;replace h:=zbM h;obtain ⟨t,h⟩:=h;simp only [Bool.and_eq_true,Bool.not_eq_true',Bool.or_eq_true] at h;obtain ⟨⟨⟨⟨h1,h2⟩,h3⟩,h4⟩,h5⟩:=h
  rcases h5 with h5 | h5
  ·exact znv (okE a C v X h3 G) (okTg G tg t h1) (zg7 h5) (zcu h4) (zfe h2)
  ·exact zmQ G h1 h3 h2 h4 h5.1.1 h5.1.2 h5.2
 | .setI o i a,C,st,X,h,G=>by
  replace h:=ofAs h;obtain ⟨z412,v,pos,h⟩:=h;replace h:=zbM h;obtain ⟨z413,h⟩:=h;replace h:=ofSu h;obtain ⟨ov,iv,p2,h⟩:=h;simp only [Bool.and_eq_true,Bool.not_eq_true'] at h;obtain ⟨⟨⟨⟨h1,h2⟩,h3⟩,h4⟩,h5⟩:=h;exact zpu (okE a C v X h1 G) (okE o C ov X h2 G) (okE i C iv X h3 G) (zkN h5) (zg7 h4) (zcu (by rfl)) (zfe rfl)
 | .exp a,C,st,X,h,G=>by
  replace h:=ofEx h;obtain ⟨v,p1_,h⟩:=h;simp only [Bool.and_eq_true,Bool.not_eq_true'] at h;exact zpG (okE a C _ X h.1 G) (zmi h.2)
 | .ife c a b,C,st,X,h,G=>by
  replace h:=zr3 h;obtain ⟨t,x,y,p3_,h⟩:=h;simp only [Bool.and_eq_true] at h;exact zrW (okT c C _ X h.1.1 G).1 (okSs a C _ X h.1.2 G) (okSs b C _ X h.2 G)
 | .for tg it body,C,st,X,h,G=>by
  replace h:=ofFo h;obtain ⟨t,iter,b,z426,p3_,h⟩:=h;replace h:=zjm h;obtain ⟨h⟩:=h;simp only [Bool.and_eq_true,Bool.not_eq_true'] at h;obtain ⟨⟨⟨⟨h1,h1'⟩,h2⟩,h3⟩,h4⟩:=h
  exact zrF (by rw [G.nox];exact PassesOwn.never) G.calm (okI it C _ X h2 G _ h1') (zqX G tg _ h1) (okSs body C _ X h3 G) (zj7 h4) (λσ h w h' e=>zjP e)
 | .ret a,C,st,X,h,G=>by
  replace h:=ofRe h;obtain ⟨z428,p1_,h⟩:=h;replace h:=zq8 h;obtain ⟨v,h⟩:=h;exact zqB (okE a C _ X h G)
 | .brk,C,st,X,h,G=>noT h
 | .cnt,C,st,X,h,G=>noT h
 | .setD o i a,C,st,X,h,G=>by
  replace h:=ofAs h;obtain ⟨z437,v,pos,h⟩:=h;replace h:=zbM h;obtain ⟨z438,h⟩:=h;replace h:=ofSu h;obtain ⟨ov,iv,p2,h⟩:=h;simp only [Bool.and_eq_true,Bool.not_eq_true'] at h;obtain ⟨⟨⟨⟨h1,h2⟩,h3⟩,h4⟩,h5⟩:=h;exact zn9 G.room.units (okE a C v X h1 G) (okE o C ov X h2 G) (okE i C iv X h3 G) (zkN h5) (zg7 h4) (zcu (by rfl)) (zfe rfl)
 | .stuck,C,st,X,h,G=>zl5
theorem okSs {Γ:Calls} {n:Nat}:∀ (ss:List S) (C:Cst) (sts:List Stmt) (X:Cx),chkSs ss C sts=true->Good Γ n C X->PSs X sts (tS X.K (exs Γ ss))
 | [],C,sts,X,h,G=>by
  cases sts with
  | nil=>exact znX
  | cons _ _=>exact noT h
 | s::ss,C,sts,X,h,G=>by
  cases sts with
  | nil=>exact noT h
  | cons st sts=>
   change (chkS _ _ _&&chkSs _ _ _)=true at h;simp only [Bool.and_eq_true] at h;exact zlR (okS s C st X h.1 G) (okSs ss C sts X h.2 G)
end
end IT
namespace IT
open PySem PySem.Spec L2
section
variable {K:PySem.W.Frag} {μ μ':List Addr} {h h':Sto} {H H':Hp}
theorem RepDs.less (i:∀ a,A' a->A a) (q:RepDs K A H x v):RepDs K A' H x v:=RepDs.mono (λ_ _ z=>z) (λ_ _ n z=>⟨λl=>n (i _ l),z⟩) x v q
theorem RepD.less (i:∀ a,A' a->A a) (q:RepD K A H x v):RepD K A' H x v:=RepD.mono (λ_ _ z=>z) (λ_ _ n z=>⟨λl=>n (i _ l),z⟩) x v q
theorem zdh (st:Stp μ h H μ' h' H') (R0:Rep K μ h H):μ'.take h.length=μ:=by
 have hl:=R0.len;refine List.ext_getElem? λi=>?_
 by_cases hi:i<μ.length
 ·rw [List.getElem?_take_of_lt (by omega),st.pre i μ[i] (List.getElem?_eq_getElem hi),List.getElem?_eq_getElem hi]
 ·rw [List.getElem?_eq_none (by simp;omega),List.getElem?_eq_none (by omega)]
theorem zgT:∀ a,Live (μ'.take n) (h'.take n) a->Live μ' h' a:=by
 rintro a ⟨i,o,e1,e2,e3⟩
 have hi:i<n:=by
  have:=(List.getElem?_eq_some_iff.mp e1).1
  simp at this;omega
 rw [List.getElem?_take_of_lt hi] at e1 e2;exact ⟨i,o,e1,e2,e3⟩
noncomputable def R.locs:R->List Nat
 | .d _=>[]
 | .loc l=>[l]
noncomputable def Ob.locs:Ob->List Nat
 | .lst _=>[]
 | .fro _=>[]
 | .ols ls=>ls
 | .dic _=>[]
 | .dfr _=>[]
 | .ins _ fs=>(fs.map λp=>R.locs p.2).flatten
theorem zcB {α β:Type} {F:α->β->Prop}:∀ {xs:List α} {ys:List β} {x:α},Paired F xs ys->x∈xs->∃ y,F x y
 | _,_,_,.nil,h=>by simp at h
 | _,_,x,.cons r t,h=>by
  rcases List.mem_cons.mp h with rfl | h
  ·exact ⟨_,r⟩
  ·exact zcB t h
theorem zbx {α β:Type} {F G:α->β->Prop}:∀ {xs:List α} {ys:List β},Paired F xs ys->(∀ x∈xs,∀ y,F x y->G x y)->Paired G xs ys
 | _,_,.nil,_=>.nil
 | _,_,.cons r t,f=>.cons (f _ (by simp) _ r) (zbx t λx hx=>f x (by simp [hx]))
theorem zk7 {a:Addr} {o:Ob} (q:RepO K μ h H a o):∀ l∈o.locs,l<μ.length:=by
 intro l hl
 cases o with
 | lst _=>simp [Ob.locs] at hl
 | fro _=>simp [Ob.locs] at hl
 | dic _=>simp [Ob.locs] at hl
 | dfr _=>simp [Ob.locs] at hl
 | ols ls=>
  obtain ⟨vs,_,z⟩:=q;obtain ⟨v,b,eb,_⟩:=zcB z hl;exact (List.getElem?_eq_some_iff.mp eb).1
 | ins c fs=>
  obtain ⟨C,dx,fs',_,_,z⟩:=q;simp only [Ob.locs,List.mem_flatten,List.mem_map] at hl;obtain ⟨_,⟨p,hp,rfl⟩,hl⟩:=hl;obtain ⟨q',_,qr⟩:=zcB z hp
  cases hr:p.2 with
  | d x=>rw [hr] at hl;simp [R.locs] at hl
  | loc k=>
   rw [hr] at hl qr;simp [R.locs] at hl;subst hl;obtain ⟨b,eb,_⟩:=qr;exact (List.getElem?_eq_some_iff.mp eb).1
theorem zgW {μ2:List Addr} {h2:Sto} {a:Addr} (q:RepO K μ' h' H' a o) (lv:∀ b,Live μ2 h2 b->Live μ' h' b) (cl:∀ l∈o.locs,∀ b,μ'[l]?=some b->μ2[l]?=some b):RepO K μ2 h2 H' a o:=by
 cases o with
 | lst xs=>obtain ⟨vs,e,z⟩:=q;exact ⟨vs,e,z.less lv⟩
 | fro xs=>obtain ⟨vs,e,z⟩:=q;exact ⟨vs,e,z.less lv⟩
 | dic kvs=>obtain ⟨xs,e,z⟩:=q;exact ⟨xs,e,zbx z λp _ r y=>⟨y.1,⟨y.2.1.1,RepD.less lv y.2.1.2⟩,RepD.less lv y.2.2⟩⟩
 | dfr kvs=>obtain ⟨ob,xs,e,z⟩:=q;exact ⟨ob,xs,e,zbx z λp _ r y=>⟨y.1,⟨y.2.1.1,RepD.less lv y.2.1.2⟩,RepD.less lv y.2.2⟩⟩
 | ols ls=>obtain ⟨vs,e,z⟩:=q;exact ⟨vs,e,zbx z λl hl v ⟨b,eb,ev⟩=>⟨b,cl l hl b eb,ev⟩⟩
 | ins c fs=>
  obtain ⟨C,dx,fs',hC,e,z⟩:=q;refine ⟨C,dx,fs',hC,e,zbx z λp hp q' ⟨e1,qr⟩=>⟨e1,?_⟩⟩
  cases hr:p.2 with
  | d x=>rw [hr] at qr;exact RepD.less lv qr
  | loc k=>
   rw [hr] at qr;obtain ⟨b,eb,ev⟩:=qr;refine ⟨b,cl k ?_ b eb,ev⟩;simp only [Ob.locs,List.mem_flatten,List.mem_map]
   exact ⟨_,⟨p,hp,rfl⟩,by rw [hr];simp [R.locs]⟩
theorem R.same_eq {x y:R} (e:x.same y=true):x=y:=by
 cases x with
 | d x=>
  cases y with
  | d y=>rw [D.same_eq x y e]
  | loc _=>cases e
 | loc l=>
  cases y with
  | d _=>cases e
  | loc k=>simp only [R.same] at e;rw [eq_of_beq e]
theorem zgP:∀ {fs gs:List (Str×R)},zck fs gs=true->fs=gs
  | [],[],_=>rfl
  | [],_::_,e=>by simp [zck] at e
  | (f,x)::r,[],e=>by simp [zck] at e
  | (f,x)::r,(g,y)::t,e=>by
    simp only [zck,Bool.and_eq_true] at e;obtain ⟨⟨e1,e2⟩,e3⟩:=e;rw [eq_of_beq e1,R.same_eq e2,zgP e3]
theorem zgq:∀ {h h1:Sto} {i:Nat} {o1:Ob},objs h h1=true->h1[i]?=some o1->i<h.length->∃ o,h[i]?=some o/\o1.locs=o.locs
 | [],_,_,_,_,_,hi=>by simp at hi
 | o::h,[],_,_,e,_,_=>by simp [objs] at e
 | o::h,o1::t,0,x,e,ex,_=>by
  simp only [List.getElem?_cons_zero,Option.some.injEq] at ex;subst ex;refine ⟨o,rfl,?_⟩;simp only [objs,Bool.and_eq_true] at e;have e:=e.1
  cases o<;>cases o1<;>simp only [Bool.false_eq_true] at e<;>try rfl
  ·simp only [Bool.and_eq_true] at e
   rw [zgP e.2];rfl
  ·simp only [Ob.locs]
   rw [eq_of_beq e]
 | o::h,o1::t,i+1,x,e,ex,hi=>by
  simp only [objs,Bool.and_eq_true] at e;obtain ⟨o',e1,e2⟩:=zgq (i:=i) e.2 (by simpa using ex) (by simpa using hi);exact ⟨o',by simpa using e1,e2⟩
theorem zlI (st:Stp μ h H μ' h' H') (R0:Rep K μ h H) (R1:Rep K μ' h' H'):Stp μ h H μ (h'.take h.length) H':=by
 refine ⟨λ_ _ e=>e,st.keep,λa l=>st.live a (zgT (n:=h.length) a ?_)⟩;rw [zdh st R0];exact l
theorem zpn (st:Stp μ h H μ' h' H') (R0:Rep K μ h H) (R1:Rep K μ' h' H') (ob:objs h h'=true) (q:RepR K μ' h' H' r v) (e:fin0 h.length keep r h'=some (r2,h2)) :
  ∃ μ2,Stp μ h H μ2 h2 H'/\Rep K μ2 h2 H'/\RepR K μ2 h2 H' r2 v:=by
 have st1:=zlI st R0 R1
 have lv:∀ a,Live μ (h'.take h.length) a->Live μ' h' a:=λa l=>zgT (n:=h.length) a (by rw [zdh st R0];exact l)
 have hlen:=R0.len
 have at1:∀ (l:Nat) (b:Addr),l<h.length->μ'[l]?=some b->μ[l]?=some b:=λl b hl eb=>by
  rw [<-zdh st R0,List.getElem?_take_of_lt hl];exact eb
 have small:∀ (i:Nat) (o:Ob),i<h.length->h'[i]?=some o->∀ l∈o.locs,l<h.length:=by
  intro i o hi ho l hl;obtain ⟨o0,e0,el⟩:=zgq ob ho hi;rw [el] at hl
  have hi':i<μ.length:=by omega
  have:=zk7 (R0.obj i μ[i] o0 (List.getElem?_eq_getElem hi') e0) l hl
  omega
 have R2:Rep K μ (h'.take h.length) H':=by
  have hl':(h'.take h.length).length=h.length:=by
   have:=R1.len
   have h3:μ.length<=μ'.length:=by rw [<-zdh st R0,List.length_take];exact Nat.min_le_right _ _
   simp;omega
  refine ⟨by rw [hl'];exact hlen,R0.nd,λi a o e1 e2=>?_⟩
  have hi:i<h.length:=by rw [<-hlen];exact (List.getElem?_eq_some_iff.mp e1).1
  rw [List.getElem?_take_of_lt hi] at e2;exact zgW (R1.obj i a o (st.pre i a e1) e2) lv λl hl b eb=>at1 l b (small i o hi e2 l hl) eb
 cases r with
 | d x=>
  simp only [fin0,Option.some.injEq,Prod.mk.injEq] at e;obtain ⟨rfl,rfl⟩:=e;exact ⟨μ,st1,R2,RepD.less lv q⟩
 | loc l =>
  obtain ⟨a,ea,rfl⟩:=q;simp only [fin0] at e
  by_cases hl:l<h.length
  ·rw [if_pos hl] at e
   simp only [Option.some.injEq,Prod.mk.injEq] at e;obtain ⟨rfl,rfl⟩:=e;exact ⟨μ,st1,R2,a,at1 l a hl ea,rfl⟩
  ·rw [if_neg hl] at e
   obtain ⟨o,ho⟩:=R1.placeO ea;rw [ho] at e
   have apart:a ∉ μ:=by
    intro hm;obtain ⟨i,hi,ei⟩:=List.getElem_of_mem hm
    have:=ze8 R1.nd (st.pre i a (by rw [List.getElem?_eq_getElem hi,ei])) ea
    omega
   have data:∀ xs,o.isL=true->o.items=xs->∃ μ2,Stp μ h H μ2 (h'.take h.length) H'/\Rep K μ2 (h'.take h.length) H'/\RepR K μ2 (h'.take h.length) H' (.d (.lst xs)) (.ref a):=by
    rintro xs il rfl
    obtain ⟨vs,hH,z⟩:=R1.placeL ea ho il;refine ⟨μ,st1,R2,?_⟩;simp only [RepR,RepD];refine ⟨a,vs,rfl,.inl ⟨?_,.inl hH⟩,z.less lv⟩
    rintro ⟨i,ys,e1,e2,_⟩
    exact apart (List.mem_of_getElem? e1)
   cases o with
   | ins _ _=>cases e
   | ols _=>cases e
   | dic _=>cases e
   | dfr _=>cases e
   | fro xs=>
    simp only [Option.some.injEq,Prod.mk.injEq] at e;obtain ⟨rfl,rfl⟩:=e;exact data xs rfl rfl
   | lst xs=>
    cases keep with
    | false=>
     simp only [Bool.false_eq_true,if_false,Option.some.injEq,Prod.mk.injEq] at e;obtain ⟨rfl,rfl⟩:=e;exact data xs rfl rfl
    | true=>
     simp only [if_true,Option.some.injEq,Prod.mk.injEq] at e;obtain ⟨rfl,rfl⟩:=e;obtain ⟨vs,hH,z⟩:=R1.placeL ea ho rfl
     have hl2:(h'.take h.length).length=μ.length:=by rw [<-R2.len]
     have lv2:∀ b,Live (μ++[a]) (h'.take h.length++[.lst xs]) b->Live μ' h' b:=by
      intro b l2
      rcases (zij R2.len).mp l2 with w | ⟨rfl,_⟩
      ·exact lv b w
      ·exact ⟨l,_,ea,ho,rfl⟩
     refine ⟨μ++[a],⟨λi b e=>?_,st.keep,λb l2=>st.live b (lv2 b l2)⟩,⟨by simp [hl2],?_,λi b o e1 e2=>?_⟩,a,?_,rfl⟩
     ·rw [List.getElem?_append_left (List.getElem?_eq_some_iff.mp e).1];exact e
     ·rw [List.nodup_append]
      refine ⟨R0.nd,by simp,λb hb c hc=>?_⟩;simp at hc;subst hc
      rintro rfl
      exact apart hb
     ·by_cases hi:i<μ.length
      ·rw [List.getElem?_append_left hi] at e1
       rw [List.getElem?_append_left (by omega)] at e2
       have hi2:i<h.length:=by omega
       rw [List.getElem?_take_of_lt hi2] at e2;refine zgW (R1.obj i b o (st.pre i b e1) e2) lv2 λk hk c ec=>?_;have hk2:=small i o hi2 e2 k hk;rw [List.getElem?_append_left (by omega)];exact at1 k c hk2 ec
      ·rw [List.getElem?_append_right (by omega)] at e1
       rw [List.getElem?_append_right (by omega)] at e2
       have hz:i-μ.length=0:=by
        cases hk:i-μ.length with
        | zero=>rfl
        | succ k=>rw [hk] at e1;simp at e1
       rw [hl2,hz] at e2;rw [hz] at e1;simp at e1 e2;subst e1 e2;exact ⟨vs,hH,z.less lv2⟩
     ·rw [hlen.symm]
      simp
theorem znD (st:Stp μ h H μ' h' H') (R0:Rep K μ h H) (R1:Rep K μ' h' H') (q:RepR K μ' h' H' r v) (e:fin h all keep r h'=some (r2,h2)) :
  ∃ μ2,Stp μ h H μ2 h2 H'/\Rep K μ2 h2 H'/\RepR K μ2 h2 H' r2 v:=by
 unfold fin at e
 cases all with
 | true=>
  simp only [if_true,Option.some.injEq,Prod.mk.injEq] at e;obtain ⟨rfl,rfl⟩:=e;exact ⟨μ',st,R1,q⟩
 | false=>
  simp only [Bool.false_eq_true,if_false] at e
  split at e
  ·rename_i ob
   exact zpn st R0 R1 ob q e
  ·cases e
end
structure Fun2 (K:PySem.W.Frag) (x qual:Str) (st:Stmt) (f:Addr) (fd:FuncData):Prop where
 ex:∃ (oc:Value) (od:Option Addr) (dV kV doc pm:Value) (an:Option Addr) (cdv ct:Value) (osl:Array (Option Value)),
  fd=PySem.W.fnOf x qual (zdE st) (za9 st) (zam st) dV kV doc pm an cdv ct/\K.lookup f=some ⟨oc,od,.func fd,osl⟩/\PySem.W.codeIn K cdv qual=true
 kp:PySem.W.keepIn K (.ref f)=true
section
variable {P:Program} {w:World} {K:PySem.W.Frag} {mg:Str->Option Value} {base:Heap}
theorem Fun2.ok (F:Fun2 K x qual st f fd) (S:zdx N ps (zam st)) (len:∀ vs H Q E,sp vs H Q E->vs.length=ps.length)
  (hbody:∀ (cdv:Value) (A:Around) (outer:List PySem.Env) (s:Shared) (H:Hp) (vs:List V) (Q:VK) (E:XK),Room k (A.deeper (PyProof.Rows.envOfC qual (zam st) s.heap.objs.size f cdv))->sp vs H Q E →
   ∃ t,PSs (cxOf CX0 P w K mg base N qual (zam st) f cdv A outer s H E).nox (za9 st) t/\t { nx:=λ_ H'=>Q .non H',rt:=Q } (L2.start N vs) H):FnOk P w K mg base CX0 (k+1) f fd ps sp:=by
 obtain ⟨oc,od,dV,kV,doc,pm,an,cdv,ct,osl,rfl,lk,hcd⟩:=F.ex;refine zsv lk hcd S len λA outer s H vs Q E hr hsp=>?_;obtain ⟨t,h,q⟩:=hbody cdv A outer s H vs Q E hr hsp;exact ⟨t,h.nox,q⟩
theorem zoI {dV kV doc pm cdv ct:Value} (l:K.lookup f=some ⟨oc,od,.func (PySem.W.fnOf x qual (zdE st) (za9 st) (zam st) dV kV doc pm an cdv ct),osl⟩)
  (c:PySem.W.codeIn K cdv qual=true) (k:PySem.W.keepIn K (.ref f)=true):Fun2 K x qual st f (PySem.W.fnOf x qual (zdE st) (za9 st) (zam st) dV kV doc pm an cdv ct):=⟨⟨oc,od,dV,kV,doc,pm,an,cdv,ct,osl,rfl,l,c⟩,k⟩
end
structure ziW (K:PySem.W.Frag) (fns:List (Str×Nat×List D)) (cls:List zkw) (Pr:List F) (globs:List (Str×D)) (gds:List (Str×List (List Nat×D))) (fi:Nat) (x qual:Str) (st:Stmt) (f:Addr) (fd:FuncData) (N ps:List Str) (B:F):Prop where
 at':Pr[fi]?=some B
 fn:Fun2 K x qual st f fd
 sc:zdx N ps (zam st)
 np:B.np=ps.length
 ns:B.ns=N.length
 bi:∃ dvs,(∀ A H,RepDs K A H B.dfl dvs)/\∀ j,j<=B.dfl.length->∃ ds,zgS K fd ps ds/\Vals (dvs.drop j) ds
 chk:chkSs B.body ⟨N,(zam st).names,fns,globs,true,cls,gds⟩ (za9 st)=true
structure Txt (w:World) (K:PySem.W.Frag) (mg:Str->Option Value) (fns:List (Str×Nat×List D)) (cls:List zkw) (Pr:List F) (globs:List (Str×D)) (gds:List (Str×List (List Nat×D))) (addr:Nat->Addr) (fdOf:Nat->FuncData) (psOf:Nat->List Str):Prop where
 defs:∀ fi B,Pr[fi]?=some B->∃ x qual st N,ziW K fns cls Pr globs gds fi x qual st (addr fi) (fdOf fi) N (psOf fi) B
 blt:∀ x∈zcp,mg x=none
 glob:∀ (x:Str) (d:D),globs.lookup x=some d->∃ u v,mg x=some u/\RelV v u/\∀ A H,RepD K A H d v
 gdic:∀ (x:Str) (kvs:List (List Nat×D)),gds.lookup x=some kvs->GDic K w mg x kvs
 funs:∀ fi p,fns[fi]?=some p->mg p.1=some (.ref (addr fi))/\∃ B,Pr[fi]?=some B/\B.np=p.2.1/\B.dfl=p.2.2
 makes:∀ i∈cls,∃ C B,mg i.name=some (.ref C)/\PySem.W.nsIn K mainGlobals i.name=some (some (.ref C))/\Cls K C/\Mk K C (addr i.init)/\Pr[i.init]?=some B/\B.dfl=[]
 meths:∀ i∈cls,∀ p∈i.meths,∃ C B,PySem.W.nsIn K mainGlobals i.name=some (some (.ref C))/\Cls K C/\Meth K C p.1 (addr p.2)/\Pr[p.2]?=some B/\B.dfl=[]
 attrs:∀ i∈cls,∀ f∈i.fields,∀ A,PySem.W.nsIn K mainGlobals i.name=some (some (.ref A))->zki K A f
section
variable {P:Program} {w:World} {K:PySem.W.Frag} {mg:Str->Option Value} {base:Heap} {fns:List (Str×Nat×List D)} {cls:List zkw} {Pr:List F} {globs:List (Str×D)} {gds:List (Str×List (List Nat×D))} {addr:Nat->Addr} {fdOf:Nat->FuncData} {psOf:Nat->List Str}
theorem zgv (h:np<=rs.length):zaD np dfl rs=rs:=by
 rw [zci (by omega),List.drop_eq_nil_of_le (by omega)];simp
theorem zjE:zaD np dfl (zaD np dfl rs)=zaD np dfl rs:=by
 by_cases hs:rs.length+dfl.length<np
 ·rw [zcz hs,zcz hs]
 ·refine zgv ?_
  rw [zci hs];simp only [List.length_append,List.length_map,List.length_drop];omega
theorem ziy (e0:Pr[fi]?=some B) (rs:List R):zai Pr m fi rs=zai Pr m fi (zaD B.np B.dfl rs):=by
 cases m with
 | zero=>rfl
 | succ m=>
  funext h
  rw [za4,za4];simp only [e0];rw [zjE]
theorem zgJ (e0:Pr[fi]?=some B) (e:zai Pr (m+1) fi rs h=some p):(zaD B.np B.dfl rs).length=B.np:=by
 rw [za4] at e;simp only [e0] at e
 split at e
 ·assumption
 ·cases e
theorem zaY.env (q:zaY K μ h H rs vs) (i:Nat) (r:R) (e:(rs.map some)[i]?=some (some r)):∃ v,(vs.map some)[i]?=some (some v)/\RepR K μ h H r v:=by
 induction q generalizing i with
 | nil=>simp at e
 | @cons r' v rs vs q1 _ ih=>
  cases i with
  | zero=>simp at e;subst e;exact ⟨v,rfl,q1⟩
  | succ i=>
   simp only [List.map_cons,List.getElem?_cons_succ] at e ⊢;exact ih i e
theorem zer (e0:Pr[fi]?=some B) (ed:B.dfl=[]) (e:zai Pr m fi rs h=some p):rs.length=B.np:=by
 cases m with
 | zero=>cases e
 | succ m=>
  have:=zgJ e0 e
  rw [ed] at this
  have ef:zaD B.np [] rs=rs:=by
   unfold zaD
   split
   ·rfl
   ·simp
  rwa [ef] at this
theorem ziz (e0:Pr[fi]?=some B) (e:zai Pr m fi rs h=some p):(zaD B.np B.dfl rs).length=B.np:=by
 cases m with
 | zero=>cases e
 | succ m=>exact zgJ e0 e
theorem zq4 (T:Txt w K mg fns cls Pr globs gds addr fdOf psOf) (Dd:ziW K fns cls Pr globs gds fi x qual st f fd N ps B)
  (ih:∀ g B,Pr[g]?=some B->FnOk P w K mg base CX0 (2*m) (addr g) (fdOf g) (psOf g) (spF K (psOf g).length (zai Pr m g))):FnOk P w K mg base CX0 (2*m+2) f fd ps (spF K ps.length (zai Pr (m+1) fi)):=by
 refine Dd.fn.ok (k:=2*m+1) Dd.sc (λvs H Q E h=>?_) (λcdv A outer s H vs Q E hr h=>?_)
 ·exact h.1
 ·have G:Good (zai Pr m) (2*m) ⟨N,(zam st).names,fns,globs,true,cls,gds⟩ (cxOf CX0 P w K mg base N qual (zam st) f cdv A outer s H E).nox:=by
   refine ⟨rfl,rfl,hr.mono (by omega),hr,Dd.sc.kind,rfl,Dd.sc.nd,rfl,λ_ _=>rfl,λg y e=>?_,T.blt,T.glob,T.gdic,λi hi=>?_,λi hi p hp=>?_,T.attrs⟩
   ·obtain ⟨e1,B',e2,e3,e4⟩:=T.funs g y e
    obtain ⟨x',q',st',N',d'⟩:=T.defs g B' e2;obtain ⟨dvs,b1,b2⟩:=d'.bi;rw [<-e3,<-e4]
    have:=ih g B' e2
    rw [<-d'.np] at this;exact ⟨⟨addr g,fdOf g,psOf g,dvs,this,e1,d'.fn.kp,b1,b2⟩,ziy d'.at',λrs h p e=>ziz d'.at' e⟩
   ·obtain ⟨C,B',e1,e2,e3,e4,e5,e6⟩:=T.makes i hi
    obtain ⟨x',q',st',N',d'⟩:=T.defs _ B' e5;obtain ⟨dvs,b1,b2⟩:=d'.bi
    have:=ih _ B' e5
    rw [<-d'.np] at this;obtain ⟨ds,c1,c2⟩:=b2 0 (Nat.zero_le _)
    have hd:ds=[]:=by
     have hv:dvs=[]:=by
      have:=b1 (λ_=>False) (λ_=>none)
      rw [e6] at this
      simpa [RepDs] using this
     rw [hv] at c2;cases c2;rfl
    subst hd;exact ⟨B'.np,⟨C,addr i.init,fdOf i.init,psOf i.init,e1,e2,e3,e4,this,c1⟩,λrs h p e=>zer d'.at' e6 e⟩
   ·obtain ⟨C,B',e2,e3,e4,e5,e6⟩:=T.meths i hi p hp
    obtain ⟨x',q',st',N',d'⟩:=T.defs _ B' e5;obtain ⟨dvs,b1,b2⟩:=d'.bi
    have:=ih _ B' e5
    rw [<-d'.np] at this;obtain ⟨ds,c1,c2⟩:=b2 0 (Nat.zero_le _)
    have hd:ds=[]:=by
     have hv:dvs=[]:=by
      have:=b1 (λ_=>False) (λ_=>none)
      rw [e6] at this
      simpa [RepDs] using this
     rw [hv] at c2;cases c2;rfl
    subst hd;exact ⟨B'.np,⟨C,addr p.2,fdOf p.2,psOf p.2,e2,e3,e4,this,c1⟩,λrs h p e=>zer d'.at' e6 e⟩
  refine ⟨_,okSs B.body _ (za9 st) _ Dd.chk G,?_⟩;obtain ⟨hv0,μ,h0,rs,R0,qr,r,h',e,k⟩:=h
  have hl0:rs.length=B.np:=by rw [qr.length,hv0,Dd.np]
  have ef:zaD B.np B.dfl rs=rs:=zgv (by omega);rw [za4] at e;simp only [Dd.at'] at e;rw [ef,if_pos hl0] at e
  have hpl:ps.length<=N.length:=by have:=congrArg List.length Dd.sc.pre;rw [List.length_take] at this;omega
  have re:RepE K μ h0 H (rs.map some++List.replicate (B.ns-B.np) none) (L2.start N vs):=by
   have hv:=qr.length;have h1:=Dd.np;have h2:=Dd.ns;refine ⟨?_,λi r e=>?_⟩
   ·unfold L2.start
    simp;omega
   ·by_cases hi:i<rs.length
    ·rw [List.getElem?_append_left (by simpa using hi)] at e
     obtain ⟨v,e1,z⟩:=qr.env i r e;refine ⟨v,?_,z⟩;unfold L2.start
     rw [List.getElem?_append_left (by simp;omega)]
     exact e1
    ·rw [List.getElem?_append_right (by simpa using hi),List.getElem?_replicate] at e
     split at e<;>cases e
  cases eb:exs (zai Pr m) B.body (rs.map some++List.replicate (B.ns-B.np) none) h0 with
  | none=>rw [eb] at e;cases e
  | some p=>
   obtain ⟨⟨fl,env'⟩,h1⟩:=p;rw [eb] at e;refine ⟨μ,h0,_,R0,re,fl,env',h1,eb,λμ' H' σ' st1 R1 _=>?_⟩
   cases fl with
   | ret r1=>
    intro v qv;obtain ⟨μ2,st2,R2,q2⟩:=znD st1 R0 R1 qv e;exact k μ2 H' v st2 R2 q2
   | nx=>
    obtain ⟨μ2,st2,R2,q2⟩:=znD (v:=.non) st1 R0 R1 (by simp only [RepR,RepD]) e;exact k μ2 H' .non st2 R2 q2
   | brk=>cases e
   | cnt=>cases e
theorem zjH:FnOk P w K mg base CX0 0 f fd ps (spF K np (zai Pr 0 fi)):=by
 refine ⟨λvs H Q E h=>?_,λA outer s H args us vs Q E hr e0 hb r h=>?_⟩
 ·obtain ⟨_,μ,h0,rs,R0,qr,r,h',e,k⟩:=h
  cases e
 ·obtain ⟨_,μ,h0,rs,R0,qr,r,h',e,k⟩:=h
  cases e
theorem zj0 (T:Txt w K mg fns cls Pr globs gds addr fdOf psOf):∀ m fi B,Pr[fi]?=some B->FnOk P w K mg base CX0 (2*m) (addr fi) (fdOf fi) (psOf fi) (spF K (psOf fi).length (zai Pr m fi))
 | 0,fi,B,e=>zjH
 | m+1,fi,B,e=>by
  obtain ⟨x,q,st,N,d⟩:=T.defs fi B e;exact zq4 T d λg B' e'=>zj0 T m g B' e'
end
theorem zhR:∀ ns:List Int,RepDs K A H (ns.map D.int) (ns.map V.int)
 | []=>.nil
 | n::r=>.cons (by simp only [RepD]) (zhR r)
theorem zka {ns:List Int} {E:XK} (hS:SqL K H a (ns.map V.int)) (e:m [.d (.lst (ns.map .int))] []=some (.d (.bl true),[])):spF K 1 m [.ref a] H (λv _=>v=.bl true) E:=by
 have nl:∀ b,¬ Live [] [] b:=by
  rintro b ⟨i,xs,e1,_⟩
  simp at e1
 refine ⟨rfl,[],[],[.d (.lst (ns.map .int))],⟨rfl,by simp,λi a o e1 _=>by simp at e1⟩,.cons ?_ .nil,_,_,e,λμ' H' v st R1 q=>?_⟩
 ·simp only [RepR,RepD]
  refine ⟨a,ns.map V.int,rfl,?_,zhR ns⟩
  rcases hS with z | z
  ·exact .inl ⟨nl a,z⟩
  ·exact .inr z
 ·simpa only [RepR,RepD] using q
theorem us0 {P:List Value->Prop} (h:P []):∀ us:List Value,us.length=0->P us:=λus hl=>by
 cases us with
 | nil=>exact h
 | cons=>cases hl
theorem usS {P:List Value->Prop} {n:Nat} (h:∀ a,∀ us:List Value,us.length=n->P (a::us)):∀ us:List Value,us.length=n+1->P us:=λus hl=>by
 cases us with
 | nil=>cases hl
 | cons a r=>exact h a r (Nat.succ.inj hl)
theorem us1 {P:List Value->Prop} (h:∀ a0,P [a0]):∀ us:List Value,us.length=1->P us:=usS λa=>us0 (h a)
theorem us2 {P:List Value->Prop} (h:∀ a0 a1,P [a0,a1]):∀ us:List Value,us.length=2->P us:=usS λa=>us1 (h a)
open PySem.W in
theorem toX {r:RowW} {d:DefRec} {kwd:List (Str×Expr)} {run:Value->List Value->Sem Value} (e:∀ P,as=(K P).map (·.1))
  (h:WalkO q loose XP (InK K) r d kwd run):WalkX q loose XP (X.obsZ as) (X.valZ K n t) r d kwd run:=by
 intro w s₀ s₁ mg mb G y a o pm cd doc dV kV h1 h2 h3 h4 h5 h6 args vals as' L;exact h w s₀ s₁ mg mb G (InK.keeps w _ _ (X.z_facts e y).2.1 L.keeps) a o pm cd doc dV kV h1 h2 h3 h4 h5 h6 args vals as'
end IT
namespace IT
inductive Ok {α:Type} (m:Option (α×Sto)) (Q:α->Sto->Prop):Prop where
 | mk (a:α) (h':Sto) (e:m=some (a,h')) (q:Q a h')
section
variable {α β:Type} {Q:α->Sto->Prop} {R:β->Sto->Prop} {h:Sto}
theorem Ok.mono (k:Ok m Q) (i:∀ a h,Q a h->Q' a h):Ok m Q':=by
 obtain ⟨a,h',e,q⟩:=k;exact ⟨a,h',e,i a h' q⟩
@[simp] theorem ok_bnd {x:M α} {f:α->M β}:Ok (bnd x f h) R↔Ok (x h) λa h1=>Ok (f a h1) R:=by
 unfold bnd;constructor
 ·rintro ⟨b,h',e,q⟩
  cases ex:x h with
  | none=>rw [ex] at e;cases e
  | some p=>rw [ex] at e;exact ⟨p.1,p.2,rfl,b,h',e,q⟩
 ·rintro ⟨a,h1,e,b,h',e',q⟩
  rw [e];exact ⟨b,h',e',q⟩
@[simp] theorem ok_some' {a:α}:Ok (some (a,h)) Q↔Q a h:=by
 constructor
 ·rintro ⟨b,h',e,q⟩;cases e;exact q
 ·intro q;exact ⟨a,h,rfl,q⟩
@[simp] theorem ok_ok {a:α}:Ok (ok a h) Q↔Q a h:=ok_some'
@[simp] theorem ok_none:Ok (none:Option (α×Sto)) Q↔False:=by
 constructor
 ·rintro ⟨b,h',e,q⟩;cases e
 ·intro z;exact z.elim
@[simp] theorem ok_opt {o:Option α}:Ok (opt o h) Q↔∃ a,o=some a/\Q a h:=by
 unfold opt
 cases o with
 | none=>simp
 | some a=>simp
@[simp] theorem ok_rd_d {x:D} {Q:D->Sto->Prop}:Ok (rd (.d x) h) Q↔Q x h:=ok_some'
@[simp] theorem ok_fz_d {x:D} {Q:D->Sto->Prop}:Ok (fz (.d x) h) Q↔Q x h:=ok_some'
end
theorem zmS (I:Nat->Env->Sto->Prop)
  (step:∀ i x σ h,xs[i]?=some x->I i σ h->Ok (f x σ h) λp h1=>match p.1 with
   | .ret r=>Q (.ret r,p.2) h1
   | .brk=>Q (.nx,p.2) h1
   | _=>zaC l h h1=true/\I (i+1) p.2 h1)
  (fin:∀ σ h,I xs.length σ h->Q (.nx,σ) h) {σ:Env} {h:Sto} (h0:I 0 σ h):Ok (loop l f xs σ h) Q:=by
 have gen:∀ (ys:List Ite) (i:Nat) (σ:Env) (h:Sto),xs.drop i=ys->i<=xs.length->I i σ h->Ok (loop l f ys σ h) Q:=by
  intro ys
  induction ys with
  | nil=>
   intro i σ h e hi hI
   have:i=xs.length:=by
    have:=congrArg List.length e
    simp at this;omega
   subst this;exact ⟨_,_,rfl,fin σ h hI⟩
  | cons y ys ih=>
   intro i σ h e hi hI
   have hil:i<xs.length:=by
    have:=congrArg List.length e
    simp at this;omega
   have hy:xs[i]?=some y:=by
    have:=congrArg (λz=>z[0]?) e
    simpa using this
   have hd:xs.drop (i+1)=ys:=by
    have:=congrArg List.tail e
    simpa using this
   obtain ⟨⟨fl,σ1⟩,h1,ef,q⟩:=step i y σ h hy hI;simp only [loop,ef]
   cases fl with
   | ret r=>exact ⟨_,_,rfl,q⟩
   | brk=>exact ⟨_,_,rfl,q⟩
   | nx=>simp only at q ⊢;rw [if_pos q.1];exact ih (i+1) σ1 h1 hd (by omega) q.2
   | cnt=>simp only at q ⊢;rw [if_pos q.1];exact ih (i+1) σ1 h1 hd (by omega) q.2
 exact gen xs 0 σ h (by simp) (by omega) h0
theorem zmV {α:Type} {g:α->Ite} {l:Option Nat} {f:Ite->Env->M (Fl×Env)} {xs:List α} {Q:Fl×Env->Sto->Prop} (I:Nat->Env->Sto->Prop)
  (step:∀ i x σ h,xs[i]?=some x->I i σ h->Ok (f (g x) σ h) λp h1=>match p.1 with
   | .ret r=>Q (.ret r,p.2) h1
   | .brk=>Q (.nx,p.2) h1
   | _=>zaC l h h1=true/\I (i+1) p.2 h1)
  (fin:∀ σ h,I xs.length σ h->Q (.nx,σ) h) {σ:Env} {h:Sto} (h0:I 0 σ h):Ok (loop l f (xs.map g) σ h) Q:=by
 refine zmS I (λi x σ h hx hI=>?_) (λσ h hI=>fin σ h (by simpa using hI)) h0;rw [List.getElem?_map,Option.map_eq_some_iff] at hx;obtain ⟨y,hy,rfl⟩:=hx;exact step i y σ h hy hI
theorem zel {α β:Type} {d:β->Ite} {l:Option Nat} {f:Ite->M (Option α)} {g:β->Option α} {h:Sto}:∀ {xs:List β},(∀ x∈xs,f (d x) h=some (g x,h))->zaC l h h=true->turns l f (xs.map d) h=some (xs.filterMap g,h)
 | [],_,_=>rfl
 | x::xs,e,s=>by
  simp only [List.map_cons,turns,e x (by simp),if_pos s];unfold bnd;rw [zel (λy hy=>e y (by simp [hy])) s];simp only [ok,List.filterMap_cons]
  cases g x<;>rfl
theorem zrc (Γ:Calls) (i:_) (σ:Env):ev Γ (.var i) σ=(λh=>match σ[i]? with
  | some (some r)=>some (r,h)
  | _=>none):=rfl
theorem zqI (Γ:Calls) (a:_) (b:_) (σ:Env):ev Γ (.and a b) σ=(bnd (ev Γ a σ) λx=>match x with
  | .d (.bl c)=>if c then ev Γ b σ else ok (.d (.bl false))
  | _=>λ_=>none):=rfl
theorem zsi (Γ:Calls) (a:_) (b:_) (σ:Env):ev Γ (.or a b) σ=(bnd (ev Γ a σ) λx=>match x with
  | .d (.bl c)=>if c then ok (.d (.bl true)) else ev Γ b σ
  | _=>λ_=>none):=rfl
theorem zrr (Γ:Calls) (a:_) (σ:Env):ev Γ (.not a) σ=(bnd (ev Γ a σ) λx=>bnd (rd x) λd=>bnd (opt (tru d)) λt=>ok (.d (.bl (!t)))):=rfl
theorem zsL (Γ:Calls) (m:_) (o:_) (es:_) (σ:Env):ev Γ (.me m o es) σ=(bnd (ev Γ o σ) λx=>bnd (zdZ x) λ_=>bnd (evs Γ es σ) λrs=>meth m x rs):=rfl
theorem zmy (Γ:Calls)  (σ:Env):ev Γ .stuck σ=(λ_=>none):=rfl
theorem zpd (Γ:Calls) (e:_) (σ:Env):evI Γ (.rng e) σ=(bnd (ev Γ e σ) λr=>zfb r):=rfl
theorem zon :fzs []=(ok []):=rfl
theorem zl2 (r:_) (rs:_):fzs (r::rs)=(bnd (fz r) λd=>bnd (fzs rs) λds=>ok (d::ds)):=rfl
theorem zpw :rds []=(ok []):=rfl
theorem zmK (r:_) (rs:_):rds (r::rs)=(bnd (rd r) λd=>bnd (rds rs) λds=>ok (d::ds)):=rfl
theorem znM (Γ:Calls) (o:_) (i:_) (e:_) (σ:Env):ex Γ (.setI o i e) σ=(bnd (ev Γ e σ) λr=>bnd (ev Γ o σ) λx=>bnd (ev Γ i σ) λy=>bnd (fz r) λd=>bnd (rd y) λy=>bnd (zec x y d) λ_=>ok (.nx,σ)):=rfl
theorem zmp (Γ:Calls)  (σ:Env):ex Γ .stuck σ=(λ_=>none):=rfl
theorem zm9 (Γ:Calls) (s:_) (r:_) (σ:Env):exs Γ (s::r) σ=(bnd (ex Γ s σ) λp=>match p.1 with
  | .nx=>exs Γ r p.2
  | _=>ok p):=rfl
theorem zgY:meth .append (.loc l) [r] h=(bnd (fz r) λd h=>match h[l]? with
  | some (.lst xs)=>if decide (xs.length<big) then some (.d .non,h.set l (.lst (xs++[d]))) else none
  | _=>none) h:=rfl
theorem znb :meth .pop (.loc l) [] h=(λh=>match h[l]? with
  | some (.lst xs)=>match xs[xs.length-1]? with
   | some y=>some (.d y,h.set l (.lst xs.dropLast))
   | none=>none
  | _=>none) h:=rfl
theorem ziw :meth .clear (.loc l) [] h=(λh=>match h[l]? with
  | some (.lst xs)=>some (.d .non,h.set l (.lst []))
  | _=>none) h:=rfl
theorem zhw:meth .extend (.loc l) [r] h=(bnd (rd r) λd h=>match d with
  | .lst ys=>match h[l]? with
   | some (.lst xs)=>if fit (xs.length+ys.length) then some (.d .non,h.set l (.lst (xs++ys))) else none
   | _=>none
  | _=>none) h:=rfl
section
variable {Γ:Calls} {σ:Env} {h:Sto}
section
variable {Q:Fl×Env->Sto->Prop}
theorem zi4:Ok (exs Γ (s::r) σ h) Q↔Ok (ex Γ s σ h) λp h1=>match p.1 with | .nx=>Ok (exs Γ r p.2 h1) Q | .ret r=>Q (.ret r,p.2) h1 | .brk=>Q (.brk,p.2) h1 | .cnt=>Q (.cnt,p.2) h1:=by
 rw [zm9,ok_bnd];constructor
 ·intro k
  refine k.mono λp h1 q=>?_;obtain ⟨fl,e⟩:=p
  cases fl<;>simpa using q
 ·intro k
  refine k.mono λp h1 q=>?_;obtain ⟨fl,e⟩:=p
  cases fl<;>simpa using q
theorem zq1:Ok (ex Γ (.setI o i e) σ h) Q↔Ok (ev Γ e σ h) λr h1=>Ok (ev Γ o σ h1) λx h2=>Ok (ev Γ i σ h2) λy h3=>Ok (fz r h3) λd h4=>Ok (rd y h4) λy h5=>Ok (zec x y d h5) λ_ h6=>Q (.nx,σ) h6:=by rw [znM];simp only [ok_bnd,ok_ok]
end
section
variable {Q:Env->Sto->Prop}
theorem znH:Ok (zaz (.name i) r σ h) Q↔Q (σ.set i (some r)) h:=by rw [zaz];exact ok_ok
theorem zpC:Ok (zaz (.tup ts) r σ h) Q↔Ok (rd r h) λd h1=>∃ xs,d=.tup xs/\Ok (bindTs ts xs σ h1) Q:=by
 rw [zaz,ok_bnd]
 constructor<;>intro k<;>refine k.mono λd h1 q=>?_
 ·cases d<;>first | (exact ⟨_,rfl,q⟩) | (simp at q)
 ·obtain ⟨xs,rfl,q⟩:=q;exact q
theorem zly:Ok (bindTs [] [] σ h) Q↔Q σ h:=by simp only [bindTs,ok_ok]
theorem ziG:Ok (bindTs (t::ts) (x::xs) σ h) Q↔Ok (zaz t (.d x) σ h) λσ' h1=>Ok (bindTs ts xs σ' h1) Q:=by simp only [bindTs,ok_bnd]
end
theorem w_bI:Ok (zaw tg (.r x) σ h) Q↔Ok (zaz tg x σ h) Q:=by rw [zaw]
theorem zsl:Ok (zaw (.tup [a,b]) (.en i x) σ h) Q↔Ok (zaz a (.d (.int i)) σ h) λσ' h1=>Ok (zaz b x σ' h1) Q:=by rw [zaw];simp only [ok_bnd]
section
variable {Q:R->Sto->Prop}
theorem zsy:Ok (ev Γ (.var i) σ h) Q↔∃ r,σ[i]?=some (some r)/\Q r h:=by
 rw [zrc]
 cases e:σ[i]? with
 | none=>simp
 | some o=>cases o<;>simp
theorem zr6:Ok (ev Γ (.and a b) σ h) Q↔Ok (ev Γ a σ h) λx h1=>∃ c,x=.d (.bl c)/\(c=true->Ok (ev Γ b σ h1) Q)/\(c=false->Q (.d (.bl false)) h1):=by
 rw [zqI,ok_bnd]
 constructor<;>intro k<;>refine k.mono λx h1 q=>?_
 ·cases x with
  | loc l=>simp at q
  | d d=>cases d<;>first | (rename_i c;refine ⟨c,rfl,?_⟩;cases c<;>simpa using q) | (simp at q)
 ·obtain ⟨c,rfl,q⟩:=q;cases c<;>simpa using q
theorem w_or:Ok (ev Γ (.or a b) σ h) Q↔Ok (ev Γ a σ h) λx h1=>∃ c,x=.d (.bl c)/\(c=false->Ok (ev Γ b σ h1) Q)/\(c=true->Q (.d (.bl true)) h1):=by
 rw [zsi,ok_bnd]
 constructor<;>intro k<;>refine k.mono λx h1 q=>?_
 ·cases x with
  | loc l=>simp at q
  | d d=>cases d<;>first | (rename_i c;refine ⟨c,rfl,?_⟩;cases c<;>simpa using q) | (simp at q)
 ·obtain ⟨c,rfl,q⟩:=q;cases c<;>simpa using q
theorem w_not:Ok (ev Γ (.not a) σ h) Q↔Ok (ev Γ a σ h) λx h1=>Ok (rd x h1) λd h2=>∃ b,tru d=some b/\Q (.d (.bl (!b))) h2:=by
 rw [zrr];simp only [ok_bnd,ok_opt,ok_ok]
theorem w_me:Ok (ev Γ (.me m o es) σ h) Q↔Ok (ev Γ o σ h) λx h1=>Ok (zdZ x h1) λ_ h2=>Ok (evs Γ es σ h2) λrs h3=>Ok (meth m x rs h3) Q:=by rw [zsL];simp only [ok_bnd]
end
theorem zkO:Ok (fzs [] h) Q↔Q [] h:=by rw [zon];exact ok_ok
theorem ziQ:Ok (fzs (r::rs) h) Q↔Ok (fz r h) λd h1=>Ok (fzs rs h1) λds h2=>Q (d::ds) h2:=by rw [zl2];simp only [ok_bnd,ok_ok]
theorem zkE:Ok (rds [] h) Q↔Q [] h:=by rw [zpw];exact ok_ok
theorem ziA:Ok (rds (r::rs) h) Q↔Ok (rd r h) λd h1=>Ok (rds rs h1) λds h2=>Q (d::ds) h2:=by rw [zmK];simp only [ok_bnd,ok_ok]
section
variable {Q:Bool->Sto->Prop}
end
section
variable {Q:List D->Sto->Prop}
noncomputable def zmm (Γ:Calls) (tg:Tg) (c:List T) (el:E) (σ:Env) (x:Ite):M (Option D):=bnd (zaw tg x (clr tg.slots σ)) λσ'=>bnd (tvs Γ c σ') λt=>if t then bnd (ev Γ el σ') λr=>bnd (fz r) λd=>ok (some d) else ok none
end
theorem zpg:Ok (zmm Γ tg c el σ x h) Q↔Ok (zaw tg x (clr tg.slots σ) h) λσ' h1=>Ok (tvs Γ c σ' h1) λt h2=>(t=true->Ok (ev Γ el σ' h2) λr h3=>Ok (fz r h3) λd h4=>Q (some d) h4)/\(t=false->Q none h2):=by
 unfold zmm;simp only [ok_bnd]
 constructor<;>intro k<;>refine k.mono λσ' h1 q=>?_<;>refine q.mono λt h2 q=>?_<;>cases t<;>simpa using q
noncomputable def zpf (Γ:Calls) (tg:Tg) (c:List T) (el:E) (σ:Env) (x:Ite):M (Option Nat):=bnd (zaw tg x (clr tg.slots σ)) λσ'=>bnd (tvs Γ c σ') λt=>if t then bnd (ev Γ el σ') λr=>bnd (zcL r) λd=>ok (some d) else ok none
theorem zpy:Ok (zpf Γ tg c el σ x h) Q↔Ok (zaw tg x (clr tg.slots σ) h) λσ' h1=>Ok (tvs Γ c σ' h1) λt h2=>(t=true->Ok (ev Γ el σ' h2) λr h3=>Ok (zcL r h3) λd h4=>Q (some d) h4)/\(t=false->Q none h2):=by
 unfold zpf;simp only [ok_bnd]
 constructor<;>intro k<;>refine k.mono λσ' h1 q=>?_<;>refine q.mono λt h2 q=>?_<;>cases t<;>simpa using q
section
variable {Q:Wk->Sto->Prop}
theorem zmF:Ok (zba (.d (.tup xs)) h) Q↔Q ⟨xs.map dI,none⟩ h:=by simp only [zba,zc5,ok_bnd,ok_some',ok_rd_d,wkOf,items,ok_ok]
theorem zmr:Ok (zba (.d (.lst xs)) h) Q↔Q ⟨xs.map dI,none⟩ h:=by simp only [zba,zc5,ok_bnd,ok_some',ok_rd_d,wkOf,items,ok_ok]
theorem znc:Ok (zba (.loc l) h) Q↔∃ o,h[l]?=some o/\match o with
  | .lst xs=>Q ⟨xs.map dI,some l⟩ h
  | .fro xs=>Q ⟨xs.map dI,some l⟩ h
  | .ols ls=>Q ⟨ls.map λl=>.r (.loc l),some l⟩ h
  | .ins _ _=>False
  | .dic _=>False
  | .dfr _=>False:=by
 simp only [zba,zc5,ok_bnd]
 cases e:h[l]? with
 | none=>simp [rd,e]
 | some o=>cases o<;>simp [rd,e,Ob.isL,Ob.items,wkOf,items]
theorem zsh:Ok (evI Γ (.rng e) σ h) Q↔Ok (ev Γ e σ h) λr h1=>Ok (zfb r h1) Q:=by rw [zpd];simp only [ok_bnd]
theorem znY:Ok (zfb (.d (.int n)) h) Q↔(-(2 ^ 62)<=n/\n<=16777216)/\Q ⟨(zbf 0 n.toNat).map dI,none⟩ h:=by
 simp only [zfb]
 by_cases c:-(2 ^ 62)<=n/\n<=16777216
 ·rw [if_pos (by rw [Bool.and_eq_true];exact ⟨decide_eq_true c.1,decide_eq_true c.2⟩),ok_ok]
  exact ⟨λq=>⟨c,q⟩,λq=>q.2⟩
 ·rw [if_neg (by rw [Bool.and_eq_true];exact λz=>c ⟨of_decide_eq_true z.1,of_decide_eq_true z.2⟩)]
  simp only [ok_none,false_iff];exact λz=>c z.1
end
theorem zl6:Ok (rd (.loc l) h) Q↔∃ o,h[l]?=some o/\o.isL=true/\Q (.lst o.items) h:=by
 simp only [rd]
 cases h[l]? with
 | none=>simp
 | some o=>cases o<;>simp [Ob.isL]
theorem zm5:Ok (fz (.loc l) h) Q↔∃ o,h[l]?=some o/\o.isL=true/\Q (.lst o.items) (h.set l (.fro o.items)):=by
 simp only [fz]
 cases h[l]? with
 | none=>simp
 | some o=>cases o<;>simp [Ob.isL]
theorem zpj:Ok (zdZ (.loc l) h) Q↔∃ o,h[l]?=some o/\o.isL=true/\Q () h:=by
 simp only [zdZ]
 cases h[l]? with
 | none=>simp
 | some o=>cases o<;>simp [Ob.isL]
theorem zkk:Ok (zcL (.loc l) h) Q↔∃ c fs,h[l]?=some (.ins c fs)/\Q l h:=by
 simp only [zcL]
 cases h[l]? with
 | none=>simp
 | some o=>cases o<;>simp
theorem zlW:Ok (meth .append (.loc l) [r] h) Q↔Ok (fz r h) λd h1=>∃ xs,h1[l]?=some (.lst xs)/\xs.length<big/\Q (.d .non) (h1.set l (.lst (xs++[d]))):=by
 rw [zgY,ok_bnd]
 constructor<;>intro k<;>refine k.mono λd h1 q=>?_
 ·cases e:h1[l]? with
  | none=>rw [e] at q;simp at q
  | some o=>
   rw [e] at q
   cases o with
   | fro xs=>simp at q
   | ins _ _=>simp at q
   | ols _=>simp at q
   | dic _=>simp at q
   | dfr _=>simp at q
   | lst xs=>
    simp only at q
    by_cases c:xs.length<big
    ·rw [if_pos (decide_eq_true c)] at q;exact ⟨xs,rfl,c,by simpa using q⟩
    ·rw [if_neg (by simpa using c)] at q;simp at q
 ·obtain ⟨xs,e,c,q⟩:=q
  rw [e];simp only;rw [if_pos (decide_eq_true c)]
  simpa using q
theorem zn3:Ok (zec (.loc l) (.int k) d h) Q↔∃ xs,h[l]?=some (.lst xs)/\∃ j,ixn xs.length k=some j/\Q () (h.set l (.lst (xs.set j d))):=by
 simp only [zec]
 cases e:h[l]? with
 | none=>simp
 | some o=>
  cases o with
  | fro xs=>simp
  | ins _ _=>simp
  | ols _=>simp
  | dic _=>simp
  | dfr _=>simp
  | lst xs=>
   simp only [Option.some.injEq,Ob.lst.injEq,exists_eq_left']
   cases c:ixn xs.length k with
   | none=>simp
   | some j=>simp
theorem zsj:Ok (ex Γ .stuck σ h) Q↔False:=by rw [zmp];exact ok_none
theorem zsH:Ok (ev Γ .stuck σ h) Q↔False:=by rw [zmy];exact ok_none
theorem zm8:Ok (meth .extend (.loc l) [r] h) Q↔Ok (rd r h) λd h1=>∃ ys xs,d=.lst ys/\h1[l]?=some (.lst xs)/\fit (xs.length+ys.length)=true/\Q (.d .non) (h1.set l (.lst (xs++ys))):=by
 rw [zhw,ok_bnd];refine iff_of_eq (congrArg (Ok (rd r h)) (funext λd=>funext λh1=>propext ?_))
 cases d with
 | lst ys=>
  simp only [D.lst.injEq,exists_eq_left']
  cases e:h1[l]? with
  | none=>simp
  | some o=>
   cases o with
   | fro xs=>simp
   | ins _ _=>simp
   | ols _=>simp
   | dic _=>simp
   | dfr _=>simp
   | lst xs=>
    simp only [Option.some.injEq,Ob.lst.injEq,exists_eq_left',and_assoc]
    cases c:fit (xs.length+ys.length)<;>simp [c]
 | _=>simp
theorem zsU:Ok (meth .pop (.loc l) [] h) Q↔∃ xs,h[l]?=some (.lst xs)/\∃ y,xs[xs.length-1]?=some y/\Q (.d y) (h.set l (.lst xs.dropLast)):=by
 rw [znb];dsimp only
 cases e:h[l]? with
 | none=>simp
 | some o=>
  cases o with
  | fro xs=>simp
  | ins _ _=>simp
  | ols _=>simp
  | dic _=>simp
  | dfr _=>simp
  | lst xs=>
   simp only [Option.some.injEq,Ob.lst.injEq,exists_eq_left']
   cases c:xs[xs.length-1]? with
   | none=>simp
   | some y=>simp
theorem zo7:Ok (meth .clear (.loc l) [] h) Q↔∃ xs,h[l]?=some (.lst xs)/\Q (.d .non) (h.set l (.lst [])):=by
 rw [ziw];dsimp only
 cases e:h[l]? with
 | none=>simp
 | some o=>cases o<;>simp
end
class Cont (α:Type) where
 q:α->Sto->Prop
structure Ask {α:Type} (m:Option (α×Sto)) [c:Cont α]:Prop where
 ok:Ok m c.q
theorem ask {α:Type} {m:Option (α×Sto)} {Q:α->Sto->Prop} (k:Ok m Q):@Ask α m ⟨Q⟩:=@Ask.mk α m ⟨Q⟩ k
theorem zqh {α:Type} {m:Option (α×Sto)} {Q:α->Sto->Prop}:Ok m Q↔@Ask α m ⟨Q⟩:=⟨λk=>@Ask.mk α m ⟨Q⟩ k,λk=>@Ask.ok α m ⟨Q⟩ k⟩
theorem zpi (c:(zgo a||zgo b)=true):bop .mul (.int a) (.int b)=some (.int (a*b)):=if_pos c
theorem zkr (c:0<b):bop .mod (.int a) (.int b)=some (.int (a % b)):=if_pos (decide_eq_true c)
theorem zlS (c:-(2 ^ 64)<a) (c2:a<2 ^ 64):zgo a=true:=by simp only [zgo,Bool.and_eq_true,decide_eq_true_eq];exact ⟨c,c2⟩
theorem zrA {n:Nat} {i:Int} (c:0<=i) (c2:i<n):ixn n i=some i.toNat:=by
 unfold ixn;rw [if_pos c,if_pos c2]
theorem zpL {α:Type} {xs:List α} {i:Int} {x:α} (c:0<=i) (e:xs[i.toNat]?=some x):at' xs i=some x:=by
 have:=(List.getElem?_eq_some_iff.mp e).1
 unfold at';rw [zrA c (by omega)];exact e
theorem znW {xs:List D} {x:D} (c:0<=i) (e:xs[i.toNat]?=some x):idxD (.lst xs) (.int i)=some x:=zpL c e
theorem zlB (c:zi2 a b=true):cop .eq a b=some (.bl (a.eqb b)):=if_pos c
theorem zdP (c:zi2 a b=true):cop .ne a b=some (.bl (!a.eqb b)):=if_pos c
theorem zih (c:y≠[]) (c2:fit x.length=true):tmD .parti (.str x) [.str y]=some (.tup (match fnd y x with | some i=>[.str (x.take i),.str y,.str (x.drop (i+y.length))] | none=>[.str x,.str [],.str []])):=by
 cases y with
 | nil=>exact absurd rfl c
 | cons a y=>simp only [tmD,List.isEmpty_cons,c2,Bool.not_true,Bool.or_self];rfl
theorem zfv:∀ l:List (List Nat),txts (l.map D.str)=some l
 | []=>rfl
 | x::l=>by simp only [List.map_cons,txts,zfv l]
theorem zlT (c:txts xs=some l) (c2:fit (l.map λy=>y.length+z.length).sum=true):tmD .join (.str z) [.lst xs]=some (.str (catS z l)):=by
 simp only [tmD,items,c,c2,if_true]
theorem zmk (c:txts xs=some l) (c2:fit (l.map λy=>y.length+z.length).sum=true):tmD .join (.str z) [.tup xs]=some (.str (catS z l)):=by
 simp only [tmD,items,c,c2,if_true]
theorem zl9 (c:y≠[]) (c2:fit (x.length+1)=true) (c3:fit (splS y x.length x).length=true):splD (.str x) (.str y)=some ((splS y x.length x).map D.str):=by
 cases y with
 | nil=>exact absurd rfl c
 | cons a y=>simp only [splD,List.isEmpty_cons,c2,c3,Bool.not_true,Bool.or_self];rfl
theorem zmO (c:fit xs.length=true):Ok (zba (.d (.str xs)) h) Q↔Q ⟨(xs.map λc=>D.str [c]).map dI,none⟩ h:=by simp only [zba,zc5,ok_bnd,ok_some',ok_rd_d,wkOf,items,c,if_true,ok_ok]
theorem zqN {α:Type} {xs:List α} {a:Int} (c:0<=a):cut xs none (some a)=xs.take a.toNat:=by
 unfold cut sIx;simp only [if_neg (show ¬ a<0 by omega),List.drop_zero,Nat.sub_zero]
 rcases Nat.le_total a.toNat xs.length with k | k
 ·rw [Nat.min_eq_left k]
 ·rw [Nat.min_eq_right k,List.take_length,List.take_of_length_le k]
theorem zpb (c:0<=i) (c2:i<xs.length):∃ x∈xs,idxD (.lst xs) (.int i)=some x:=by
 have hl:i.toNat<xs.length:=by omega
 exact ⟨xs[i.toNat],List.getElem_mem hl,znW c (List.getElem?_eq_getElem hl)⟩
theorem zah:(h++(x::t))[h.length]?=some x:=by
 rw [List.getElem?_append_right (Nat.le_refl _),Nat.sub_self];rfl
theorem zbu:(h++(x::t)).set h.length y=h++(y::t):=by
 rw [List.set_append_right _ _ (Nat.le_refl _),Nat.sub_self];rfl
theorem zin {h t:Sto}:(h++t).take h.length=h:=by simp
theorem zag:zaC none h h'=true:=rfl
theorem cutN {α:Type} {xs:List α} {n:Nat}:cut xs none (some (n:Int))=xs.take n:=by rw [zqN (by omega)];rfl
theorem zdy {a b:D} (c:b.dep<=60):zi2 a b=true:=by unfold zi2;exact decide_eq_true (by omega)
mutual
theorem D.eqb_rfl:∀ x:D,x.eqb x=true
 | .non=>rfl
 | .bl a=>by simp [D.eqb]
 | .int a=>by simp [D.eqb]
 | .str a=>by simp [D.eqb]
 | .tup a=>by simp only [D.eqb];exact D.eqbs_rfl a
 | .lst a=>by simp only [D.eqb];exact D.eqbs_rfl a
theorem D.eqbs_rfl:∀ x:List D,D.eqbs x x=true
 | []=>rfl
 | a::r=>by simp only [D.eqbs,Bool.and_eq_true];exact ⟨D.eqb_rfl a,D.eqbs_rfl r⟩
end
theorem deps_le:∀ {xs:List D} {n:Nat},(∀ x∈xs,x.dep<=n)->D.deps xs<=n
 | [],_,_=>by simp [D.deps]
 | x::xs,n,h=>by
  have h1:=h x (by simp);have h2:=deps_le (xs:=xs) (n:=n) λy hy=>h y (by simp [hy])
  simp only [D.deps];omega
theorem Ok.eq {α:Type} {m:Option (α×Sto)} {a:α} {h:Sto} (k:Ok m λb h1=>b=a/\h1=h):m=some (a,h):=by
 obtain ⟨b,h1,e,rfl,rfl⟩:=k;exact e
theorem zhf {α β:Type} {d:β->Ite} {l:Option Nat} {f:Ite->M (Option α)} {g:β->Option α} {h:Sto} {xs:List β} {Q:List α->Sto->Prop} (e:∀ x∈xs,Ok (f (d x) h) λo h1=>o=g x/\h1=h) (s:zaC l h h=true) (q:Q (xs.filterMap g) h):Ok (turns l f (xs.map d) h) Q:=
 ⟨_,_,zel (λx hx=>(e x hx).eq) s,q⟩
theorem zbJ {l:Nat} (e:h[l]?=some (.lst xs)):zaC (some l) h h=true:=by
 simp only [zaC,e,Ob.same,Ob.isL,Ob.items,Bool.true_and];exact D.sames_refl _
theorem R.same_self:∀ x:R,x.same x=true
 | .d x=>D.same_refl x
 | .loc l=>by simp [R.same]
theorem zbZ:∀ fs:List (PySem.Str×R),zck fs fs=true
  | []=>rfl
  | (f,x)::r=>by simp [zck,R.same_self,zbZ r]
theorem zb4:∀ kvs:List (D×D),zaJ kvs kvs=true
 | []=>rfl
 | p::r=>by simp [zaJ,D.same_refl,zb4 r]
theorem zd5 (o:Ob) (h:Sto) (o1:Ob) (t:Sto):objs (o::h) (o1::t)=((match o,o1 with
   | .ins c fs,.ins c1 fs1=>c==c1&&zck fs fs1
   | .ols a,.ols b=>a==b
   | .dic a,.dic b=>zaJ a b
   | .dfr a,.dfr b=>zaJ a b
   | .lst _,.lst _=>true
   | .lst _,.fro _=>true
   | .fro _,.lst _=>true
   | .fro _,.fro _=>true
   | _,_=>false)&&objs h t):=rfl
theorem zb8:∀ {h t:Sto},objs h (h++t)=true
 | [],_=>rfl
 | o::h,t=>by
  rw [List.cons_append,zd5,zb8,Bool.and_true]
  cases o<;>simp [zbZ,zb4]
theorem zgp {h:Sto}:objs h h=true:=by
 have:=zb8 (h:=h) (t:=[])
 rwa [List.append_nil] at this
theorem zcj:∀ {h t:Sto} {l:Nat} {xs ys:List D},h[l]?=some (.lst xs)->objs h (h.set l (.lst ys)++t)=true
 | [],_,_,_,_,e=>by simp at e
 | o::h,t,0,xs,ys,e=>by
  simp at e;subst e;rw [List.set_cons_zero,List.cons_append,zd5,zb8,Bool.and_true]
 | o::h,t,l+1,xs,ys,e=>by
  have:=zcj (h:=h) (t:=t) (l:=l) (xs:=xs) (ys:=ys) (by simpa using e)
  rw [List.set_cons_succ,List.cons_append,zd5,this,Bool.and_true]
  cases o<;>simp [zbZ,zb4]
theorem zmh {h:Sto} (e:h[l]?=some (.lst xs)):objs h (h.set l (.lst ys))=true:=by
 have:=zcj (t:=[]) (ys:=ys) e
 rwa [List.append_nil] at this
theorem zfp {h:Sto}:(h++(x::y::t))[h.length+1]?=some y:=by
 rw [List.getElem?_append_right (by omega),Nat.add_sub_cancel_left];rfl
theorem zmJ {h:Sto}:(h++(x::y::t)).set (h.length+1) z=h++(x::z::t):=by
 rw [List.set_append_right _ _ (by omega),Nat.add_sub_cancel_left];rfl
theorem zou {α β:Type} {f:α->β} {xs:List α} {a b:Option Int}:cut (xs.map f) a b=(cut xs a b).map f:=by
 unfold cut;rw [List.length_map,List.map_take,List.map_drop]
theorem zbK:∀ (n:Nat) (lo:Int),(zbf lo n).length=n
 | 0,_=>rfl
 | n+1,lo=>by simp [zbf,zbK n]
theorem zc8:∀ (n:Nat) (lo:Int) (i:Nat) (x:D),(zbf lo n)[i]?=some x->i<n/\x=.int (lo+i)
 | 0,lo,i,x,e=>by simp [zbf] at e
 | n+1,lo,i,x,e=>by
  cases i with
  | zero=>simp [zbf] at e;exact ⟨by omega,by rw [<-e];simp⟩
  | succ i=>
   simp only [zbf,List.getElem?_cons_succ] at e;obtain ⟨h1,h2⟩:=zc8 n (lo+1) i x e;refine ⟨by omega,?_⟩;rw [h2]
   congr 1
   push_cast
   omega
theorem zk4 {P:List F} {F:IT.F} (e:P[f]?=some F) (er:zaD F.np F.dfl rs=rs') (el:rs'.length=F.np)
  (k:Ok (exs (zai P n) F.body (rs'.map some++List.replicate (F.ns-F.np) none) h) λp h1=>match p.1 with
   | .ret r=>Ok (fin h F.all F.keep r h1) Q
   | .nx=>Ok (fin h F.all F.keep (.d .non) h1) Q
   | _=>False):Ok (zai P (n+1) f rs h) Q:=by
 obtain ⟨⟨fl,σ⟩,h1,ee,q⟩:=k;rw [za4];simp only [e,er];rw [if_pos el,ee]
 cases fl with
 | ret r=>exact q
 | nx=>exact q
 | brk=>exact q.elim
 | cnt=>exact q.elim
theorem zsb:zaD np [] rs=rs:=by
 unfold zaD
 split
 ·rfl
 ·simp
theorem zoE {P:List F} {F:IT.F} (e:P[f]?=some F) (ed:F.dfl=[]) (el:rs.length=F.np)
  (k:Ok (exs (zai P n) F.body (rs.map some++List.replicate (F.ns-F.np) none) h) λp h1=>match p.1 with
   | .ret r=>Ok (fin h F.all F.keep r h1) Q
   | .nx=>Ok (fin h F.all F.keep (.d .non) h1) Q
   | _=>False):Ok (zai P (n+1) f rs h) Q:=zk4 e (by rw [ed];exact zsb) el k
theorem zoP:Ok (fin h false k (.d x) h1) Q↔objs h h1=true/\Q (.d x) (h1.take h.length):=by
 simp only [fin,Bool.false_eq_true,if_false]
 by_cases c:objs h h1=true
 ·rw [if_pos c];simp [fin0,c]
 ·rw [if_neg c];simp [c]
theorem zeQ {xs:List D} (q:Q (.loc h.length) (h++[.lst xs])):Ok (fin h false true (.loc h.length) (h++.lst xs::t)) Q:=by
 simp only [fin,Bool.false_eq_true,if_false,zb8,if_true,fin0,zah,Nat.lt_irrefl,zin,ok_some'];exact q
end IT
namespace IT
open PySem (Str)
noncomputable def wO {α:Type} (o:Option α) (Q:α->Prop):Prop:=match o with
 | some a=>Q a
 | none=>False
noncomputable def wB (t:Bool) (A B:Prop):Prop:=match t with
 | true=>A
 | false=>B
noncomputable def wLs (o:Ob) (Q:List D->Prop):Prop:=match o with
 | .lst xs=>Q xs
 | .fro xs=>Q xs
 | .ins _ _=>False
 | .ols _=>False
 | .dic _=>False
 | .dfr _=>False
noncomputable def wLw (o:Ob) (Q:List D->Prop):Prop:=match o with
 | .lst xs=>Q xs
 | .fro _=>False
 | .ins _ _=>False
 | .ols _=>False
 | .dic _=>False
 | .dfr _=>False
noncomputable def wIn (o:Ob) (Q:Str->List (Str×R)->Prop):Prop:=match o with
 | .ins c fs=>Q c fs
 | .lst _=>False
 | .fro _=>False
 | .ols _=>False
 | .dic _=>False
 | .dfr _=>False
noncomputable def wDc (o:Ob) (Q:List (D×D)->Prop):Prop:=match o with
 | .dic kvs=>Q kvs
 | .dfr kvs=>Q kvs
 | .lst _=>False
 | .fro _=>False
 | .ins _ _=>False
 | .ols _=>False
noncomputable def wDw (o:Ob) (Q:List (D×D)->Prop):Prop:=match o with
 | .dic kvs=>Q kvs
 | .dfr _=>False
 | .lst _=>False
 | .fro _=>False
 | .ins _ _=>False
 | .ols _=>False
noncomputable def wDf (o:Ob) (Q:List (D×D)->Prop):Prop:=match o with
 | .dfr kvs=>Q kvs
 | .dic _=>False
 | .lst _=>False
 | .fro _=>False
 | .ins _ _=>False
 | .ols _=>False
noncomputable def wKey (r:R) (Q:D->Prop):Prop:=match r with
 | .d k=>wB (zaq k) (Q k) False
 | .loc _=>False
noncomputable def wRd (r:R) (h:Sto) (Q:D->Sto->Prop):Prop:=match r with
 | .d x=>Q x h
 | .loc l=>wO h[l]? λo=>wLs o λxs=>Q (.lst xs) h
noncomputable def wFz (r:R) (h:Sto) (Q:D->Sto->Prop):Prop:=match r with
 | .d x=>Q x h
 | .loc l=>wO h[l]? λo=>wLs o λxs=>Q (.lst xs) (h.set l (.fro xs))
noncomputable def wRds:List R->Sto->(List D->Sto->Prop)->Prop
 | [],h,Q=>Q [] h
 | r::rs,h,Q=>wRd r h λd h1=>wRds rs h1 λds h2=>Q (d::ds) h2
noncomputable def wFzs:List R->Sto->(List D->Sto->Prop)->Prop
 | [],h,Q=>Q [] h
 | r::rs,h,Q=>wFz r h λd h1=>wFzs rs h1 λds h2=>Q (d::ds) h2
noncomputable def wBl (r:R) (Q:Bool->Prop):Prop:=match r with
 | .d (.bl b)=>Q b
 | _=>False
noncomputable def wInt (r:R) (Q:Int->Prop):Prop:=match r with
 | .d (.int b)=>Q b
 | _=>False
noncomputable def wPl (r:R) (Q:Nat->Prop):Prop:=match r with
 | .loc l=>Q l
 | .d _=>False
noncomputable def wTup (d:D) (Q:List D->Prop):Prop:=match d with
 | .tup xs=>Q xs
 | _=>False
mutual
noncomputable def wT:Tg->R->Env->Sto->(Env->Sto->Prop)->Prop
 | .name i,r,σ,h,Q=>Q (σ.set i (some r)) h
 | .tup ts,r,σ,h,Q=>wRd r h λd h1=>wTup d λxs=>wTs ts xs σ h1 Q
noncomputable def wTs:List Tg->List D->Env->Sto->(Env->Sto->Prop)->Prop
 | [],xs,σ,h,Q=>match xs with
  | []=>Q σ h
  | _::_=>False
 | t::ts,xs,σ,h,Q=>match xs with
  | x::xs=>wT t (.d x) σ h λσ' h1=>wTs ts xs σ' h1 Q
  | []=>False
end
noncomputable def wBI (tg:Tg) (x:Ite) (σ:Env) (h:Sto) (Q:Env->Sto->Prop):Prop:=match x with
 | .r x=>wT tg x σ h Q
 | .en i x=>match tg with
  | .tup [a,b]=>wT a (.d (.int i)) σ h λσ' h1=>wT b x σ' h1 Q
  | _=>False
noncomputable def wWk (r:R) (h:Sto) (Q:Wk->Sto->Prop):Prop:=match r with
 | .d (.tup xs)=>Q ⟨xs.map dI,none⟩ h
 | .d (.lst xs)=>Q ⟨xs.map dI,none⟩ h
 | .d (.str x)=>wB (fit x.length) (Q ⟨(x.map λc=>D.str [c]).map dI,none⟩ h) False
 | .d _=>False
 | .loc l=>wO h[l]? λo=>match o with
  | .lst xs=>Q ⟨xs.map dI,some l⟩ h
  | .fro xs=>Q ⟨xs.map dI,some l⟩ h
  | .ols ls=>Q ⟨ls.map λl=>.r (.loc l),some l⟩ h
  | .ins _ _=>False
  | .dic _=>False
  | .dfr _=>False
noncomputable def wMe (m:Me) (x:R) (rs:List R) (h:Sto) (Q:R->Sto->Prop):Prop:=match m,rs with
 | .append,[r]=>wPl x λl=>wFz r h λd h1=>wO h1[l]? λo=>wLw o λxs=>xs.length<big/\Q (.d .non) (h1.set l (.lst (xs++[d])))
 | .pop,[]=>wPl x λl=>wO h[l]? λo=>wLw o λxs=>wO xs[xs.length-1]? λy=>Q (.d y) (h.set l (.lst xs.dropLast))
 | .clear,[]=>wPl x λl=>wO h[l]? λo=>wLw o λ_=>Q (.d .non) (h.set l (.lst []))
 | .extend,[r]=>wPl x λl=>wRd r h λd h1=>wO (match d with | .lst ys=>some ys | _=>none) λys=>wO h1[l]? λo=>wLw o λxs=>fit (xs.length+ys.length)=true/\Q (.d .non) (h1.set l (.lst (xs++ys)))
 | m,rs=>Ok (meth m x rs h) Q
mutual
noncomputable def wE (Γ:Calls):E->Env->Sto->(R->Sto->Prop)->Prop
 | .con d,_,h,Q=>Q (.d d) h
 | .var i,σ,h,Q=>wO σ[i]? λo=>wO o λr=>Q r h
 | .bin o a b,σ,h,Q=>wE Γ a σ h λx h1=>wE Γ b σ h1 λy h2=>wRd x h2 λx h3=>wRd y h3 λy h4=>wO (bop o x y) λz=>Q (.d z) h4
 | .cmp o a b,σ,h,Q=>wE Γ a σ h λx h1=>wE Γ b σ h1 λy h2=>wRd x h2 λx h3=>wRd y h3 λy h4=>wO (cop o x y) λz=>Q (.d z) h4
 | .and a b,σ,h,Q=>wE Γ a σ h λx h1=>wBl x λc=>wB c (wE Γ b σ h1 Q) (Q (.d (.bl false)) h1)
 | .or a b,σ,h,Q=>wE Γ a σ h λx h1=>wBl x λc=>wB c (Q (.d (.bl true)) h1) (wE Γ b σ h1 Q)
 | .not a,σ,h,Q=>wE Γ a σ h λx h1=>wRd x h1 λd h2=>wO (tru d) λb=>Q (.d (.bl (!b))) h2
 | .ife c a b,σ,h,Q=>wC Γ c σ h λt h1=>wB t (wE Γ a σ h1 Q) (wE Γ b σ h1 Q)
 | .tup es,σ,h,Q=>wEs Γ es σ h λrs h1=>wFzs rs h1 λds h2=>Q (.d (.tup ds)) h2
 | .lst m l,σ,h,Q=>wL Γ l σ h λxs h1=>match m with
  | true=>Q (.loc h1.length) (h1++[.lst xs])
  | false=>Q (.d (.lst xs)) h1
 | .idx a i,σ,h,Q=>wE Γ a σ h λx h1=>wE Γ i σ h1 λy h2=>wRd x h2 λx h3=>wRd y h3 λy h4=>wO (idxD x y) λz=>Q (.d z) h4
 | .sli a lo hi,σ,h,Q=>wE Γ a σ h λx h1=>wE Γ lo σ h1 λl h2=>wE Γ hi σ h2 λu h3=>wRd x h3 λx h4=>wRd l h4 λl h5=>wRd u h5 λu h6=>wO (sliD x l u) λz=>Q (.d z) h6
 | .call f es,σ,h,Q=>wEs Γ es σ h λrs h1=>@Ask _ (Γ f rs h1) ⟨Q⟩
 | .bi b es,σ,h,Q=>wEs Γ es σ h λrs h1=>wRds rs h1 λds h2=>wO (biD b ds) λz=>Q (.d z) h2
 | .me m o es,σ,h,Q=>wE Γ o σ h λx h1=>wPl x λl=>wO h1[l]? λo=>wLs o λ_=>wEs Γ es σ h1 λrs h3=>wMe m (.loc l) rs h3 Q
 | .glo d,_,h,Q=>Q (.d d) h
 | .isi t e,σ,h,Q=>wE Γ e σ h λr h1=>wRd r h1 λd h2=>Q (.d (.bl (isiD t d))) h2
 | .tm m o es,σ,h,Q=>wE Γ o σ h λx h1=>wEs Γ es σ h1 λrs h2=>wRd x h2 λd h3=>wRds rs h3 λds h4=>wO (tmD m d ds) λz=>Q (.d z) h4
 | .lm m o a,σ,h,Q=>wE Γ o σ h λx h0=>wRd x h0 λ_ h1=>wE Γ a σ h1 λy h2=>wRd x h2 λx h3=>wRd y h3 λy h4=>wO (lmD m x y) λz=>Q (.d z) h4
 | .dnew,_,h,Q=>Q (.loc h.length) (h++[.dic []])
 | .stuck,_,_,_=>False
noncomputable def wEs (Γ:Calls):List E->Env->Sto->(List R->Sto->Prop)->Prop
 | [],_,h,Q=>Q [] h
 | e::es,σ,h,Q=>wE Γ e σ h λr h1=>wEs Γ es σ h1 λrs h2=>Q (r::rs) h2
noncomputable def wC (Γ:Calls):T->Env->Sto->(Bool->Sto->Prop)->Prop
 | .val e,σ,h,Q=>wE Γ e σ h λr h1=>wRd r h1 λd h2=>wO (tru d) λt=>Q t h2
 | .and a b,σ,h,Q=>wC Γ a σ h λt h1=>wB t (wC Γ b σ h1 Q) (Q false h1)
 | .or a b,σ,h,Q=>wC Γ a σ h λt h1=>wB t (Q true h1) (wC Γ b σ h1 Q)
 | .not a,σ,h,Q=>wC Γ a σ h λt h1=>Q (!t) h1
noncomputable def wCs (Γ:Calls):List T->Env->Sto->(Bool->Sto->Prop)->Prop
 | [],_,h,Q=>Q true h
 | c::cs,σ,h,Q=>wC Γ c σ h λt h1=>wB t (wCs Γ cs σ h1 Q) (Q false h1)
noncomputable def wL (Γ:Calls):L->Env->Sto->(List D->Sto->Prop)->Prop
 | .disp es,σ,h,Q=>wEs Γ es σ h λrs h1=>wFzs rs h1 Q
 | .comp tg it c el,σ,h,Q=>wI Γ it σ h λw h1=>@Ask _ (turns w.l (zmm Γ tg c el σ) w.xs h1) ⟨Q⟩
 | .of e,σ,h,Q=>wE Γ e σ h λr h1=>wRd r h1 λd h2=>wO (items d) λxs=>Q xs h2
 | .spl a b,σ,h,Q=>wE Γ a σ h λx h1=>wE Γ b σ h1 λy h2=>wRd x h2 λx h3=>wRd y h3 λy h4=>wO (splD x y) λxs=>Q xs h4
 | .sdi e,σ,h,Q=>wE Γ e σ h λr h1=>wPl r λl=>wO h1[l]? λo=>wDc o λkvs=>wO (zbN (kvs.map zcs)) λxs=>Q xs h1
 | .sst e,σ,h,Q=>wE Γ e σ h λr h1=>wRd r h1 λd h2=>wO (zbd d) λxs=>Q xs h2
noncomputable def wI (Γ:Calls):I->Env->Sto->(Wk->Sto->Prop)->Prop
 | .seq e,σ,h,Q=>wE Γ e σ h λr h1=>wWk r h1 Q
 | .rng e,σ,h,Q=>wE Γ e σ h λr h1=>wInt r λn=>(-(2 ^ 62)<=n/\n<=16777216)/\Q ⟨(zbf 0 n.toNat).map dI,none⟩ h1
 | .dic e,σ,h,Q=>wE Γ e σ h λr h1=>wPl r λl=>wO h1[l]? λo=>wDf o λkvs=>Q ⟨kvs.map λp=>dI p.1,some l⟩ h1
end
mutual
noncomputable def wS (Γ:Calls):S->Env->Sto->(Fl×Env->Sto->Prop)->Prop
 | .asg tg e,σ,h,Q=>wE Γ e σ h λr h1=>wT tg r σ h1 λσ' h2=>Q (.nx,σ') h2
 | .setI o i e,σ,h,Q=>wE Γ e σ h λr h1=>wE Γ o σ h1 λx h2=>wE Γ i σ h2 λy h3=>wFz r h3 λd h4=>wInt y λk=>wPl x λl=>wO h4[l]? λo=>wLw o λxs=>wO (ixn xs.length k) λj=>Q (.nx,σ) (h4.set l (.lst (xs.set j d)))
 | .exp e,σ,h,Q=>wE Γ e σ h λ_ h1=>Q (.nx,σ) h1
 | .ife c a b,σ,h,Q=>wC Γ c σ h λt h1=>wB t (wSs Γ a σ h1 Q) (wSs Γ b σ h1 Q)
 | .for tg it b,σ,h,Q=>wI Γ it σ h λw h1=>@Ask _ (loop w.l (λx σ=>bnd (zaw tg x σ) λσ'=>exs Γ b σ') w.xs σ h1) ⟨Q⟩
 | .ret e,σ,h,Q=>wE Γ e σ h λr h1=>Q (.ret r,σ) h1
 | .brk,σ,h,Q=>Q (.brk,σ) h
 | .cnt,σ,h,Q=>Q (.cnt,σ) h
 | .setD o k e,σ,h,Q=>wE Γ e σ h λr h1=>wE Γ o σ h1 λx h2=>wE Γ k σ h2 λy h3=>wFz r h3 λd h4=>wKey y λk=>wPl x λl=>wO h4[l]? λob=>wDw ob λkvs=>kvs.length<big/\Q (.nx,σ) (h4.set l (.dic (dPut k d kvs)))
 | .stuck,_,_,_=>False
noncomputable def wSs (Γ:Calls):List S->Env->Sto->(Fl×Env->Sto->Prop)->Prop
 | [],σ,h,Q=>Q (.nx,σ) h
 | s::r,σ,h,Q=>wS Γ s σ h λp h1=>match p.1 with
  | .nx=>wSs Γ r p.2 h1 Q
  | .ret r=>Q (.ret r,p.2) h1
  | .brk=>Q (.brk,p.2) h1
  | .cnt=>Q (.cnt,p.2) h1
end
theorem zhn {α:Type} {o:Option α} {Q:α->Prop}:(∃ a,o=some a/\Q a)=wO o Q:=by
 cases o<;>simp [wO]
theorem zj9:((t=true->A)/\(t=false->B))=wB t A B:=by cases t<;>simp [wB]
theorem zps:((t=false->B)/\(t=true->A))=wB t A B:=by cases t<;>simp [wB]
section
variable {h:Sto}
theorem qRd {r:R} {Q:D->Sto->Prop}:Ok (rd r h) Q=wRd r h Q:=by
 cases r with
 | d x=>exact propext ok_rd_d
 | loc l=>
  rw [propext zl6];simp only [wRd,<-zhn]
  congr;funext o;congr;cases o<;>simp [wLs,Ob.isL,Ob.items]
theorem qFz {r:R} {Q:D->Sto->Prop}:Ok (fz r h) Q=wFz r h Q:=by
 cases r with
 | d x=>exact propext ok_fz_d
 | loc l=>
  rw [propext zm5];simp only [wFz,<-zhn]
  congr;funext o;congr;cases o<;>simp [wLs,Ob.isL,Ob.items]
theorem qRds:∀ {rs:List R} {h:Sto} {Q:List D->Sto->Prop},Ok (rds rs h) Q=wRds rs h Q
 | [],h,Q=>propext zkE
 | r::rs,h,Q=>by rw [propext ziA,wRds,qRd];simp only [qRds]
theorem qFzs:∀ {rs:List R} {h:Sto} {Q:List D->Sto->Prop},Ok (fzs rs h) Q=wFzs rs h Q
 | [],h,Q=>propext zkO
 | r::rs,h,Q=>by rw [propext ziQ,wFzs,qFz];simp only [qFzs]
mutual
theorem qT:∀ (tg:Tg) (r:R) (σ:Env) (h:Sto) (Q:Env->Sto->Prop),Ok (zaz tg r σ h) Q=wT tg r σ h Q
 | .name i,r,σ,h,Q=>by rw [propext znH,wT]
 | .tup ts,r,σ,h,Q=>by
  rw [propext zpC,wT,qRd]
  congr;funext d h1
  cases d<;>simp [wTup,qTs ts]
theorem qTs:∀ (ts:List Tg) (xs:List D) (σ:Env) (h:Sto) (Q:Env->Sto->Prop),Ok (bindTs ts xs σ h) Q=wTs ts xs σ h Q
 | [],[],σ,h,Q=>by rw [propext zly,wTs]
 | [],_::_,σ,h,Q=>by simp [bindTs,wTs]
 | t::ts,[],σ,h,Q=>by simp [bindTs,wTs]
 | t::ts,x::xs,σ,h,Q=>by rw [propext ziG,qT t];simp only [qTs ts,wTs]
end
theorem qBI:Ok (zaw tg x σ h) Q=wBI tg x σ h Q:=by
 cases x with
 | r x=>rw [propext w_bI,qT];rfl
 | en i x=>
  match tg with
  | .tup [a,b]=>rw [propext zsl,qT];simp only [qT];rfl
  | .name _=>simp [zaw,wBI]
  | .tup []=>simp [zaw,wBI]
  | .tup [_]=>simp [zaw,wBI]
  | .tup (_::_::_::_)=>simp [zaw,wBI]
theorem qWk {r:R} {Q:Wk->Sto->Prop}:Ok (zba r h) Q=wWk r h Q:=by
 match r with
 | .d (.tup xs)=>exact propext zmF
 | .d (.lst xs)=>exact propext zmr
 | .d (.str x)=>
  simp only [wWk]
  cases c:fit x.length with
  | true=>rw [propext (zmO c)];rfl
  | false=>simp [zba,zc5,wkOf,items,c,wB]
 | .d .non=>simp [zba,zc5,wkOf,items,wWk]
 | .d (.bl _)=>simp [zba,zc5,wkOf,items,wWk]
 | .d (.int _)=>simp [zba,zc5,wkOf,items,wWk]
 | .loc l=>rw [propext znc,zhn];rfl
theorem zlG {l:Nat}:(∃ xs,h[l]?=some (.lst xs)/\p xs)=wO h[l]? λo=>wLw o p:=by
 cases h[l]? with
 | none=>simp [wO]
 | some o=>cases o<;>simp [wO,wLw]
theorem qMe {m:Me} {l:Nat}:Ok (meth m (.loc l) rs h) Q=wMe m (.loc l) rs h Q:=by
 unfold wMe
 split
 ·rw [propext zlW,qFz];simp only [wPl,zlG]
 ·rw [propext zsU];simp only [wPl,zlG,zhn]
 ·rw [propext zo7];simp only [wPl,zlG]
 ·rw [propext zm8,qRd]
  simp only [wPl]
  congr;funext d h1
  cases d with
  | lst ys=>simp only [D.lst.injEq,exists_and_left,exists_eq_left',zlG,wO]
  | _=>simp [wO]
 ·rfl
end
theorem zrU {h:Sto} {l:Nat} {p:Str->List (Str×R)->Prop}:(∃ c fs,h[l]?=some (.ins c fs)/\p c fs)=wO h[l]? λo=>wIn o p:=by
 cases h[l]? with
 | none=>simp [wO]
 | some o=>
  cases o with
  | ins c fs=>
   simp only [wO,wIn,eq_iff_iff];constructor
   ·rintro ⟨_,_,e,q⟩;cases e;exact q
   ·intro q;exact ⟨_,_,rfl,q⟩
  | _=>simp [wO,wIn]
theorem zrq {x:R} {p:Bool->Prop}:(∃ i,x=.d (.bl i)/\p i)=wBl x p:=by
 match x with
 | .d (.bl i)=>simp [wBl]
 | .loc _ | .d .non | .d (.int _) | .d (.str _) | .d (.tup _) | .d (.lst _)=>simp [wBl]
theorem zrk {x:R} {h:Sto} {Q:Unit->Sto->Prop}:Ok (zdZ x h) Q=wPl x λl=>wO h[l]? λo=>wLs o λ_=>Q () h:=by
 cases x with
 | d x=>simp [zdZ,wPl]
 | loc l=>
  rw [propext zpj];simp only [wPl,<-zhn]
  congr;funext o;congr;cases o<;>simp [wLs,Ob.isL]
theorem zqx {x:R} {k:D} {d:D} {h:Sto} {Q:Unit->Sto->Prop}:Ok (zec x k d h) Q=wInt (.d k) λk=>wPl x λl=>wO h[l]? λo=>wLw o λxs=>wO (ixn xs.length k) λj=>Q () (h.set l (.lst (xs.set j d))):=by
 cases x with
 | d x=>cases k<;>simp [zec,wPl,wInt]
 | loc l=>
  cases k with
  | int k=>rw [propext zn3];simp only [zhn];rw [zlG];rfl
  | _=>simp [zec,wInt]
theorem qOpt {α:Type} {o:Option α} {h:Sto} {Q:α->Sto->Prop}:Ok (opt o h) Q=wO o λa=>Q a h:=by rw [propext ok_opt,zhn]
theorem zo2 {y:R} {h:Sto} {p:Int->Sto->Prop}:(wRd y h λd h1=>wInt (.d d) λk=>p k h1)=wInt y λk=>p k h:=by
 match y with
 | .d (.int i)=>rfl
 | .d .non | .d (.bl _) | .d (.str _) | .d (.tup _) | .d (.lst _)=>rfl
 | .loc l=>
  simp only [wRd,wInt]
  cases h[l]? with
  | none=>rfl
  | some o=>cases o<;>rfl
theorem qMe' {m:Me} {x:R} {Γ:Calls} {h:Sto} {W:Sto->(List R->Sto->Prop)->Prop} {Q:R->Sto->Prop}:(wPl x λl=>wO h[l]? λo=>wLs o λ_=>W h λrs h3=>Ok (meth m x rs h3) Q)=(wPl x λl=>wO h[l]? λo=>wLs o λ_=>W h λrs h3=>wMe m (.loc l) rs h3 Q):=by
 cases x with
 | d x=>rfl
 | loc l=>simp only [wPl,qMe]
theorem zjn {α:Type} {m:Option (α×Sto)} {Q:α->Sto->Prop}:Ok m Q=@Ask α m ⟨Q⟩:=propext zqh
theorem qDRd {x:R} {h:Sto} {Q:List (D×D)->Sto->Prop}:Ok (dRd x h) Q=wPl x λl=>wO h[l]? λo=>wDc o λkvs=>Q kvs h:=by
 cases x with
 | d x=>simp [dRd,wPl]
 | loc l=>
  simp only [dRd,wPl]
  cases h[l]? with
  | none=>simp [wO]
  | some o=>cases o<;>simp [wO,wDc]
theorem qKRd {x:R} {h:Sto} {Q:D->Sto->Prop}:Ok (kRd x h) Q=wKey x λk=>Q k h:=by
 cases x with
 | loc l=>simp [kRd,wKey]
 | d k=>
  simp only [kRd,wKey]
  cases zaq k<;>simp [wB]
theorem zrQ {x:R} {k v:D} {h:Sto} {Q:Unit->Sto->Prop}:Ok (dSet x k v h) Q=wPl x λl=>wO h[l]? λo=>wDw o λkvs=>kvs.length<big/\Q () (h.set l (.dic (dPut k v kvs))):=by
 cases x with
 | d x=>simp [dSet,wPl]
 | loc l=>
  simp only [dSet,wPl]
  cases h[l]? with
  | none=>simp [wO]
  | some o=>
   cases o with
   | dic kvs=>
    simp only [wO,wDw]
    by_cases c:kvs.length<big
    ·simp [c]
    ·simp [c]
   | _=>simp [wO,wDw]
theorem zq9 {x:R} {h:Sto} {Q:Wk->Sto->Prop}:Ok (zhm x h) Q=wPl x λl=>wO h[l]? λo=>wDf o λkvs=>Q ⟨kvs.map λp=>dI p.1,some l⟩ h:=by
 cases x with
 | d x=>simp [zhm,wPl]
 | loc l=>
  simp only [zhm,wPl]
  cases h[l]? with
  | none=>simp [wO]
  | some o=>cases o<;>simp [wO,wDf]
theorem qIf {α:Type} {t:Bool} {x y:M α} {h:Sto} {Q:α->Sto->Prop}:Ok ((if t=true then x else y) h) Q=wB t (Ok (x h) Q) (Ok (y h) Q):=by cases t<;>rfl
mutual
theorem qE (Γ:Calls):∀ (e:E) (σ:Env) (h:Sto) (Q:R->Sto->Prop),Ok (ev Γ e σ h) Q=wE Γ e σ h Q
 | .con d,σ,h,Q=>propext ok_ok
 | .var i,σ,h,Q=>by
  refine (propext zsy).trans ?_;show _=wO σ[i]? λo=>wO o λr=>Q r h
  cases σ[i]? with
  | none=>simp [wO]
  | some o=>cases o<;>simp [wO]
 | .bin o a b,σ,h,Q=>(propext ok_bnd).trans (by simp only [ok_bnd,qE Γ a,qE Γ b,qRd,qOpt,ok_ok];rfl)
 | .cmp o a b,σ,h,Q=>(propext ok_bnd).trans (by simp only [ok_bnd,qE Γ a,qE Γ b,qRd,qOpt,ok_ok];rfl)
 | .and a b,σ,h,Q=>by rw [propext zr6,qE Γ a];simp only [qE Γ b,zrq,zj9];rfl
 | .or a b,σ,h,Q=>by rw [propext w_or,qE Γ a];simp only [qE Γ b,zrq,zps];rfl
 | .not a,σ,h,Q=>(propext ok_bnd).trans (by simp only [ok_bnd,qE Γ a,qRd,qOpt,ok_ok];rfl)
 | .ife c a b,σ,h,Q=>(propext ok_bnd).trans (by simp only [qC Γ c,qIf,qE Γ a,qE Γ b];rfl)
 | .tup es,σ,h,Q=>(propext ok_bnd).trans (by simp only [ok_bnd,qEs Γ es,qFzs,ok_ok];rfl)
 | .lst true l,σ,h,Q=>(propext ok_bnd).trans (by simp only [qL Γ l,if_true,alloc,ok_some'];rfl)
 | .lst false l,σ,h,Q=>(propext ok_bnd).trans (by simp only [qL Γ l,Bool.false_eq_true,if_false,ok_ok];rfl)
 | .idx a b,σ,h,Q=>(propext ok_bnd).trans (by simp only [ok_bnd,qE Γ a,qE Γ b,qRd,qOpt,ok_ok];rfl)
 | .sli a b c,σ,h,Q=>(propext ok_bnd).trans (by simp only [ok_bnd,qE Γ a,qE Γ b,qE Γ c,qRd,qOpt,ok_ok];rfl)
 | .call f es,σ,h,Q=>(propext ok_bnd).trans (by simp only [ok_bnd,qEs Γ es,zjn,ok_ok];rfl)
 | .bi b es,σ,h,Q=>(propext ok_bnd).trans (by simp only [ok_bnd,qEs Γ es,qRds,qOpt,ok_ok];rfl)
 | .me m o es,σ,h,Q=>by
  rw [propext w_me,qE Γ o];simp only [zrk,qEs Γ es,qMe' (Γ:=Γ) (W:=λh Q=>wEs Γ es σ h Q)];rfl
 | .glo d,σ,h,Q=>propext ok_ok
 | .isi t e,σ,h,Q=>(propext ok_bnd).trans (by simp only [ok_bnd,qE Γ e,qRd,ok_ok];rfl)
 | .tm m o es,σ,h,Q=>(propext ok_bnd).trans (by simp only [ok_bnd,qE Γ o,qEs Γ es,qRd,qRds,qOpt,ok_ok];rfl)
 | .lm m o a,σ,h,Q=>(propext ok_bnd).trans (by simp only [ok_bnd,qE Γ o,qE Γ a,qRd,qOpt,ok_ok];rfl)
 | .dnew,σ,h,Q=>by show Ok (dNew h) Q=_;simp only [dNew,ok_some'];rfl
 | .stuck,σ,h,Q=>by rw [propext zsH];rfl
theorem qEs (Γ:Calls):∀ (es:List E) (σ:Env) (h:Sto) (Q:List R->Sto->Prop),Ok (evs Γ es σ h) Q=wEs Γ es σ h Q
 | [],σ,h,Q=>propext ok_ok
 | e::es,σ,h,Q=>(propext ok_bnd).trans (by simp only [ok_bnd,qE Γ e,qEs Γ es,ok_ok];rfl)
theorem qC (Γ:Calls):∀ (e:T) (σ:Env) (h:Sto) (Q:Bool->Sto->Prop),Ok (tv Γ e σ h) Q=wC Γ e σ h Q
 | .val e,σ,h,Q=>(propext ok_bnd).trans (by simp only [ok_bnd,qE Γ e,qRd,qOpt,ok_ok];rfl)
 | .and a b,σ,h,Q=>(propext ok_bnd).trans (by simp only [qC Γ a,qIf,qC Γ b,ok_ok];rfl)
 | .or a b,σ,h,Q=>(propext ok_bnd).trans (by simp only [qC Γ a,qIf,qC Γ b,ok_ok];rfl)
 | .not a,σ,h,Q=>(propext ok_bnd).trans (by simp only [ok_bnd,qC Γ a,ok_ok];rfl)
theorem qCs (Γ:Calls):∀ (es:List T) (σ:Env) (h:Sto) (Q:Bool->Sto->Prop),Ok (tvs Γ es σ h) Q=wCs Γ es σ h Q
 | [],σ,h,Q=>propext ok_ok
 | e::es,σ,h,Q=>(propext ok_bnd).trans (by simp only [qC Γ e,qIf,qCs Γ es,ok_ok];rfl)
theorem qL (Γ:Calls):∀ (e:L) (σ:Env) (h:Sto) (Q:List D->Sto->Prop),Ok (evL Γ e σ h) Q=wL Γ e σ h Q
 | .disp es,σ,h,Q=>(propext ok_bnd).trans (by simp only [ok_bnd,qEs Γ es,qFzs,ok_ok];rfl)
 | .comp tg it c el,σ,h,Q=>(propext ok_bnd).trans (by simp only [ok_bnd,qI Γ it,zjn,ok_ok];rfl)
 | .of e,σ,h,Q=>(propext ok_bnd).trans (by simp only [ok_bnd,qE Γ e,qRd,qOpt,ok_ok];rfl)
 | .spl a b,σ,h,Q=>(propext ok_bnd).trans (by simp only [ok_bnd,qE Γ a,qE Γ b,qRd,qOpt,ok_ok];rfl)
 | .sdi e,σ,h,Q=>(propext ok_bnd).trans (by simp only [ok_bnd,qE Γ e,qDRd,qOpt];rfl)
 | .sst e,σ,h,Q=>(propext ok_bnd).trans (by simp only [ok_bnd,qE Γ e,qRd,qOpt];rfl)
theorem qI (Γ:Calls):∀ (e:I) (σ:Env) (h:Sto) (Q:Wk->Sto->Prop),Ok (evI Γ e σ h) Q=wI Γ e σ h Q
 | .seq e,σ,h,Q=>(propext ok_bnd).trans (by simp only [ok_bnd,qE Γ e,qWk,ok_ok];rfl)
 | .rng e,σ,h,Q=>by
  rw [propext zsh,qE Γ e]
  congr;funext r h1
  match r with
  | .d (.int n)=>exact propext znY
  | .loc _ | .d .non | .d (.bl _) | .d (.str _) | .d (.tup _) | .d (.lst _)=>simp [zfb,wInt]
 | .dic e,σ,h,Q=>(propext ok_bnd).trans (by simp only [ok_bnd,qE Γ e,zq9];rfl)
end
mutual
theorem qS (Γ:Calls):∀ (s:S) (σ:Env) (h:Sto) (Q:Fl×Env->Sto->Prop),Ok (ex Γ s σ h) Q=wS Γ s σ h Q
 | .asg tg e,σ,h,Q=>(propext ok_bnd).trans (by simp only [ok_bnd,qE Γ e,qT,ok_ok];rfl)
 | .setI o i e,σ,h,Q=>by
  rw [propext zq1,qE Γ e];simp only [qE Γ o,qE Γ i,qFz,qRd,zqx,zo2 (p:=λk h5=>wPl _ λl=>wO h5[l]? λo=>wLw o λxs=>wO (ixn xs.length k) λj=>Q (.nx,σ) (h5.set l (.lst (xs.set j _))))];rfl
 | .exp e,σ,h,Q=>(propext ok_bnd).trans (by simp only [ok_bnd,qE Γ e,ok_ok];rfl)
 | .ife c a b,σ,h,Q=>(propext ok_bnd).trans (by simp only [qC Γ c,qIf,qSs Γ a,qSs Γ b];rfl)
 | .for tg it b,σ,h,Q=>(propext ok_bnd).trans (by simp only [ok_bnd,qI Γ it,zjn,ok_ok];rfl)
 | .ret e,σ,h,Q=>(propext ok_bnd).trans (by simp only [ok_bnd,qE Γ e,ok_ok];rfl)
 | .brk,σ,h,Q=>propext ok_ok
 | .cnt,σ,h,Q=>propext ok_ok
 | .setD o k e,σ,h,Q=>(propext ok_bnd).trans (by simp only [ok_bnd,qE Γ e,qE Γ o,qE Γ k,qFz,qKRd,zrQ,ok_ok];rfl)
 | .stuck,σ,h,Q=>by rw [propext zsj];rfl
theorem qSs (Γ:Calls):∀ (s:List S) (σ:Env) (h:Sto) (Q:Fl×Env->Sto->Prop),Ok (exs Γ s σ h) Q=wSs Γ s σ h Q
 | [],σ,h,Q=>propext ok_ok
 | s::r,σ,h,Q=>by 
  rw [propext zi4,qS Γ s];simp only [qSs Γ r]
  try congr
end
theorem st {α:Type} {o:Option α} {a:α} {Q:α->Prop} (e:o=some a) (k:Q a):wO o Q:=by rw [e];exact k
theorem br {t:Bool} {A B:Prop} (a:t=true->A) (b:t=false->B):wB t A B:=by cases t;exact b rfl;exact a rfl
theorem bf {t:Bool} {A B:Prop} (e:t=false) (k:B):wB t A B:=by rw [e];exact k
theorem bt {t:Bool} {A B:Prop} (e:t=true) (k:A):wB t A B:=by rw [e];exact k
theorem gs {Γ:Calls} {s:List S} {σ:Env} {h:Sto} {Q:Fl×Env->Sto->Prop} (k:wSs Γ s σ h Q):Ok (exs Γ s σ h) Q:=(qSs Γ s σ h Q).mpr k
theorem ge {Γ:Calls} {e:E} {σ:Env} {h:Sto} {Q:R->Sto->Prop} (k:wE Γ e σ h Q):Ok (ev Γ e σ h) Q:=(qE Γ e σ h Q).mpr k
theorem gb {Γ:Calls} {tg:Tg} {x:Ite} {b:List S} {σ:Env} {h:Sto} {Q:Fl×Env->Sto->Prop} (k:wBI tg x σ h λσ' h1=>wSs Γ b σ' h1 Q):Ok (bnd (zaw tg x σ) (λσ'=>exs Γ b σ') h) Q:=by
 rw [propext ok_bnd,qBI];simp only [qSs];exact k
theorem gc {Γ:Calls} {tg:Tg} {c:List T} {el:E} {x:Ite} {σ:Env} {h:Sto} {Q:Option D->Sto->Prop} (k:wBI tg x (clr tg.slots σ) h λσ' h1=>wCs Γ c σ' h1 λt h2=>wB t (wE Γ el σ' h2 λr h3=>wFz r h3 λd h4=>Q (some d) h4) (Q none h2)):Ok (zmm Γ tg c el σ x h) Q:=by
 rw [propext zpg,qBI];simp only [qCs,qE,qFz,zj9];exact k
theorem qPl {x:R} {h:Sto} {Q:Nat->Sto->Prop}:Ok (zcL x h) Q=wPl x λl=>wO h[l]? λo=>wIn o λ_ _=>Q l h:=by
 cases x with
 | d x=>simp [zcL,wPl]
 | loc l=>rw [propext zkk,zrU];rfl
theorem go {Γ:Calls} {tg:Tg} {c:List T} {el:E} {x:Ite} {σ:Env} {h:Sto} {Q:Option Nat->Sto->Prop} (k:wBI tg x (clr tg.slots σ) h λσ' h1=>wCs Γ c σ' h1 λt h2=>wB t (wE Γ el σ' h2 λr h3=>wPl r λl=>wO h3[l]? λo=>wIn o λ_ _=>Q (some l) h3) (Q none h2)):Ok (zpf Γ tg c el σ x h) Q:=by
 rw [propext zpy,qBI];simp only [qCs,qE,qPl,zj9];exact k
theorem fd {k:Bool} {x:D} {h h1:Sto} {Q:R->Sto->Prop} (o:objs h h1=true) (q:Q (.d x) (h1.take h.length)):Ok (fin h false k (.d x) h1) Q:=zoP.mpr ⟨o,q⟩
theorem f0 {k:Bool} {x:D} {h:Sto} {Q:R->Sto->Prop} (q:Q (.d x) h):Ok (fin h false k (.d x) h) Q:=zoP.mpr ⟨zgp,by rw [List.take_length];exact q⟩
theorem fa {k:Bool} {x:D} {h t:Sto} {Q:R->Sto->Prop} (q:Q (.d x) h):Ok (fin h false k (.d x) (h++t)) Q:=zoP.mpr ⟨zb8,by rw [zin];exact q⟩
theorem zjS {α:Type} {g:α->Ite} {l:Option Nat} {f:Ite->Env->M (Fl×Env)} {xs:List α} {Q:Fl×Env->Sto->Prop} (I:Nat->Env->Sto->Prop)
  (step:∀ i x σ h,xs[i]?=some x->I i σ h->Ok (f (g x) σ h) λp h1=>p.1=.nx/\zaC l h h1=true/\I (i+1) p.2 h1)
  (fin:∀ σ h,I xs.length σ h->Q (.nx,σ) h) {σ:Env} {h:Sto} (h0:I 0 σ h):Ok (loop l f (xs.map g) σ h) Q:=
 zmV I (λi x σ h e q=>(step i x σ h e q).mono λp h1 z=>by rw [z.1];exact z.2) fin h0
theorem zn0 {l:Option Nat} {f:Ite->Env->M (Fl×Env)} {xs:List D} {Q:Fl×Env->Sto->Prop} (I:Nat->Env->Sto->Prop)
  (step:∀ i x σ h,xs[i]?=some x->I i σ h->Ok (f (dI x) σ h) λp h1=>p.1=.nx/\zaC l h h1=true/\I (i+1) p.2 h1)
  (fin:∀ σ h,I xs.length σ h->Q (.nx,σ) h) {σ:Env} {h:Sto} (h0:I 0 σ h):Ok (loop l f (xs.map dI) σ h) Q:=zjS I step fin h0
noncomputable def kF (h:Sto) (all keep:Bool) (Q:R->Sto->Prop) (p:Fl×Env) (h1:Sto):Prop:=match p.1 with
 | .ret r=>Ok (fin h all keep r h1) Q
 | .nx=>Ok (fin h all keep (.d .non) h1) Q
 | _=>False
theorem cl {P:List F} {n f:Nat} {rs:List R} {h:Sto} {Q:R->Sto->Prop} {F:IT.F} (e:P[f]?=some F) (ed:F.dfl=[]) (el:rs.length=F.np)
  (k:wSs (zai P n) F.body (rs.map some++List.replicate (F.ns-F.np) none) h (kF h F.all F.keep Q)):Ok (zai P (n+1) f rs h) Q:=zoE e ed el (gs k)
theorem cd {P:List F} {n f:Nat} {rs rs':List R} {h:Sto} {Q:R->Sto->Prop} {F:IT.F} (e:P[f]?=some F) (er:zaD F.np F.dfl rs=rs') (el:rs'.length=F.np)
  (k:wSs (zai P n) F.body (rs'.map some++List.replicate (F.ns-F.np) none) h (kF h F.all F.keep Q)):Ok (zai P (n+1) f rs h) Q:=zk4 e er el (gs k)
end IT
namespace K81
open IT
variable {Q:R->Sto->Prop}
noncomputable abbrev eV (i:Nat):E:=.var i
noncomputable abbrev eJ (i:Int):E:=.con (.int i)
noncomputable abbrev eS (x:List Nat):E:=.con (.str x)
noncomputable abbrev eX (a:Nat) (i:Int):E:=.idx (.var a) (.con (.int i))
/- is_number (0): 0 word,1 most,2 ?1?sign -/
noncomputable def zbR:List S:=[
 .ife (.or (.val (.cmp .lt (.bi .len [(eV 0)]) (eJ 1))) (.val (.cmp .gt (.bi .len [(eV 0)]) (eV 1)))) [.ret (.con (.bl false))] [],
 .ife (.not (.val (.bi .all [(.lst false (.comp (.name 2) (.seq (eV 0)) [] (.cmp .isin (eV 2) (.glo (.str [48,49,50,51,52,53,54,55,56,57])))))]))) [.ret (.con (.bl false))] [],
 .ret (.or (.cmp .eq (eV 0) (eS [48])) (.cmp .ne (eX 0 0) (eS [48])))]
/- is_signed_number (1): 0 word,1 most -/
noncomputable def zax:List S:=[
 .ife (.val (.tm .starts (eV 0) [(eS [45])])) [.ret (.and (.cmp .ne (eV 0) (eS [45,48])) (.call 0 [(.sli (eV 0) (eJ 1) (.con .non)),(eV 1)]))] [],
 .ret (.call 0 [(eV 0),(eV 1)])]
/- is_word (2): 0 text,1 ?1?sign -/
noncomputable def zdl:List S:=[
 .ife (.or (.val (.cmp .lt (.bi .len [(eV 0)]) (eJ 1))) (.val (.cmp .gt (.bi .len [(eV 0)]) (.glo (.int 8))))) [.ret (.con (.bl false))] [],
 .ret (.bi .all [(.lst false (.comp (.name 1) (.seq (eV 0)) [] (.cmp .isin (eV 1) (.glo (.str [97,98,99,100,101,102,103,104,105,106,107,108,109,110,111,112,113,114,115,116,117,118,119,120,121,122])))))])]
/- is_kind (3): 0 text -/
noncomputable def zd3:List S:=[
 .ret (.and (.call 2 [(eV 0)]) (.cmp .notin (eV 0) (.glo (.tup [(.str [114,101,97,100]),(.str [119,114,105,116,101]),(.str [100,114,111,112])]))))]
/- paper_text (4): 0 paper,1 ?1?shape -/
noncomputable def zaK:List S:=[
 .ret (.tm .join (eS [10]) [(.lst false (.comp (.name 1) (.seq (eV 0)) [] (.call 5 [(eV 1)])))])]
/- shape_text (5): 0 shape,1 head,2 lines,3 ?1?config,4 ?1?count -/
noncomputable def zbD:List S:=[
 .asg (.name 1) (.call 9 [(.sli (eV 0) (.con .non) (eJ 2))]),
 .asg (.name 2) (.lst false (.comp (.tup [(.name 3),(.name 4)]) (.seq (eX 0 2)) [] (.call 9 [(.tup [(.call 6 [(eV 3)]),(eV 4)])]))),
 .ife (.not (.val (eV 2))) [.ret (eV 1)] [],
 .ret (.bin .add (.bin .add (eV 1) (eS [58,32])) (.tm .join (eS [59,32]) [(eV 2)]))]
/- config_text (6): 0 config -/
noncomputable def za8:List S:=[
 .ret (.call 9 [(.tup [(eX 0 0),(eX 0 1),(.call 7 [(eX 0 2)]),(.call 7 [(eX 0 3)]),(.idx (.glo (.tup [(.str [45]),(.str [115]),(.str [111]),(.str [115,111])])) (eX 0 4))])])]
/- way_text (7): 0 way,1 ?1?letter -/
noncomputable def zcQ:List S:=[
 .ife (.not (.val (eV 0))) [.ret (.glo (.str [45]))] [],
 .ret (.tm .join (eS [43]) [(.lst false (.comp (.name 1) (.seq (eV 0)) [] (.tm .join (eS [46]) [(eV 1)])))])]
/- deeds_text (8): 0 deeds,1 ?1?deed -/
noncomputable def zbC:List S:=[
 .ret (.tm .join (eS [10]) [(.lst false (.comp (.name 1) (.seq (eV 0)) [] (.call 9 [(eV 1)])))])]
/- spaced (9): 0 parts,1 ?1?part -/
noncomputable def zeX:List S:=[
 .ret (.tm .join (eS [32]) [(.lst false (.comp (.name 1) (.seq (eV 0)) [] (.bi .str [(eV 1)])))])]
/- read_paper (10): 0 text,1 ?1?row -/
noncomputable def zbE:List S:=[
 .ret (.call 13 [(.lst true (.comp (.name 1) (.seq (.call 12 [(eV 0)])) [] (.call 14 [(eV 1)])))])]
/- read_deeds (11): 0 text,1 ?1?row -/
noncomputable def zbo:List S:=[
 .ret (.call 13 [(.lst true (.comp (.name 1) (.seq (.call 12 [(eV 0)])) [] (.call 20 [(eV 1)])))])]
/- rows_of (12): 0 text -/
noncomputable def zd4:List S:=[
 .ife (.not (.val (.isi .str (eV 0)))) [.stuck] [],
 .ret (.ife (.val (eV 0)) (.lst false (.spl (eV 0) (eS [10]))) (.lst false (.disp [])))]
/- all_good (13): 0 things -/
noncomputable def zcD:List S:=[
 .ife (.val (.cmp .isin (.con .non) (eV 0))) [.stuck] [],
 .ret (eV 0)]
/- read_shape (14): 0 row,1 halves,2 head,3 lines,4 ?1?part,5 ?2?line -/
noncomputable def zaN:List S:=[
 .asg (.name 1) (.tm .parti (eV 0) [(eS [58,32])]),
 .asg (.name 2) (.lst false (.spl (eX 1 0) (eS [32]))),
 .asg (.name 3) (.ife (.val (eX 1 1)) (.lst false (.comp (.name 4) (.seq (.lst false (.spl (eX 1 2) (eS [59,32])))) [] (.call 16 [(eV 4)]))) (.lst false (.disp []))),
 .ife (.or (.val (.cmp .ne (.bi .len [(eV 2)]) (eJ 2))) (.or (.not (.val (.call 2 [(eX 2 0)]))) (.val (.cmp .notin (eX 2 1) (.glo (.tup [(.str [110,111,110,101]),(.str [108,97,115,116]),(.str [111,108,100])])))))) [.ret (.con .non)] [],
 .ife (.or (.val (.cmp .isin (.con .non) (eV 3))) (.not (.val (.call 15 [(.lst false (.comp (.name 5) (.seq (eV 3)) [] (eX 5 0)))])))) [.ret (.con .non)] [],
 .ret (.tup [(eX 2 0),(eX 2 1),(.bi .tuple [(eV 3)])])]
/- are_in_order (15): 0 configs -/
noncomputable def zaU:List S:=[
 .ret (.cmp .eq (eV 0) (.lst false (.sst (eV 0))))]
/- read_line (16): 0 part,1 words,2 config -/
noncomputable def zbY:List S:=[
 .asg (.name 1) (.lst false (.spl (eV 0) (eS [32]))),
 .ife (.or (.val (.cmp .ne (.bi .len [(eV 1)]) (eJ 6))) (.val (.cmp .notin (eX 1 5) (.glo (.tup [(.str [111,110,101]),(.str [115,111,109,101]),(.str [97,110,121])]))))) [.ret (.con .non)] [],
 .asg (.name 2) (.call 17 [(eV 1)]),
 .ret (.ife (.val (.cmp .isN (eV 2) (.con .non))) (.con .non) (.tup [(eV 2),(eX 1 5)]))]
/- read_config (17): 0 words,1 to,2 back -/
noncomputable def zbe:List S:=[
 .asg (.name 1) (.call 18 [(eX 0 2)]),
 .asg (.name 2) (.call 18 [(eX 0 3)]),
 .ife (.or (.not (.val (.call 2 [(eX 0 0)]))) (.or (.val (.cmp .notin (eX 0 1) (.glo (.tup [(.str [110,111,110,101]),(.str [108,97,115,116]),(.str [111,108,100])])))) (.val (.cmp .notin (eX 0 4) (.glo (.tup [(.str [45]),(.str [115]),(.str [111]),(.str [115,111])])))))) [.ret (.con .non)] [],
 .ife (.or (.val (.cmp .isN (eV 1) (.con .non))) (.val (.cmp .isN (eV 2) (.con .non)))) [.ret (.con .non)] [],
 .ret (.tup [(eX 0 0),(eX 0 1),(eV 1),(eV 2),(.lm .indexT (.glo (.tup [(.str [45]),(.str [115]),(.str [111]),(.str [115,111])])) (eX 0 4))])]
/- read_way (18): 0 word,1 letters,2 ?1?part,3 ?2?letter -/
noncomputable def zcM:List S:=[
 .ife (.val (.cmp .eq (eV 0) (.glo (.str [45])))) [.ret (.tup [])] [],
 .asg (.name 1) (.lst false (.comp (.name 2) (.seq (.lst false (.spl (eV 0) (eS [43])))) [] (.bi .tuple [(.lst false (.spl (eV 2) (eS [46])))]))),
 .ife (.or (.val (.cmp .gt (.bi .len [(eV 1)]) (.glo (.int 2)))) (.not (.val (.bi .all [(.lst false (.comp (.name 3) (.seq (eV 1)) [] (.call 19 [(eV 3)])))])))) [.ret (.con .non)] [],
 .ret (.bi .tuple [(eV 1)])]
/- is_letter (19): 0 letter -/
noncomputable def zbW:List S:=[
 .ret (.and (.cmp .eq (.bi .len [(eV 0)]) (eJ 2)) (.and (.call 3 [(eX 0 0)]) (.cmp .isin (eX 0 1) (.glo (.tup [(.str [98,97,114,101]),(.str [108,97,115,116]),(.str [111,108,100])])))))]
/- read_deed (20): 0 row,1 words,2 hand -/
noncomputable def zb3:List S:=[
 .asg (.name 1) (.lst false (.spl (eV 0) (eS [32]))),
 .ife (.or (.val (.cmp .lt (.bi .len [(eV 1)]) (eJ 3))) (.not (.val (.call 0 [(eX 1 1),(.glo (.int 2))])))) [.ret (.con .non)] [],
 .asg (.name 2) (.bi .int [(eX 1 1)]),
 .ife (.val (.cmp .eq (eX 1 0) (eS [97,115,107]))) [.ret (.call 21 [(eV 2),(.sli (eV 1) (eJ 2) (.con .non))])] [],
 .ife (.or (.val (.cmp .notin (eX 1 0) (.tup [(eS [116,97,107,101]),(eS [103,101,116])]))) (.val (.cmp .ne (.bi .len [(eV 1)]) (eJ 3)))) [.ret (.con .non)] [],
 .ret (.ife (.val (.call 0 [(eX 1 2),(.glo (.int 2))])) (.tup [(eX 1 0),(eV 2),(.bi .int [(eX 1 2)])]) (.con .non))]
/- read_ask (21): 0 hand,1 words -/
noncomputable def zbI:List S:=[
 .ife (.or (.val (.cmp .eq (eV 1) (.lst false (.disp [(eS [114,101,97,100])])))) (.val (.cmp .eq (eV 1) (.lst false (.disp [(eS [100,114,111,112])]))))) [.ret (.tup [(eS [97,115,107]),(eV 0),(eX 1 0)])] [],
 .ife (.and (.val (.cmp .eq (.bi .len [(eV 1)]) (eJ 2))) (.and (.val (.cmp .eq (eX 1 0) (eS [119,114,105,116,101]))) (.val (.call 1 [(eX 1 1),(.glo (.int 40))])))) [.ret (.tup [(eS [97,115,107]),(eV 0),(eS [119,114,105,116,101]),(.bi .int [(eX 1 1)])])] [],
 .ret (.con .non)]
/- _law_draw (22): 0 _law_cell -/
noncomputable def zeG:List S:=[
 .ret (.lst true (.disp [(.bin .mul (.bin .fdiv (eV 0) (eJ 2)) (.bin .sub (eJ 1) (.bin .mod (eV 0) (eJ 2)))),(eV 0)]))]
/- _law_next (23): 0 _law_draw_here,1 _law_size,2 _law_digit,3 _law_number -/
noncomputable def ze9:List S:=[
 .setI (eV 0) (eJ 1) (.bin .mod (.bin .add (.bin .mul (eX 0 1) (eJ 48271)) (eJ 11)) (eJ 2147483647)),
 .ife (.val (.cmp .gt (eX 0 0) (eJ 0))) [.asg (.name 2) (.bin .mod (eX 0 0) (eV 1)),.setI (eV 0) (eJ 0) (.bin .fdiv (eX 0 0) (eV 1)),.ret (eV 2)] [],
 .asg (.name 3) (.bin .mod (.bin .mul (eX 0 1) (.bin .add (.bin .fdiv (eX 0 1) (eJ 1009)) (eJ 69621))) (eJ 2147483647)),
 .ret (.bin .mod (.bin .mod (.bin .mul (eV 3) (.bin .add (.bin .fdiv (eV 3) (eJ 757)) (eJ 16807))) (eJ 2147483629)) (eV 1))]
/- _law_word (24): 0 _law_draw_here,1 _law_some,2 _law_word_here,3 _law_k -/
noncomputable def zeK:List S:=[
 .ife (.val (.cmp .eq (.call 23 [(eV 0),(eJ 2)]) (eJ 0))) [.asg (.name 1) (.lst false (.disp [(eS [105,100,108,101]),(eS [119,97,105,116]),(eS [109,105,110,101]),(eS [97]),(eS [110,111,110,101]),(eS [97,110,121]),(eS [101,105,103,104,116,108,101,116]),(eS [108,97,115,116]),(eS [114,101,97,100]),(eS [119,114,105,116,101]),(eS [100,114,111,112]),(eS [107,101,101,112])])),.asg (.name 1) (.bin .add (eV 1) (.lst false (.disp [(eS [115,116,97,121]),(eS [112,117,116]),(eS [116,101,108,108]),(eS [115,101,110,100]),(eS [111,110,101]),(eS [115,111,109,101]),(eS [111,108,100]),(eS [98,97,114,101]),(eS [115]),(eS [111]),(eS [115,111])]))),.ret (.idx (eV 1) (.call 23 [(eV 0),(eJ 23)]))] [],
 .asg (.name 2) (eS []),
 .for (.name 3) (.rng (.bin .add (eJ 1) (.call 23 [(eV 0),(eJ 8)]))) [.asg (.name 2) (.bin .add (eV 2) (.idx (eS [97,98,99,100,101,102,103,104,105,106,107,108,109,110,111,112,113,114,115,116,117,118,119,120,121,122]) (.call 23 [(eV 0),(eJ 26)])))],
 .ret (eV 2)]
/- _law_way (25): 0 _law_draw_here,1 _law_way_here,2 _law_k,3 _law_kind -/
noncomputable def zhC:List S:=[
 .asg (.name 1) (.lst true (.disp [])),
 .for (.name 2) (.rng (.call 23 [(eV 0),(eJ 3)])) [.asg (.name 3) (.call 24 [(eV 0)]),.ife (.val (.cmp .isin (eV 3) (.lst false (.disp [(eS [114,101,97,100]),(eS [119,114,105,116,101]),(eS [100,114,111,112])])))) [.asg (.name 3) (eS [103,101,116])] [],.exp (.me .append (eV 1) [(.tup [(eV 3),(.idx (.lst false (.disp [(eS [98,97,114,101]),(eS [108,97,115,116]),(eS [111,108,100])])) (.call 23 [(eV 0),(eJ 3)]))])])],
 .ret (.bi .tuple [(eV 1)])]
/- _law_shape (26): 0 _law_draw_here,1 _law_lines,2 _law_house,3 _law_k,4 _law_mark,5 _law_config -/
noncomputable def zdm:List S:=[
 .asg (.name 1) .dnew,
 .asg (.name 2) (.tup [(.call 24 [(eV 0)]),(.idx (.lst false (.disp [(eS [110,111,110,101]),(eS [108,97,115,116]),(eS [111,108,100])])) (.call 23 [(eV 0),(eJ 3)]))]),
 .for (.name 3) (.rng (.call 23 [(eV 0),(eJ 6)])) [.asg (.name 4) (.idx (.lst false (.disp [(eS [110,111,110,101]),(eS [108,97,115,116]),(eS [111,108,100])])) (.call 23 [(eV 0),(eJ 3)])),.asg (.name 5) (.tup [(.call 24 [(eV 0)]),(eV 4),(.call 25 [(eV 0)]),(.call 25 [(eV 0)]),(.call 23 [(eV 0),(eJ 4)])]),.setD (eV 1) (eV 5) (.idx (.lst false (.disp [(eS [111,110,101]),(eS [115,111,109,101]),(eS [97,110,121])])) (.call 23 [(eV 0),(eJ 3)]))],
 .ret (.bin .add (eV 2) (.tup [(.bi .tuple [(.lst false (.sdi (eV 1)))])]))]
/- _law_deed (27): 0 _law_draw_here,1 _law_hand,2 _law_way_here -/
noncomputable def zfA:List S:=[
 .asg (.name 1) (.call 23 [(eV 0),(.idx (.lst false (.disp [(eJ 3),(eJ 100)])) (.call 23 [(eV 0),(eJ 2)]))]),
 .asg (.name 2) (.call 23 [(eV 0),(eJ 5)]),
 .ife (.val (.cmp .eq (eV 2) (eJ 0))) [.ret (.tup [(eS [97,115,107]),(eV 1),(eS [119,114,105,116,101]),(.bin .mul (.call 23 [(eV 0),(.bin .pow (eJ 10) (eJ 40))]) (.bin .sub (eJ 1) (.bin .mul (eJ 2) (.call 23 [(eV 0),(eJ 2)]))))])] [],
 .ife (.val (.cmp .lt (eV 2) (eJ 3))) [.ret (.tup [(eS [97,115,107]),(eV 1),(.idx (.lst false (.disp [(eS [114,101,97,100]),(eS [100,114,111,112])])) (.bin .sub (eV 2) (eJ 1)))])] [],
 .ret (.tup [(.idx (.lst false (.disp [(eS [116,97,107,101]),(eS [103,101,116])])) (.bin .sub (eV 2) (eJ 3))),(eV 1),(.call 23 [(eV 0),(.idx (.lst false (.disp [(eJ 2),(eJ 100)])) (.call 23 [(eV 0),(eJ 2)]))])])]
/- _law_way_text (28): 0 _law_way_here,1 ?1?_law_kind,2 ?1?_law_mark -/
noncomputable def zby:List S:=[
 .ife (.val (.cmp .eq (eV 0) (.tup []))) [.ret (eS [45])] [],
 .ret (.tm .join (eS [43]) [(.lst false (.comp (.tup [(.name 1),(.name 2)]) (.seq (eV 0)) [] (.bin .add (.bin .add (eV 1) (eS [46])) (eV 2))))])]
/- _law_shape_text (29): 0 _law_shape_here,1 _law_text,2 _law_between,3 _law_config,4 _law_count,5 _law_words -/
noncomputable def zaS:List S:=[
 .asg (.name 1) (.bin .add (.bin .add (eX 0 0) (eS [32])) (eX 0 1)),
 .asg (.name 2) (eS [58,32]),
 .for (.tup [(.name 3),(.name 4)]) (.seq (eX 0 2)) [.asg (.name 5) (.lst false (.disp [(eX 3 0),(eX 3 1),(.call 28 [(eX 3 2)]),(.call 28 [(eX 3 3)])])),.asg (.name 5) (.bin .add (eV 5) (.lst false (.disp [(.idx (.lst false (.disp [(eS [45]),(eS [115]),(eS [111]),(eS [115,111])])) (eX 3 4)),(eV 4)]))),.asg (.name 1) (.bin .add (.bin .add (eV 1) (eV 2)) (.tm .join (eS [32]) [(eV 5)])),.asg (.name 2) (eS [59,32])],
 .ret (eV 1)]
/- law (30): 0 _law_script,1 _law_paper,2 _law_deeds,3 _law_cell,4 _law_draw_here,5 _law_text,6 _law_texts,7 _law_found,8 _law_rows,9 _law_again,10 ?1?_law_shape_here,11 ?2?_law_shape_here,12 ?3?_law_deed_here,13 ?4?_law_part -/
noncomputable def zlL:List S:=[
 .asg (.name 1) (.lst true (.disp [])),
 .asg (.name 2) (.lst true (.disp [])),
 .for (.name 3) (.seq (.sli (eV 0) (.con .non) (eJ 12))) [.asg (.name 4) (.call 22 [(eV 3)]),.exp (.me .append (eV 1) [(.call 26 [(eV 4)])]),.exp (.me .append (eV 2) [(.call 27 [(eV 4)])])],
 .asg (.name 5) (.tm .join (eS [10]) [(.lst false (.comp (.name 10) (.seq (eV 1)) [] (.call 29 [(eV 10)])))]),
 .asg (.name 6) (.lst false (.comp (.name 11) (.seq (eV 1)) [] (.call 5 [(eV 11)]))),
 .ife (.or (.val (.cmp .ne (.call 4 [(.lst false (.of (eV 1)))]) (eV 5))) (.val (.cmp .ne (eV 6) (.sli (.lst false (.spl (eV 5) (eS [10]))) (.con .non) (.bi .len [(eV 1)]))))) [.ret (.con (.bl false))] [],
 .asg (.name 7) (.call 10 [(eV 5)]),
 .ife (.or (.not (.val (.isi .list (eV 7)))) (.or (.val (.cmp .ne (eV 7) (eV 1))) (.val (.cmp .ne (.call 4 [(eV 7)]) (eV 5))))) [.ret (.con (.bl false))] [],
 .asg (.name 8) (.lst false (.comp (.name 12) (.seq (eV 2)) [] (.tm .join (eS [32]) [(.lst false (.comp (.name 13) (.seq (eV 12)) [] (.bi .str [(eV 13)])))]))),
 .ife (.val (.cmp .ne (.call 8 [(.lst false (.of (eV 2)))]) (.tm .join (eS [10]) [(eV 8)]))) [.ret (.con (.bl false))] [],
 .asg (.name 9) (.call 11 [(.tm .join (eS [10]) [(eV 8)])]),
 .ife (.or (.not (.val (.isi .list (eV 9)))) (.val (.cmp .ne (eV 9) (eV 2)))) [.ret (.con (.bl false))] [],
 .exp (.me .clear (eV 7) []),
 .exp (.me .clear (eV 9) []),
 .ife (.or (.val (.cmp .ne (.call 10 [(eV 5)]) (eV 1))) (.val (.cmp .ne (.call 11 [(.tm .join (eS [10]) [(eV 8)])]) (eV 2)))) [.ret (.con (.bl false))] [],
 .ife (.or (.val (.cmp .ne (.call 10 [(eS [])]) (.lst false (.disp [])))) (.val (.cmp .ne (.call 4 [(.lst false (.disp []))]) (eS [])))) [.ret (.con (.bl false))] [],
 .ret (.and (.cmp .eq (.call 11 [(eS [])]) (.lst false (.disp []))) (.cmp .eq (.call 8 [(.lst false (.disp []))]) (eS [])))]
noncomputable def P:List F:=[⟨2,3,zbR,false,[],false⟩,⟨2,2,zax,false,[],false⟩,⟨1,2,zdl,false,[],false⟩,⟨1,1,zd3,false,[],false⟩,⟨1,2,zaK,false,[],false⟩,⟨1,5,zbD,false,[],false⟩,⟨1,1,za8,false,[],false⟩,⟨1,2,zcQ,false,[],false⟩,⟨1,2,zbC,false,[],false⟩,⟨1,2,zeX,false,[],false⟩,⟨1,2,zbE,true,[],false⟩,⟨1,2,zbo,true,[],false⟩,⟨1,1,zd4,false,[],false⟩,⟨1,1,zcD,true,[],false⟩,⟨1,6,zaN,false,[],false⟩,⟨1,1,zaU,false,[],false⟩,⟨1,3,zbY,false,[],false⟩,⟨1,3,zbe,false,[],false⟩,⟨1,4,zcM,false,[],false⟩,⟨1,1,zbW,false,[],false⟩,⟨1,3,zb3,false,[],false⟩,⟨2,2,zbI,false,[],false⟩,⟨1,1,zeG,true,[],false⟩,⟨2,4,ze9,false,[],false⟩,⟨1,4,zeK,false,[],false⟩,⟨1,4,zhC,false,[],false⟩,⟨1,6,zdm,false,[],false⟩,⟨1,3,zfA,false,[],false⟩,⟨1,3,zby,false,[],false⟩,⟨1,6,zaS,false,[],false⟩,⟨1,14,zlL,false,[],false⟩]
variable {Q:R->Sto->Prop}
noncomputable abbrev W:=List Nat
theorem zoL {c:Nat} {y r:W} (h:c ∉ r):(c::y).isPrefixOf r=false:=by
 cases r with
 | nil=>rfl
 | cons d r=>
  have:(c==d)=false:=by simp;rintro rfl;exact h List.mem_cons_self
  simp [List.isPrefixOf,this]
theorem fnd_none {c:Nat} {y:W}:∀ {x:W},c ∉ x->fnd (c::y) x=none
 | [],_=>rfl
 | d::x,h=>by
  rw [fnd,zoL h,fnd_none λq=>h (List.mem_cons_of_mem _ q)];rfl
theorem zkT {c:Nat} {y r:W}:∀ {x:W},c ∉ x->fnd (c::y) (x++((c::y)++r))=some x.length
 | [],_=>by
  show fnd (c::y) (c::(y++r))=some 0
  have:(c::y).isPrefixOf (c::(y++r))=true:=by
   rw [List.isPrefixOf_iff_prefix];exact ⟨r,rfl⟩
  rw [fnd,this];rfl
 | d::x,h=>by
  have hd:(c==d)=false:=by simp;rintro rfl;exact h List.mem_cons_self
  have e:(c::y).isPrefixOf (d::(x++((c::y)++r)))=false:=by simp [List.isPrefixOf,hd]
  show fnd (c::y) (d::(x++((c::y)++r)))=_;rw [fnd,e,zkT λq=>h (List.mem_cons_of_mem _ q)];rfl
theorem zbc {z x:W} {y:W} {l:List W}:catS z (x::y::l)=x++(z++catS z (y::l)):=by
 simp [catS]
theorem zkP {c:Nat} {y:W}:∀ (l:List W) (x:W) (n:Nat),(∀ w∈x::l,c ∉ w)->l.length<=n->splS (c::y) n (catS (c::y) (x::l))=x::l
 | [],x,n,h,_=>by
  have e:catS (c::y) [x]=x:=by simp [catS]
  rw [e]
  cases n with
  | zero=>rfl
  | succ n=>rw [splS,fnd_none (h x List.mem_cons_self)]
 | x'::l,x,n,h,hn=>by
  cases n with
  | zero=>simp at hn
  | succ n=>
   rw [zbc,splS,zkT (h x List.mem_cons_self)];simp only;rw [List.take_left,<-List.append_assoc,show x.length+(c::y).length=(x++(c::y)).length by simp,List.drop_left,zkP l x' n (λw hw=>h w (List.mem_cons_of_mem _ hw)) (by simpa using hn)]
theorem cat_len {z:W}:∀ (l:List W) (x:W),l.length<=(catS z (x::l)).length+0\/z=[]
 | [],x=>.inl (by simp)
 | y :: l,x=>by
  rcases cat_len (z:=z) l y with h | h
  ·by_cases hz:z=[]
   ·exact .inr hz
   ·refine .inl ?_
    rw [zbc,List.length_append,List.length_append,List.length_cons]
    have:0<z.length:=List.length_pos_iff.mpr hz
    omega
  ·exact .inr h
theorem zht (c:Nat):∀ l:W,(fnd [c] l).isSome=l.contains c
 | []=>rfl
 | d::l=>by
  have e:[c].isPrefixOf (d::l)=(c==d):=by simp [List.isPrefixOf]
  rw [fnd,e]
  by_cases h:c=d
  ·subst h;simp
  ·have hb:(c==d)=false:=by simpa using h
   rw [hb];have ih:=zht c l;simp only [Bool.false_eq_true,if_false]
   cases hf:fnd [c] l with
   | none=>rw [hf] at ih;simp only [Option.isSome_none] at ih ⊢;simp [h,<-ih];simpa using ih.symm
   | some i=>rw [hf] at ih;simp only [Option.isSome_some] at ih ⊢;simp [h];simpa using ih.symm
noncomputable abbrev abc:W:=[97,98,99,100,101,102,103,104,105,106,107,108,109,110,111,112,113,114,115,116,117,118,119,120,121,122]
noncomputable def low (c:Nat):Bool:=abc.contains c
structure Wd (w:W):Prop where
 pos:1<=w.length
 most:w.length<=8
 low:∀ c∈w,low c=true
theorem zqd {c:Nat} (h:low c=true):97<=c/\c<=122:=by
 unfold low at h;rw [List.contains_iff_mem] at h;simp only [abc,List.mem_cons,List.not_mem_nil,or_false] at h;omega
theorem Wd.no {w:W} (h:Wd w) {c:Nat} (hc:c<97):c ∉ w:=λq=>by
 have:=zqd (h.low c q)
 omega
theorem zaL {n:Nat} (h:n<=16777216):fit n=true:=by
 unfold fit big;exact decide_eq_true h
variable {Q:R->Sto->Prop}
theorem zkI {α β:Type} {g:α->β}:∀ xs:List α,xs.filterMap (λx=>some (g x))=xs.map g
 | []=>rfl
 | x::xs=>by rw [List.filterMap_cons,List.map_cons,zkI xs]
theorem zal {α:Type} {l:Option Nat} {f:Ite->M (Option D)} {dD:α->D} {g:α->D} {h:Sto} {xs:List α} {Q:List D->Sto->Prop} (e:∀ x∈xs,Ok (f (dI (dD x)) h) λo h1=>o=some (g x)/\h1=h) (s:zaC l h h=true) (q:Q (xs.map g) h):Ok (turns l f ((xs.map dD).map dI) h) Q:=by
 rw [List.map_map];refine zhf (d:=dI∘dD) (g:=λx=>some (g x)) e s ?_;rw [zkI];exact q
theorem zdu {α:Type} {f:α->Bool}:∀ l:List α,zav (l.map λx=>D.bl (f x))=some (l.map f)
 | []=>rfl
 | x::l=>by rw [List.map_cons,zav,zdu l];rfl
theorem zjr {α:Type} {f:α->Bool} {l:List α}:biD .all [.lst (l.map λx=>D.bl (f x))]=some (.bl (l.all f)):=by
 show (match zav (l.map λx=>D.bl (f x)) with | some bs=>some (D.bl (bs.all id)) | none=>none)=_;rw [zdu];simp [List.all_map]
theorem lenS {w:W} (h:w.length<=16777216):biD .len [.str w]=some (.int w.length):=if_pos (zaL h)
theorem zb1 (n:Nat) {h:Sto} {w:W} (hw:Wd w) (k:Q (.d (.bl true)) h):Ok (zai P (n+1) 2 [.d (.str w)] h) Q:=by
 have h1:=hw.pos;have h2:=hw.most;refine cl (F:=⟨1,2,zdl,false,[],false⟩) rfl rfl rfl ?_;ac_rfl;refine st (lenS (by omega)) ?_;ac_rfl;refine bf (decide_eq_false (by omega)) ?_;ac_rfl;refine st (lenS (by omega)) ?_;ac_rfl;refine bf (decide_eq_false (by omega)) ?_;ac_rfl;refine bt (zaL (by omega)) ?_;ac_rfl;refine ask (zal (dD:=λc=>D.str [c]) (g:=λc=>D.bl (low c)) (λc hc=>?_) zag ?_)
 ·refine gc ?_
  ac_rfl
  exact ⟨by rw [zht];rfl,rfl⟩
 ·ac_rfl
  refine st zjr ?_;ac_rfl;rw [List.all_eq_true.mpr hw.low];exact f0 k
noncomputable abbrev zi9:W:=[114,101,97,100]
noncomputable abbrev zjK:W:=[119,114,105,116,101]
noncomputable abbrev ziR:W:=[100,114,111,112]
noncomputable abbrev asks:List W:=[zi9,zjK,ziR]
noncomputable abbrev zrM:W:=[110,111,110,101]
noncomputable abbrev kany:W:=[97,110,121]
noncomputable abbrev zrv:W:=[108,97,115,116]
noncomputable abbrev zsk:W:=[98,97,114,101]
theorem eqbS (a b:W):(D.str a).eqb (.str b)=(a==b):=rfl
theorem anyS {a:W}:∀ l:List W,((l.map D.str).any λy=>y.eqb (.str a))=l.contains a
 | []=>rfl
 | b::l=>by
  rw [List.map_cons,List.any_cons,anyS l,List.contains_cons,eqbS]
  congr 1
  rw [Bool.eq_iff_iff];simp only [beq_iff_eq];exact eq_comm
structure Kd (w:W):Prop extends Wd w where
 no:asks.contains w=false
theorem zhj (n:Nat) {h:Sto} {w:W} (hw:Kd w) (k:Q (.d (.bl true)) h):Ok (zai P (n+2) 3 [.d (.str w)] h) Q:=by
 refine cl (F:=⟨1,1,zd3,false,[],false⟩) rfl rfl rfl ?_;ac_rfl;refine ask (zb1 n hw.toWd ?_);ac_rfl
 have e:(List.map D.str asks).any (λy=>y.eqb (.str w))=false:=by rw [anyS];exact hw.no
 refine f0 ?_
 have e2:(!(List.map D.str asks).any λy=>y.eqb (.str w))=true:=by rw [e];rfl
 exact e2▸k
variable {Q:R->Sto->Prop}
theorem zku {α:Type} {f:α->Nat} {B:Nat}:∀ l:List α,(∀ x∈l,f x<=B)->(l.map f).sum<=l.length*B
 | [],_=>by simp
 | x::l,h=>by
  rw [List.map_cons,List.sum_cons,List.length_cons,Nat.succ_mul]
  have:=zku l λy hy=>h y (List.mem_cons_of_mem _ hy)
  have:=h x List.mem_cons_self
  omega
theorem zbs {z:W} {B:Nat}:∀ l:List W,(∀ x∈l,x.length<=B)->(catS z l).length<=l.length*(B+z.length)
 | [],_=>by simp [catS]
 | [x],h=>by
  have:=h x List.mem_cons_self
  simp [catS];omega
 | x::y::l,h=>by
  have ih:=zbs (z:=z) (y::l) λw hw=>h w (List.mem_cons_of_mem _ hw)
  have:=h x List.mem_cons_self
  rw [zbc,List.length_append,List.length_append,List.length_cons,Nat.succ_mul];omega
theorem zsz {z:W} {l:List W} (B:Nat) (hl:∀ x∈l,x.length<=B) (hb:l.length*(B+z.length)<=16777216):tmD .join (.str z) [.tup (l.map D.str)]=some (.str (catS z l)):=
 zmk (zfv l) (zaL (Nat.le_trans (zku l λx hx=>Nat.add_le_add_right (hl x hx) _) hb))
theorem zdI {z:W} {l:List W} (B:Nat) (hl:∀ x∈l,x.length<=B) (hb:l.length*(B+z.length)<=16777216):tmD .join (.str z) [.lst (l.map D.str)]=some (.str (catS z l)):=
 zlT (zfv l) (zaL (Nat.le_trans (zku l λx hx=>Nat.add_le_add_right (hl x hx) _) hb))
theorem addS {a b:W} (h:a.length+b.length<=16777216):bop .add (.str a) (.str b)=some (.str (a++b)):=if_pos (zaL h)
theorem splJ {c:Nat} {y x:W} {l:List W} (h:∀ w∈x::l,c ∉ w) (hb:(catS (c::y) (x::l)).length<=1000000):splD (.str (catS (c::y) (x::l))) (.str (c::y))=some ((x::l).map D.str):=by
 have hl:l.length<=(catS (c::y) (x::l)).length:=by
  rcases cat_len (z:=c::y) l x with h | h
  ·simpa using h
  ·cases h
 have e:=zkP (y:=y) l x _ h hl
 rw [zl9 (by simp) (zaL (by omega)) (by rw [e];exact zaL (by rw [List.length_cons];omega)),e]
theorem zbw {c:Nat} {z:W} (hz:c ∉ z):∀ l:List W,(∀ w∈l,c ∉ w)->c ∉ catS z l
 | [],_=>by simp [catS]
 | [x],h=>by have:=h x List.mem_cons_self;simpa [catS] using this
 | x::y::l,h=>by
  rw [zbc];intro q
  rcases List.mem_append.mp q with q | q
  ·exact h x List.mem_cons_self q
  ·rcases List.mem_append.mp q with q | q
   ·exact hz q
   ·exact zbw hz (y::l) (λw hw=>h w (List.mem_cons_of_mem _ hw)) q
theorem zkt {x:W} (h:58 ∉ x) (hb:x.length<=1000000):tmD .parti (.str x) [.str [58,32]]=some (.tup [.str x,.str [],.str []]):=by
 rw [zih (by decide) (zaL (by omega)),fnd_none h]
theorem zjo {x r:W} (h:58 ∉ x) (hb:(x++[58,32]++r).length<=1000000):tmD .parti (.str (x++[58,32]++r)) [.str [58,32]]=some (.tup [.str x,.str [58,32],.str r]):=by
 rw [zih (by decide) (zaL (by omega)),List.append_assoc,zkT h];simp only;rw [List.take_left,<-List.append_assoc,show x.length+[58,32].length=(x++[58,32]).length by simp,List.drop_left]
theorem len1 {h:Sto} {o:Ob}:(h++[o]).length=h.length+1:=by simp
theorem app1 {h t:Sto} {o:Ob}:h++[o]++t=h++o::t:=by simp
theorem zrV {h t:Sto} {xs ys:List D}:objs (h++.lst xs::t) (h++.lst ys::t)=true:=by
 have:=zmh (h:=h++.lst xs::t) (l:=h.length) (xs:=xs) (ys:=ys) zah
 rwa [zbu] at this
theorem f1 {k:Bool} {x:D} {xs ys:List D} {h t:Sto} {Q:R->Sto->Prop} (q:Q (.d x) (h++.lst ys::t)):Ok (fin (h++.lst xs::t) false k (.d x) (h++.lst ys::t)) Q:=fd zrV (by rw [List.take_of_length_le (by simp)];exact q)
theorem zp7 {h t:Sto} {xs ys:List D}:objs (h++[Ob.lst xs]) (h++.lst ys::t)=true:=by
 have e:=zcj (h:=h++[Ob.lst xs]) (t:=t) (l:=h.length) (xs:=xs) (ys:=ys) zah
 rwa [zbu,app1] at e
theorem f2 {k:Bool} {x:D} {xs ys:List D} {h t:Sto} {Q:R->Sto->Prop} (q:Q (.d x) (h++[.lst ys])):Ok (fin (h++[.lst xs]) false k (.d x) (h++.lst ys::t)) Q:=by
 refine fd zp7 ?_;rw [len1,<-app1,List.take_left' (by simp)];exact q
theorem f3 {xs ys zs:List D} {h t:Sto} {Q:R->Sto->Prop} (q:Q (.d (.lst zs)) (h++[.lst ys])):Ok (fin (h++[.lst xs]) false false (.loc (h.length+1)) (h++.lst ys::.lst zs::t)) Q:=by
 simp only [fin,Bool.false_eq_true,if_false,zp7,if_true,fin0];rw [len1,if_neg (by omega),zfp];simp only [ok_some'];rw [<-app1,List.take_left' (by simp)];exact q
theorem md (x:Int) {m:Int} (h:0<m):0<=x % m/\x % m<m:=⟨Int.emod_nonneg _ (by omega),Int.emod_lt_of_pos _ h⟩
theorem bmul (x:Int) {c:Int} (h1:-(2 ^ 64)<c) (h2:c<2 ^ 64):bop .mul (.int x) (.int c)=some (.int (x*c)):=zpi (by rw [zlS h1 h2];simp)
theorem bfd {a z:Int} (z0:0<z) (z1:z<wide):bop .fdiv (.int a) (.int z)=some (.int (a / z)):=by
 show (if (decide (0<z)&&decide (z<wide))=true then some (D.int (a / z)) else none)=_;rw [if_pos (by simp [z0,z1])]
variable {Q:R->Sto->Prop}
noncomputable abbrev Lm:=W×W
noncomputable def lmD (p:Lm):D:=.tup [.str p.1,.str p.2]
noncomputable def mwD (w:List Lm):D:=.tup (w.map lmD)
structure Cf where
 st:W
 mark:W
 to:List Lm
 back:List Lm
 fl:Int
 deriving DecidableEq
noncomputable def cfD (c:Cf):D:=.tup [.str c.st,.str c.mark,mwD c.to,mwD c.back,.int c.fl]
theorem deps_le {n:Nat}:∀ {xs:List D},(∀ x∈xs,x.dep<=n)->D.deps xs<=n
 | [],_=>by simp [D.deps]
 | x::r,h=>by
  have h1:=h x List.mem_cons_self;have h2:=deps_le λy hy=>h y (List.mem_cons_of_mem x hy)
  simp only [D.deps];omega
theorem zhx:∀ {xs ys:List Lm},xs.map lmD=ys.map lmD->xs=ys
  | [],[],_=>rfl
  | [],_::_,e=>by simp at e
  | _::_,[],e=>by simp at e
  | (a,b)::xs,(c,d)::ys,e=>by
    simp only [List.map_cons,List.cons.injEq,lmD,D.tup.injEq,D.str.injEq,and_true] at e;obtain ⟨⟨rfl,rfl⟩,e⟩:=e;rw [zhx e]
theorem zdn {a b:Cf} (e:cfD a=cfD b):a=b:=by
 obtain ⟨s,m,t,u,f⟩:=a;obtain ⟨s',m',t',u',f'⟩:=b;simp only [cfD,mwD,D.tup.injEq,List.cons.injEq,D.str.injEq,D.int.injEq,and_true] at e;obtain ⟨rfl,rfl,e1,e2,rfl⟩:=e;rw [zhx e1,zhx e2]
theorem zdf {x y:D}:x.same y=true↔x=y:=⟨D.same_eq x y,λe=>e▸D.same_refl x⟩
theorem zor (a b:Cf):(cfD a).same (cfD b)=decide (a=b):=by
 by_cases e:a=b
 ·subst e;rw [D.same_refl,decide_eq_true rfl]
 ·rw [decide_eq_false e]
  cases h:(cfD a).same (cfD b)
  ·rfl
  ·exact absurd (zdn (zdf.mp h)) e
theorem znn:∀ xs:List Lm,D.hks (xs.map lmD)=true
 | []=>rfl
 | p::xs=>by simp [D.hks,D.hk,lmD,znn xs]
theorem zeN (xs:List Lm):D.deps (xs.map lmD)<=1:=by
 refine deps_le λx hx=>?_;obtain ⟨p,_,rfl⟩:=List.mem_map.mp hx;simp [lmD,D.dep,D.deps]
theorem zhE (c:Cf):zaq (cfD c)=true:=by
 have h1:=zeN c.to;have h2:=zeN c.back;simp only [cfD,zaq,mwD,D.hks,D.hk,znn,Bool.and_true,Bool.true_and,D.deps,D.dep];exact decide_eq_true (by omega)
theorem zkF (c:Cf):(cfD c).dep<=3:=by
 have h1:=zeN c.to;have h2:=zeN c.back;simp only [cfD,mwD,D.dep,D.deps];omega
noncomputable abbrev Ct:=W
noncomputable def ctS (t:Ct):List Nat:=t
noncomputable abbrev KV:=List (Cf×Ct)
noncomputable def look (c:Cf):KV->Option Ct
 | []=>none
 | p::r=>if p.1=c then some p.2 else look c r
noncomputable def put (c:Cf) (t:Ct):KV->KV
 | []=>[(c,t)]
 | p::r=>if p.1=c then (p.1,t)::r else p::put c t r
noncomputable def kvD (l:KV):List (D×D):=l.map λp=>(cfD p.1,.str (ctS p.2))
noncomputable def prD (p:Cf×Ct):D:=.tup [cfD p.1,.str (ctS p.2)]
noncomputable def lnsD (l:KV):D:=.tup (l.map prD)
theorem zla (c:Cf) (t:Ct):∀ l:KV,dPut (cfD c) (.str (ctS t)) (kvD l)=kvD (put c t l)
 | []=>rfl
 | p::r=>by
  show (if (cfD p.1).same (cfD c)=true then (cfD p.1,D.str (ctS t))::kvD r else (cfD p.1,D.str (ctS p.2))::dPut (cfD c) (.str (ctS t)) (kvD r))=_;rw [zor,zla c t r,put]
  by_cases e:p.1=c<;>simp [e,kvD]
noncomputable abbrev Nk (l:KV):Prop:=(l.map Prod.fst).Nodup
theorem zg8:∀ {l:KV},Nk l->(c,t)∈l->look c l=some t
 | [],_,h=>by simp at h
 | p::r,n,h=>by
  rw [Nk,List.map_cons,List.nodup_cons] at n;rw [look]
  rcases List.mem_cons.mp h with rfl | h
  ·rw [if_pos rfl]
  ·have hm:c∈r.map Prod.fst:=List.mem_map.mpr ⟨(c,t),h,rfl⟩
   rw [if_neg λe:p.1=c=>n.1 (by rw [e];exact hm)]
   exact zg8 n.2 h
theorem zlj:∀ {l:KV},c ∉ l.map Prod.fst->put c t l=l++[(c,t)]
 | [],_=>rfl
 | p::r,h=>by
  rw [List.map_cons,List.mem_cons,not_or] at h
  rw [put,if_neg λe=>h.1 e.symm,zlj h.2];rfl
theorem zhF:∀ {l:KV},c∈l.map Prod.fst->(put c t l).map Prod.fst=l.map Prod.fst
 | [],h=>by simp at h
 | p::r,h=>by
  rw [put]
  by_cases e:p.1=c
  ·rw [if_pos e];rfl
  ·rw [if_neg e,List.map_cons,List.map_cons,zhF]
   rcases List.mem_cons.mp h with h | h
   ·exact absurd h.symm e
   ·exact h
theorem zrw {l:KV} (n:Nk l):Nk (put c t l):=by
 by_cases h:c∈l.map Prod.fst
 ·rw [Nk,zhF h];exact n
 ·rw [Nk,zlj h,List.map_append,List.nodup_append]
  refine ⟨n,by simp,?_⟩;intro a ha b hb;simp at hb;subst hb;exact λe=>h (e▸ha)
theorem zkq:∀ {l:KV},(put c t l).length<=l.length+1
 | []=>by simp [put]
 | p::r=>by
  have:=zkq (c:=c) (t:=t) (l:=r)
  rw [put]
  split<;>simp<;>omega
theorem zjF:∀ a:List Nat,ltS a a=false
 | []=>rfl
 | x::r=>by simp [ltS,zjF r]
theorem zlt:∀ {a b c:List Nat},ltS a b=true->ltS b c=true->ltS a c=true
 | [],[],_,h,_=>by simp [ltS] at h
 | [],_::_,[],_,h=>by simp [ltS] at h
 | [],_::_,_::_,_,_=>by simp [ltS]
 | _::_,[],_,h,_=>by simp [ltS] at h
 | _::_,_::_,[],_,h=>by simp [ltS] at h
 | x :: a,y::b,z::c,h1,h2=>by
  simp only [ltS] at h1 h2 ⊢
  by_cases e1:x=y
  ·subst e1
   rw [if_pos rfl] at h1
   by_cases e2:x=z
   ·rw [if_pos e2] at h2 ⊢;exact zlt h1 h2
   ·rw [if_neg e2] at h2 ⊢;exact h2
  ·rw [if_neg e1] at h1
   have h1:=of_decide_eq_true h1
   by_cases e2:y=z
   ·subst e2;rw [if_neg e1];exact decide_eq_true h1
   ·rw [if_neg e2] at h2
    have h2:=of_decide_eq_true h2
    rw [if_neg (by omega)];exact decide_eq_true (by omega)
theorem zlH:∀ {a b:List Nat},ltS a b=false->ltS b a=false->a=b
 | [],[],_,_=>rfl
 | [],_::_,h,_=>by simp [ltS] at h
 | _::_,[],_,h=>by simp [ltS] at h
 | x::a,y::b,h1,h2=>by
  simp only [ltS] at h1 h2
  by_cases e:x=y
  ·subst e
   rw [if_pos rfl] at h1 h2;rw [zlH h1 h2]
  ·rw [if_neg e] at h1
   rw [if_neg λh=>e h.symm] at h2;have h1:=of_decide_eq_false h1;have h2:=of_decide_eq_false h2;omega
structure STO {α:Type} (C:α->Prop) (lt:α->α->Option Bool):Prop where
 dfn:∀ a b,C a->C b->∃ t,lt a b=some t
 irr:∀ a,C a->lt a a=some false
 tra:∀ a b c,C a->C b->C c->lt a b=some true->lt b c=some true->lt a c=some true
 tri:∀ a b,C a->C b->lt a b=some false->lt b a=some false->a=b
theorem zdH:STO (λd=>∃ x,d=D.str x) D.lt where
 dfn:=by rintro _ _ ⟨x,rfl⟩ ⟨y,rfl⟩;exact ⟨_,rfl⟩
 irr:=by rintro _ ⟨x,rfl⟩;exact congrArg some (zjF x)
 tra:=by rintro _ _ _ ⟨x,rfl⟩ ⟨y,rfl⟩ ⟨z,rfl⟩ h1 h2;exact congrArg some (zlt (Option.some.inj h1) (Option.some.inj h2))
 tri:=by rintro _ _ ⟨x,rfl⟩ ⟨y,rfl⟩ h1 h2;rw [zlH (Option.some.inj h1) (Option.some.inj h2)]
theorem zoC:STO (λd=>∃ x,d=D.int x) D.lt where
 dfn:=by rintro _ _ ⟨x,rfl⟩ ⟨y,rfl⟩;exact ⟨_,rfl⟩
 irr:=by rintro _ ⟨x,rfl⟩;show some (decide (x<x))=_;simp
 tra:=by
  rintro _ _ _ ⟨x,rfl⟩ ⟨y,rfl⟩ ⟨z,rfl⟩ h1 h2
  have h1:=of_decide_eq_true (Option.some.inj h1);have h2:=of_decide_eq_true (Option.some.inj h2);exact congrArg some (decide_eq_true (by omega))
 tri:=by
  rintro _ _ ⟨x,rfl⟩ ⟨y,rfl⟩ h1 h2
  have h1:=of_decide_eq_false (Option.some.inj h1);have h2:=of_decide_eq_false (Option.some.inj h2);rw [show x=y by omega]
noncomputable def Fits (Ps:Nat->D->Prop) (xs:List D):Prop:=∀ i x,xs[i]?=some x->Ps i x
theorem Fits.hd (h:Fits Ps (x::xs)):Ps 0 x:=h 0 x rfl
theorem Fits.tl (h:Fits Ps (x::xs)):Fits (λi=>Ps (i+1)) xs:=λi y e=>h (i+1) y (by simpa using e)
theorem zis (a b:D) (r t:List D):D.lts (a::r) (b::t)=if D.same a b then D.lts r t else D.lt a b:=by rw [D.lts]
theorem zf2 (a:D) (r t:List D):D.lts (a::r) (a::t)=D.lts r t:=by rw [zis,D.same_refl,if_pos rfl]
theorem zcv {a b:D} (e:a≠b) (r t:List D):D.lts (a::r) (b::t)=D.lt a b:=by
 rw [zis,if_neg λh=>e (zdf.mp h)]
theorem zkG:D.lts [] []=some false:=by rw [D.lts]
theorem zhW (b:D) (t:List D):D.lts [] (b::t)=some true:=by rw [D.lts];simp
theorem zil (b:D) (t:List D):D.lts (b::t) []=some false:=by rw [D.lts]
theorem zja:∀ (xs ys:List D) (Ps:Nat->D->Prop),(∀ i,STO (Ps i) D.lt)->Fits Ps xs->Fits Ps ys->∃ t,D.lts xs ys=some t
 | [],[],_,_,_,_=>⟨_,zkG⟩
 | [],_::_,_,_,_,_=>⟨_,zhW _ _⟩
 | _::_,[],_,_,_,_=>⟨_,zil _ _⟩
 | a::r,b::t,Ps,S,hx,hy=>by
  by_cases e:a=b
  ·subst e;rw [zf2];exact zja r t _ (λi=>S (i+1)) hx.tl hy.tl
  ·rw [zcv e];exact (S 0).dfn a b hx.hd hy.hd
theorem zjc:∀ xs:List D,D.lts xs xs=some false
 | []=>zkG
 | a::r=>by rw [zf2];exact zjc r
theorem zjL:∀ (xs ys zs:List D) (Ps:Nat->D->Prop),(∀ i,STO (Ps i) D.lt)->Fits Ps xs->Fits Ps ys->Fits Ps zs->D.lts xs ys=some true->D.lts ys zs=some true->D.lts xs zs=some true
 | [],[],_,_,_,_,_,_,h,_=>by rw [zkG] at h;cases h
 | [],_::_,[],_,_,_,_,_,_,h=>by rw [zil] at h;cases h
 | [],_::_,_::_,_,_,_,_,_,_,_=>zhW _ _
 | _::_,[],_,_,_,_,_,_,h,_=>by rw [zil] at h;cases h
 | _::_,_::_,[],_,_,_,_,_,_,h=>by rw [zil] at h;cases h
 | a :: r,b::t,c::u,Ps,S,hx,hy,hz,h1,h2=>by
  by_cases e1:a=b
  ·subst e1
   rw [zf2] at h1
   by_cases e2:a=c
   ·subst e2
    rw [zf2] at h2 ⊢;exact zjL r t u _ (λi=>S (i+1)) hx.tl hy.tl hz.tl h1 h2
   ·rw [zcv e2] at h2 ⊢;exact h2
  ·rw [zcv e1] at h1
   by_cases e2:b=c
   ·subst e2;rw [zcv e1];exact h1
   ·rw [zcv e2] at h2
    have h3:=(S 0).tra a b c hx.hd hy.hd hz.hd h1 h2
    have e3:a≠c:=by
     rintro rfl
     rw [(S 0).irr a hx.hd] at h3;cases h3
    rw [zcv e3];exact h3
theorem zjq:∀ (xs ys:List D) (Ps:Nat->D->Prop),(∀ i,STO (Ps i) D.lt)->Fits Ps xs->Fits Ps ys->D.lts xs ys=some false->D.lts ys xs=some false->xs=ys
 | [],[],_,_,_,_,_,_=>rfl
 | [],_::_,_,_,_,_,h,_=>by rw [zhW] at h;cases h
 | _::_,[],_,_,_,_,_,h=>by rw [zhW] at h;cases h
 | a::r,b::t,Ps,S,hx,hy,h1,h2=>by
  by_cases e:a=b
  ·subst e
   rw [zf2] at h1 h2;rw [zjq r t _ (λi=>S (i+1)) hx.tl hy.tl h1 h2]
  ·rw [zcv e] at h1
   rw [zcv λh=>e h.symm] at h2;exact absurd ((S 0).tri a b hx.hd hy.hd h1 h2) e
theorem zfM (xs ys:List D):D.lt (.tup xs) (.tup ys)=D.lts xs ys:=by rw [D.lt]
theorem zcH (S:∀ i,STO (Ps i) D.lt):STO (λd=>∃ xs,d=D.tup xs/\Fits Ps xs) D.lt where
 dfn:=by rintro _ _ ⟨x,rfl,hx⟩ ⟨y,rfl,hy⟩;rw [zfM];exact zja x y Ps S hx hy
 irr:=by rintro _ ⟨x,rfl,_⟩;rw [zfM];exact zjc x
 tra:=by rintro _ _ _ ⟨x,rfl,hx⟩ ⟨y,rfl,hy⟩ ⟨z,rfl,hz⟩;simp only [zfM];exact zjL x y z Ps S hx hy hz
 tri:=by rintro _ _ ⟨x,rfl,hx⟩ ⟨y,rfl,hy⟩ h1 h2;rw [zfM] at h1 h2;rw [zjq x y Ps S hx hy h1 h2]
noncomputable def zna (d:D):Prop:=∃ x,d=D.str x
noncomputable def isInt (d:D):Prop:=∃ x,d=D.int x
noncomputable def zos (d:D):Prop:=∃ xs,d=D.tup xs/\Fits (λ_ d=>∃ xs,d=D.tup xs/\Fits (λ_=>zna) xs) xs
noncomputable def cfP:Nat->D->Prop
 | 0=>zna
 | 1=>zna
 | 2=>zos
 | 3=>zos
 | _=>isInt
theorem zot:∀ i,STO (cfP i) D.lt
 | 0=>zdH
 | 1=>zdH
 | 2=>zcH λ_=>zcH λ_=>zdH
 | 3=>zcH λ_=>zcH λ_=>zdH
 | _+4=>zoC
theorem zir (w:List Lm):zos (mwD w):=by
 refine ⟨_,rfl,λi x e=>?_⟩;rw [List.getElem?_map] at e
 cases q:w[i]? with
 | none=>rw [q] at e;simp at e
 | some p=>
  rw [q] at e;simp at e;refine ⟨_,e.symm,λj y e2=>?_⟩
  match j,e2 with
  | 0,e2=>simp at e2;exact ⟨_,e2.symm⟩
  | 1,e2=>simp at e2;exact ⟨_,e2.symm⟩
  | _+2,e2=>simp at e2
noncomputable def isCf (d:D):Prop:=∃ xs,d=D.tup xs/\Fits cfP xs
theorem zkg (c:Cf):isCf (cfD c):=by
 refine ⟨_,rfl,λi x e=>?_⟩
 match i,e with
 | 0,e=>simp at e;exact ⟨_,e.symm⟩
 | 1,e=>simp at e;exact ⟨_,e.symm⟩
 | 2,e=>simp at e;rw [<-e];exact zir _
 | 3,e=>simp at e;rw [<-e];exact zir _
 | 4,e=>simp at e;exact ⟨_,e.symm⟩
 | _+5,e=>simp at e
theorem znu:STO isCf D.lt:=zcH zot
noncomputable def prP:Nat->D->Prop
 | 0=>isCf
 | _=>zna
theorem zrp:STO (λd=>∃ xs,d=D.tup xs/\Fits prP xs) D.lt:=zcH λi=>match i with
 | 0=>znu
 | _+1=>zdH
theorem znI (p:Cf×Ct):∃ xs,prD p=D.tup xs/\Fits prP xs:=by
 refine ⟨_,rfl,λi x e=>?_⟩
 match i,e with
 | 0,e=>simp at e;rw [<-e];exact zkg _
 | 1,e=>simp at e;exact ⟨_,e.symm⟩
 | _+2,e=>simp at e
theorem zgy (e:D.lt a b=some t):ltT a b=t:=by unfold ltT;rw [e]
theorem zfJ {α:Type} {p q:α->Bool} {x:α}:∀ {l:List α},(∀ z∈l,p z=true->q z=true)->x∈l->p x=false->q x=true->l.countP p<l.countP q
 | [],_,h,_,_=>by simp at h
 | y::l,hs,hx,h1,h2=>by
  have le:l.countP p<=l.countP q:=List.countP_mono_left λz hz=>hs z (List.mem_cons_of_mem _ hz);rw [List.countP_cons,List.countP_cons]
  rcases List.mem_cons.mp hx with rfl | hx
  ·rw [h1,h2];simp;omega
  ·have:=zfJ (λz hz=>hs z (List.mem_cons_of_mem _ hz)) hx h1 h2
   have hy:=hs y List.mem_cons_self;generalize p y=py at hy;generalize q y=qy at hy
   cases py with
   | true=>rw [hy rfl];simp;omega
   | false=>cases qy<;>simp<;>omega
theorem zqa {C:D->Prop} (S:STO C D.lt) {xs:List D} (h:∀ x∈xs,C x):rkOk xs=true:=by
 have mono:∀ {x y:D},x∈xs->y∈xs->D.lt x y=some true->rnk xs x<rnk xs y:=by
  intro x y hx hy e;refine zfJ (x:=x) (λz hz q=>?_) hx (zgy (S.irr x (h x hx))) (zgy e);obtain ⟨t,et⟩:=S.dfn z x (h z hz) (h x hx);rw [zgy et] at q;subst q;exact zgy (S.tra z x y (h z hz) (h x hx) (h y hy) et e)
 rw [rkOk,List.all_eq_true];intro x hx;rw [List.all_eq_true];intro y hy;obtain ⟨t,et⟩:=S.dfn x y (h x hx) (h y hy);rw [et,zgy et];simp only [Option.isSome_some,Bool.true_and,beq_iff_eq]
 cases t with
 | true=>exact (decide_eq_true (mono hx hy et)).symm
 | false=>
  refine (decide_eq_false ?_).symm;obtain ⟨u,eu⟩:=S.dfn y x (h y hy) (h x hx)
  cases u with
  | true=>have:=mono hy hx eu;omega
  | false=>rw [S.tri x y (h x hx) (h y hy) et eu];omega
theorem zeH:∀ {xs:List D},xs.Nodup->apart xs=true
 | [],_=>rfl
 | x::r,n=>by
  rw [List.nodup_cons] at n;rw [apart,zeH n.2,Bool.and_true,List.all_eq_true];intro y hy
  cases e:x.same y
  ·rfl
  ·exact absurd (zdf.mp e▸hy) n.1
noncomputable def insB {α:Type} (lt:α->α->Bool) (x:α):List α->List α
 | []=>[x]
 | y::r=>if lt y x then y::insB lt x r else x::y::r
noncomputable def isB {α:Type} (lt:α->α->Bool):List α->List α
 | []=>[]
 | x::r=>insB lt x (isB lt r)
theorem zf8 {α:Type} (lt:α->α->Bool) (x:α):∀ l:List α,(insB lt x l).Perm (x::l)
 | []=>.refl _
 | y::r=>by
  rw [insB]
  split
  ·exact ((zf8 lt x r).cons y).trans (.swap x y r)
  ·exact .refl _
theorem zde {α:Type} (lt:α->α->Bool):∀ l:List α,(isB lt l).Perm l
 | []=>.refl _
 | x::r=>(zf8 lt x _).trans ((zde lt r).cons x)
theorem zhS {α:Type} {f:α->D} {lt:α->α->Bool} (x:α):∀ l:List α,(∀ y∈l,ltT (f y) (f x)=lt y x)->insD (f x) (l.map f)=(insB lt x l).map f
 | [],_=>rfl
 | y::r,h=>by
  rw [List.map_cons,insD,insB,h y List.mem_cons_self]
  split
  ·rw [zhS x r λz hz=>h z (List.mem_cons_of_mem _ hz)];rfl
  ·rfl
theorem zdQ {α:Type} {f:α->D} {lt:α->α->Bool}:∀ l:List α,l.Nodup->(∀ x∈l,∀ y∈l,y≠x->ltT (f y) (f x)=lt y x)->zc7 (l.map f)=(isB lt l).map f
 | [],_,_=>rfl
 | x::r,n,h=>by
  rw [List.nodup_cons] at n;rw [List.map_cons,zc7,isB,zdQ r n.2 λa ha b hb=>h a (List.mem_cons_of_mem _ ha) b (List.mem_cons_of_mem _ hb)];refine zhS x _ λy hy=>?_;have hy:=(zde lt r).mem_iff.mp hy;exact h x List.mem_cons_self y (List.mem_cons_of_mem _ hy) λe=>n.1 (e▸hy)
theorem zlw {α β:Type} {f:α->β} {lt:α->α->Bool} {lt':β->β->Bool}:∀ l:List α,l.Nodup->(∀ x∈l,∀ y∈l,y≠x->lt' (f y) (f x)=lt y x)->isB lt' (l.map f)=(isB lt l).map f
 | [],_,_=>rfl
 | x :: r,n,h=>by
  have ins:∀ l:List α,(∀ y∈l,lt' (f y) (f x)=lt y x)->insB lt' (f x) (l.map f)=(insB lt x l).map f:=by
   intro l
   induction l with
   | nil=>intro _;rfl
   | cons y l ih=>
    intro h;rw [List.map_cons,insB,insB,h y List.mem_cons_self]
    split
    ·rw [ih λz hz=>h z (List.mem_cons_of_mem _ hz)];rfl
    ·rfl
  rw [List.nodup_cons] at n;rw [List.map_cons,isB,isB,zlw r n.2 λa ha b hb=>h a (List.mem_cons_of_mem _ ha) b (List.mem_cons_of_mem _ hb)];refine ins _ λy hy=>?_;have hy:=(zde lt r).mem_iff.mp hy;exact h x List.mem_cons_self y (List.mem_cons_of_mem _ hy) λe=>n.1 (e▸hy)
noncomputable def ltC (a b:Cf):Bool:=ltT (cfD a) (cfD b)
noncomputable def ltP (a b:Cf×Ct):Bool:=ltC a.1 b.1
theorem zri (e:a.1≠b.1):ltT (prD a) (prD b)=ltP a b:=by
 unfold ltP ltC ltT prD;rw [zfM,zcv λh=>e (zdn h)]
theorem zcb {α β:Type} {f:α->β} (inj:∀ a b,f a=f b->a=b):∀ {l:List α},l.Nodup->(l.map f).Nodup
 | [],_=>by simp
 | x::r,n=>by
  rw [List.nodup_cons] at n;rw [List.map_cons,List.nodup_cons];refine ⟨λh=>?_,zcb inj n.2⟩;obtain ⟨y,hy,e⟩:=List.mem_map.mp h;exact n.1 (inj _ _ e▸hy)
theorem ze1 (n:Nk l):l.Nodup:=by
 induction l with
 | nil=>simp
 | cons p r ih=>
  rw [Nk,List.map_cons,List.nodup_cons] at n;rw [List.nodup_cons];exact ⟨λh=>n.1 (List.mem_map.mpr ⟨p,h,rfl⟩),ih n.2⟩
theorem zq5:∀ {l:KV} {a b:Cf×Ct},Nk l->a∈l->b∈l->a.1=b.1->a=b:=by
 intro l a b n ha hb e;obtain ⟨c,t⟩:=a;obtain ⟨d,u⟩:=b;simp only at e;subst e;have h1:=zg8 n ha;have h2:=zg8 n hb;rw [h1] at h2;cases h2;rfl
noncomputable def srt (l:KV):KV:=isB ltP l
theorem zqw (p:Cf×Ct):zaq (prD p)=true:=by
 have h:=zhE p.1;have h2:=zkF p.1
 have h3:D.hk (cfD p.1)=true:=by
  unfold zaq cfD at h;rw [Bool.and_eq_true] at h;exact h.1
 simp only [prD,zaq,D.hks,h3,D.hk,D.deps,D.dep,Bool.and_true,Bool.true_and];exact decide_eq_true (by omega)
theorem zn5 (e:prD a=prD b):a=b:=by
 obtain ⟨c,t⟩:=a;obtain ⟨d,u⟩:=b;simp only [prD,D.tup.injEq,List.cons.injEq,D.str.injEq,and_true] at e;obtain ⟨e1,e2⟩:=e;rw [zdn e1]
 have:t=u:=e2
 rw [this]
theorem zo3 {l:KV} (n:Nk l) (hl:l.length<=5):zbN ((kvD l).map zcs)=some ((srt l).map prD):=by
 have e:(kvD l).map zcs=l.map prD:=by rw [kvD,List.map_map];rfl
 rw [e,zbN,if_pos]
 ·rw [zdQ l (ze1 n) λx hx y hy ne=>zri λh=>ne (zq5 n hy hx h)];rfl
 ·simp only [Bool.and_eq_true,decide_eq_true_eq,List.length_map,List.all_eq_true]
  refine ⟨⟨⟨⟨hl,λx hx=>?_⟩,zeH (zcb (λ_ _=>zn5) (ze1 n))⟩,zqa zrp λx hx=>?_⟩,(Bool.or_eq_true _ _).mpr (.inr (List.all_eq_true.mpr λx hx=>?_))⟩
  ·obtain ⟨p,_,rfl⟩:=List.mem_map.mp hx;exact zqw p
  ·obtain ⟨p,_,rfl⟩:=List.mem_map.mp hx;exact znI p
  ·obtain ⟨p,_,rfl⟩:=List.mem_map.mp hx;rfl
theorem zdg (l:KV):(srt l).Perm l:=zde _ _
theorem zrn (n:Nk l):Nk (srt l):=((zdg l).map Prod.fst).nodup_iff.mpr n
theorem zjY (l:KV):(srt l).length=l.length:=(zdg l).length_eq
noncomputable def cfs (l:KV):List D:=(l.map Prod.fst).map cfD
theorem zhM:∀ {l:List D},l.Nodup->once l=l
 | [],_=>rfl
 | x::r,n=>by
  rw [List.nodup_cons] at n;rw [once,zhM n.2]
  congr 1
  refine List.filter_eq_self.mpr λy hy=>?_
  cases e:x.same y
  ·rfl
  ·exact absurd (zdf.mp e▸hy) n.1
theorem zpt {ks:List Cf} (n:ks.Nodup) (hl:ks.length<=5):zbN (ks.map cfD)=some ((isB ltC ks).map cfD):=by
 rw [zbN,if_pos]
 ·rw [zdQ (lt:=ltC) ks n λx hx y hy ne=>rfl]
 ·simp only [Bool.and_eq_true,decide_eq_true_eq,List.length_map,List.all_eq_true]
  refine ⟨⟨⟨⟨hl,λx hx=>?_⟩,zeH (zcb (λ_ _=>zdn) n)⟩,zqa znu λx hx=>?_⟩,(Bool.or_eq_true _ _).mpr (.inl (List.all_eq_true.mpr λx hx=>?_))⟩
  ·obtain ⟨p,_,rfl⟩:=List.mem_map.mp hx;exact zhE p
  ·obtain ⟨p,_,rfl⟩:=List.mem_map.mp hx;exact zkg p
  ·obtain ⟨p,_,rfl⟩:=List.mem_map.mp hx;rfl
theorem zoh {l:KV} (n:Nk l) (hl:l.length<=5):zbd (.lst (cfs (srt l)))=some (cfs (srt l)):=by
 have e:(srt l).map Prod.fst=isB ltC (l.map Prod.fst):=(zlw l (ze1 n) λx hx y hy ne=>rfl).symm;have n2:(cfs (srt l)).Nodup:=zcb (λ_ _=>zdn) (zrn n)
 have hlen:(cfs (srt l)).length<=5:=by simp only [cfs,List.length_map];rw [zjY];exact hl
 have hs:zbN (cfs (srt l))=some (cfs (srt l)):=by
  have h0:=zpt (ks:=l.map Prod.fst) n (by rw [List.length_map];exact hl)
  rw [<-e] at h0;exact zen (((zdg l).map Prod.fst).map cfD) h0
 unfold zbd;dsimp only;rw [if_pos,zhM n2]
 ·exact hs
 ·simp only [Bool.and_eq_true,Bool.or_eq_true,List.all_eq_true]
  refine ⟨⟨zaL (by omega),λx hx=>?_⟩,.inr (decide_eq_true hlen)⟩;obtain ⟨p,_,rfl⟩:=List.mem_map.mp hx;exact zhE p
variable {Q:R->Sto->Prop}
theorem zau {α:Type} {g:α->W} (xs:List α):xs.map (λx=>D.str (g x))=(xs.map g).map D.str:=by rw [List.map_map];rfl
theorem zdr (n:Nat) {h:Sto} {α:Type} {xs:List α} {dD:α->D} {g:α->W} (B:Nat) (e:∀ x∈xs,biD .str [dD x]=some (.str (g x))) (hl:∀ x∈xs,(g x).length<=B) (hb:xs.length*(B+1)<=16777216) (k:Q (.d (.str (catS [32] (xs.map g)))) h):Ok (zai P (n+1) 9 [.d (.tup (xs.map dD))] h) Q:=by
 refine cl (F:=⟨1,2,zeX,false,[],false⟩) rfl rfl rfl ?_;refine ask (zal (dD:=dD) (g:=λx=>D.str (g x)) (λx hx=>?_) zag ?_)
 ·refine gc ?_
  refine st (e x hx) ?_;exact ⟨rfl,rfl⟩
 ·ac_rfl
  rw [zau]
  refine st (zdI B (λx hx=>?_) (by rw [List.length_map];exact hb)) ?_
  ·obtain ⟨y,hy,rfl⟩:=List.mem_map.mp hx;exact hl y hy
  ·exact f0 k
theorem zhq (n:Nat) {h:Sto} {ws:List W} {Q:R->Sto->Prop} (B:Nat) (hl:∀ x∈ws,x.length<=B) (hb:ws.length*(B+1)<=16777216) (k:Q (.d (.str (catS [32] ws))) h):Ok (zai P (n+1) 9 [.d (.tup (ws.map D.str))] h) Q:=
 zdr n (g:=λx=>x) B (λ_ _=>rfl) hl hb (by rw [List.map_id'];exact k)
noncomputable def lmT (p:Lm):W:=catS [46] [p.1,p.2]
noncomputable def wyT (w:List Lm):W:=if w.isEmpty then [45] else catS [43] (w.map lmT)
noncomputable abbrev zfR:List W:=[[45],[115],[111],[115,111]]
noncomputable def flT (f:Int):W:=zfR.getD f.toNat []
noncomputable def cfW (c:Cf):List W:=[c.st,c.mark,wyT c.to,wyT c.back,flT c.fl]
noncomputable def cfT (c:Cf):W:=catS [32] (cfW c)
noncomputable def lnT (p:Cf×Ct):W:=catS [32] [cfT p.1,p.2]
structure Sh where
 w:W
 m:W
 ls:KV
noncomputable def shD (s:Sh):D:=.tup [.str s.w,.str s.m,lnsD s.ls]
noncomputable def hdT (s:Sh):W:=catS [32] [s.w,s.m]
noncomputable def shT (s:Sh):W:=if s.ls.isEmpty then hdT s else hdT s++[58,32]++catS [59,32] (s.ls.map lnT)
noncomputable abbrev zc4:List W:=[zrM,zrv,[111,108,100]]
noncomputable abbrev zfL:List W:=[zsk,zrv,[111,108,100]]
noncomputable abbrev zbh:List W:=[[111,110,101],[115,111,109,101],kany]
structure LmOk (p:Lm):Prop where
 kd:Kd p.1
 mrk:zfL.contains p.2=true
structure zfo (w:List Lm):Prop where
 few:w.length<=2
 ok:∀ p∈w,LmOk p
structure CfOk (c:Cf):Prop where
 st:Wd c.st
 mark:zc4.contains c.mark=true
 to:zfo c.to
 back:zfo c.back
 l0:0<=c.fl
 l1:c.fl<4
structure ShOk (s:Sh):Prop where
 w:Wd s.w
 m:zc4.contains s.m=true
 few:s.ls.length<=5
 ok:∀ p∈s.ls,CfOk p.1/\zbh.contains p.2=true
 ord:zbd (.lst (cfs s.ls))=some (cfs s.ls)
noncomputable def wdB (w:W):Bool:=decide (1<=w.length)&&decide (w.length<=8)&&w.all low
theorem zkV {w:W} (h:wdB w=true):Wd w:=by
 simp only [wdB,Bool.and_eq_true,decide_eq_true_eq,List.all_eq_true] at h;exact ⟨h.1.1,h.1.2,h.2⟩
theorem zaF {l:List W} (h:l.all wdB=true) {w:W} (hw:l.contains w=true):Wd w:=
 zkV (List.all_eq_true.mp h w (List.contains_iff_mem.mp hw))
theorem LmOk.wd {p:Lm} (h:LmOk p):Wd p.2:=zaF (l:=zfL) (by decide) h.mrk
theorem CfOk.wd {c:Cf} (h:CfOk c):Wd c.mark:=zaF (l:=zc4) (by decide) h.mark
theorem cat2 {z a b:W}:catS z [a,b]=a++(z++b):=by simp [catS]
theorem LmOk.len {p:Lm} (h:LmOk p):(lmT p).length<=17:=by
 have h1:=h.kd.toWd.most;have h2:=h.wd.most
 simp only [lmT,cat2,List.length_append,List.length_cons,List.length_nil];omega
theorem zfo.len {w:List Lm} (h:zfo w):(wyT w).length<=36:=by
 unfold wyT
 split
 ·decide
 ·have:=zbs (z:=[43]) (B:=17) (w.map lmT) λx hx=>by
   obtain ⟨p,hp,rfl⟩:=List.mem_map.mp hx;exact (h.ok p hp).len
  have h2:=h.few;simp only [List.length_map,List.length_cons,List.length_nil] at this
  have:w.length*(17+(0+1))<=2*18:=Nat.mul_le_mul_right 18 h2
  omega
theorem zhy {f:Int} (h0:0<=f) (h1:f<4):idxD (.tup (zfR.map D.str)) (.int f)=some (.str (flT f))/\(flT f).length<=2/\zfR.contains (flT f)=true/\zfR.findIdx? (λy=>(D.str y).eqb (.str (flT f)))=some f.toNat:=by
 obtain ⟨j,rfl⟩:=Int.eq_ofNat_of_zero_le h0
 have:j=0\/j=1\/j=2\/j=3:=by omega
 rcases this with rfl | rfl | rfl | rfl<;>exact ⟨rfl,by decide,rfl,rfl⟩
theorem CfOk.ws {c:Cf} (h:CfOk c):∀ x∈cfW c,x.length<=36:=by
 intro x hx;simp only [cfW,List.mem_cons,List.not_mem_nil,or_false] at hx;have h1:=h.st.most;have h2:=h.wd.most;have h3:=h.to.len;have h4:=h.back.len;have h5:=(zhy h.l0 h.l1).2.1
 rcases hx with rfl | rfl | rfl | rfl | rfl<;>omega
theorem CfOk.len {c:Cf} (h:CfOk c):(cfT c).length<=185:=zbs (z:=[32]) (B:=36) (cfW c) h.ws
theorem zfU (n:Nat) {h:Sto} {w:List Lm} (hw:zfo w) (k:Q (.d (.str (wyT w))) h):Ok (zai P (n+1) 7 [.d (mwD w)] h) Q:=by
 refine cl (F:=⟨1,2,zcQ,false,[],false⟩) rfl rfl rfl ?_
 cases w with
 | nil=>
  exact f0 k
 | cons p w=>
  refine ask (zal (dD:=lmD) (g:=λp=>D.str (lmT p)) (xs:=p::w) (λq hq=>?_) zag ?_)
  ·refine gc ?_
   have hk:=hw.ok q hq;have h1:=hk.kd.toWd.most;have h2:=hk.wd.most;refine st (zsz (l:=[q.1,q.2]) 8 (λx hx=>?_) (by simp)) ?_
   ·simp only [List.mem_cons,List.not_mem_nil,or_false] at hx
    rcases hx with rfl | rfl<;>assumption
   ·exact ⟨rfl,rfl⟩
  ·ac_rfl
   rw [zau];have h3:=hw.few
   refine st (zdI (z:=[43]) 17 (λx hx=>?_) (by rw [List.length_map];simp only [List.length_cons,List.length_nil] at h3 ⊢;omega)) ?_
   ·obtain ⟨y,hy,rfl⟩:=List.mem_map.mp hx;exact (hw.ok y hy).len
   ·exact f0 k
theorem zgQ (n:Nat) {h:Sto} {c:Cf} (hc:CfOk c) (k:Q (.d (.str (cfT c))) h):Ok (zai P (n+2) 6 [.d (cfD c)] h) Q:=by
 refine cl (F:=⟨1,1,za8,false,[],false⟩) rfl rfl rfl ?_;refine ask (zfU n hc.to ?_);refine ask (zfU n hc.back ?_);refine st (zhy hc.l0 hc.l1).1 ?_;exact ask (zhq (ws:=cfW c) n 36 hc.ws (by simp [cfW]) (f0 k))
theorem CfOk.line {p:Cf×Ct} (h:CfOk p.1) (hc:zbh.contains p.2=true):(lnT p).length<=194:=by
 have h1:=h.len;have h2:=(zaF (l:=zbh) (by decide) hc).most
 simp only [lnT,cat2,List.length_append,List.length_cons,List.length_nil];omega
theorem ShOk.hd {s:Sh} (h:ShOk s):(hdT s).length<=17:=by
 have h1:=h.w.most;have h2:=(zaF (l:=zc4) (by decide) h.m).most
 simp only [hdT,cat2,List.length_append,List.length_cons,List.length_nil];omega
theorem ShOk.lines {s:Sh} (h:ShOk s):(catS [59,32] (s.ls.map lnT)).length<=980:=by
 have:=zbs (z:=[59,32]) (B:=194) (s.ls.map lnT) λx hx=>by
  obtain ⟨p,hp,rfl⟩:=List.mem_map.mp hx;exact (h.ok p hp).1.line (h.ok p hp).2
 have h2:=h.few;have h3:s.ls.length*196<=5*196:=Nat.mul_le_mul_right 196 h2;rw [List.length_map] at this;exact Nat.le_trans this h3
theorem ShOk.len {s:Sh} (h:ShOk s):(shT s).length<=1000:=by
 have h1:=h.hd;have h2:=h.lines;unfold shT
 split
 ·omega
 ·simp only [List.length_append,List.length_cons,List.length_nil];omega
theorem zbU (n:Nat) {h:Sto} {s:Sh} (hs:ShOk s) (k:Q (.d (.str (shT s))) h):Ok (zai P (n+3) 5 [.d (shD s)] h) Q:=by
 refine cl (F:=⟨1,5,zbD,false,[],false⟩) rfl rfl rfl ?_;refine ask (zhq (ws:=[s.w,s.m]) (n+1) 8 (λx hx=>?_) (by simp) ?_)
 ·simp only [List.mem_cons,List.not_mem_nil,or_false] at hx
  rcases hx with rfl | rfl
  ·exact hs.w.most
  ·exact (zaF (l:=zc4) (by decide) hs.m).most
 refine ask (zal (dD:=prD) (g:=λp=>D.str (lnT p)) (xs:=s.ls) (λp hp=>?_) zag ?_)
 ·refine gc ?_
  obtain ⟨h1,h2⟩:=hs.ok p hp;refine ask (zgQ n h1 ?_);refine ask (zhq (ws:=[cfT p.1,p.2]) (n+1) 185 (λx hx=>?_) (by simp) ⟨rfl,rfl⟩);simp only [List.mem_cons,List.not_mem_nil,or_false] at hx
  rcases hx with rfl | rfl
  ·exact h1.len
  ·have:=(zaF (l:=zbh) (by decide) h2).most;omega
 have h1:=hs.hd;have h2:=hs.lines;have hk:shT s=if s.ls.isEmpty then hdT s else hdT s++[58,32]++catS [59,32] (s.ls.map lnT):=rfl;generalize hls:s.ls=ls at h2 hk ⊢
 cases ls with
 | nil=>
  rw [hk] at k;exact f0 k
 | cons p ls=>
  rw [hk] at k
  refine st (addS (by simp only [hdT] at h1;simp only [List.length_cons,List.length_nil];omega)) ?_
  have em:(List.map (λp=>D.str (lnT p)) (p::ls))=((p::ls).map lnT).map D.str:=zau _;rw [em]
  refine st (zdI (z:=[59,32]) 194 (λx hx=>?_) (by have:=hs.few;rw [hls] at this;rw [List.length_map];simp only [List.length_cons,List.length_nil] at this ⊢;omega)) ?_
  ·obtain ⟨y,hy,rfl⟩:=List.mem_map.mp hx
   exact (hs.ok y (by rw [hls];exact hy)).1.line (hs.ok y (by rw [hls];exact hy)).2
  refine st (addS (by simp only [hdT] at h1;simp only [List.length_append,List.length_cons,List.length_nil];omega)) ?_
  exact f0 k
theorem zdW (n:Nat) {h:Sto} {ss:List Sh} (hs:∀ s∈ss,ShOk s) (hl:ss.length<=12) (k:Q (.d (.str (catS [10] (ss.map shT)))) h):Ok (zai P (n+4) 4 [.d (.lst (ss.map shD))] h) Q:=by
 refine cl (F:=⟨1,2,zaK,false,[],false⟩) rfl rfl rfl ?_;refine ask (zal (dD:=shD) (g:=λs=>D.str (shT s)) (xs:=ss) (λs hp=>?_) zag ?_)
 ·refine gc ?_
  exact ask (zbU n (hs s hp) ⟨rfl,rfl⟩)
 rw [zau]
 refine st (zdI (z:=[10]) 1000 (λx hx=>?_) (by rw [List.length_map];simp only [List.length_cons,List.length_nil];omega)) (f0 k)
 obtain ⟨y,hy,rfl⟩:=List.mem_map.mp hx;exact (hs y hy).len
variable {Q:R->Sto->Prop}
theorem zpD {w:List Lm} (h:zfo w) {c:Nat} (hc:c<97) (h1:c≠43) (h2:c≠45) (h3:c≠46):c ∉ wyT w:=by
 unfold wyT
 split
 ·simp;omega
 ·refine zbw (by simp;omega) _ λx hx=>?_
  obtain ⟨p,hp,rfl⟩:=List.mem_map.mp hx
  refine zbw (by simp;omega) _ λy hy=>?_
  simp only [List.mem_cons,List.not_mem_nil,or_false] at hy
  rcases hy with rfl | rfl
  ·exact (h.ok p hp).kd.toWd.no hc
  ·exact (h.ok p hp).wd.no hc
theorem zsu {f:Int} (h0:0<=f) (h1:f<4) {c:Nat} (hc:c<97) (h2:c≠45):c ∉ flT f:=by
 obtain ⟨j,rfl⟩:=Int.eq_ofNat_of_zero_le h0
 have:j=0\/j=1\/j=2\/j=3:=by omega
 rcases this with rfl | rfl | rfl | rfl<;>simp [flT,zfR]<;>omega
theorem znw {k:Cf} (h:CfOk k) {c:Nat} (hc:c<97) (h1:c≠43) (h2:c≠45) (h3:c≠46):∀ x∈cfW k,c ∉ x:=by
 intro x hx;simp only [cfW,List.mem_cons,List.not_mem_nil,or_false] at hx
 rcases hx with rfl | rfl | rfl | rfl | rfl
 ·exact h.st.no hc
 ·exact h.wd.no hc
 ·exact zpD h.to hc h1 h2 h3
 ·exact zpD h.back hc h1 h2 h3
 ·exact zsu h.l0 h.l1 hc h2
theorem zqH {p:Cf×Ct} (h:CfOk p.1) (hk:zbh.contains p.2=true) {c:Nat} (hc:c<97) (h0:c≠32) (h1:c≠43) (h2:c≠45) (h3:c≠46):c ∉ lnT p:=by
 refine zbw (by simp;omega) _ λx hx=>?_
 simp only [List.mem_cons,List.not_mem_nil,or_false] at hx
 rcases hx with rfl | rfl
 ·exact zbw (by simp;omega) _ (znw h hc h1 h2 h3)
 ·exact (zaF (l:=zbh) (by decide) hk).no hc
theorem zpJ {s:Sh} (h:ShOk s) {c:Nat} (hc:c<97) (h0:c≠32):c ∉ hdT s:=by
 refine zbw (by simp;omega) _ λx hx=>?_
 simp only [List.mem_cons,List.not_mem_nil,or_false] at hx
 rcases hx with rfl | rfl
 ·exact h.w.no hc
 ·exact (zaF (l:=zc4) (by decide) h.m).no hc
theorem zru {s:Sh} (h:ShOk s):10 ∉ shT s:=by
 have h1:10 ∉ hdT s:=zpJ h (by decide) (by decide);unfold shT
 split
 ·exact h1
 ·have h2:10 ∉ catS [59,32] (s.ls.map lnT):=zbw (by decide) _ λx hx=>by
   obtain ⟨p,hp,rfl⟩:=List.mem_map.mp hx;exact zqH (h.ok p hp).1 (h.ok p hp).2 (by decide) (by decide) (by decide) (by decide) (by decide)
  simp only [List.mem_append,List.mem_cons,List.not_mem_nil,or_false,not_or];exact ⟨⟨h1,by decide⟩,h2⟩
theorem zfa (n:Nat) {h:Sto} {p:Lm} (hp:LmOk p) (k:Q (.d (.bl true)) h):Ok (zai P (n+3) 19 [.d (lmD p)] h) Q:=by
 refine cl (F:=⟨1,1,zbW,false,[],false⟩) rfl rfl rfl ?_;refine ask (zhj n hp.kd ?_);refine f0 ?_
 have e:(List.map D.str zfL).any (λy=>y.eqb (.str p.2))=true:=by rw [anyS];exact hp.mrk
 exact e▸k
theorem zc1 (n:Nat) {h:Sto} {w:List Lm} (hw:zfo w) (k:Q (.d (mwD w)) h):Ok (zai P (n+4) 18 [.d (.str (wyT w))] h) Q:=by
 refine cl (F:=⟨1,4,zcM,false,[],false⟩) rfl rfl rfl ?_
 cases w with
 | nil=>
  exact f0 k
 | cons p w=>
  have hno:45 ∉ catS [43] ((p::w).map lmT):=zbw (c:=45) (z:=[43]) (by decide) _ λx hx=>by
   obtain ⟨q,hq,rfl⟩:=List.mem_map.mp hx;refine zbw (c:=45) (z:=[46]) (by decide) _ λy hy=>?_;simp only [List.mem_cons,List.not_mem_nil,or_false] at hy
   rcases hy with rfl | rfl
   ·exact (hw.ok q hq).kd.toWd.no (by decide)
   ·exact (hw.ok q hq).wd.no (by decide)
  have hlen:(catS [43] (lmT p::w.map lmT)).length<=36:=hw.len
  have hne:(wyT (p::w)==[45])=false:=by
   cases hb:wyT (p::w)==[45] with
   | false=>rfl
   | true=>exact absurd (show 45∈wyT (p::w) by rw [eq_of_beq hb];decide) hno
  refine bf hne ?_;refine st (splJ (c:=43) (y:=[]) (x:=lmT p) (l:=w.map lmT) (λx hx=>?_) (by omega)) ?_
  ·obtain ⟨q,hq,rfl⟩:=List.mem_map.mp (show x∈(p::w).map lmT from hx)
   refine zbw (c:=43) (z:=[46]) (by decide) _ λy hy=>?_;simp only [List.mem_cons,List.not_mem_nil,or_false] at hy
   rcases hy with rfl | rfl
   ·exact (hw.ok q hq).kd.toWd.no (by decide)
   ·exact (hw.ok q hq).wd.no (by decide)
  have em:(lmT p::w.map lmT).map D.str=(p::w).map (λq=>D.str (lmT q)):=(zau (p::w)).symm;rw [em];refine ask (zal (dD:=λq=>D.str (lmT q)) (g:=lmD) (xs:=p::w) (λq hq=>?_) zag ?_)
  ·refine gc ?_
   have hk:=hw.ok q hq
   refine st (splJ (c:=46) (y:=[]) (x:=q.1) (l:=[q.2]) (λx hx=>?_) (by have:=hk.len;unfold lmT at this;omega)) ?_
   ·simp only [List.mem_cons,List.not_mem_nil,or_false] at hx
    rcases hx with rfl | rfl
    ·exact hk.kd.toWd.no (by decide)
    ·exact hk.wd.no (by decide)
   ·exact ⟨rfl,rfl⟩
  have hf:=hw.few
  refine bf (decide_eq_false (by simp only [List.length_map];omega)) ?_
  refine ask (zal (dD:=lmD) (g:=λ_=>D.bl true) (xs:=p::w) (λq hq=>?_) zag ?_)
  ·refine gc ?_
   exact ask (zfa n (hw.ok q hq) ⟨rfl,rfl⟩)
  refine st (zjr (f:=λ_:Lm=>true)) ?_;refine bf (by simp) ?_;exact f0 k
theorem zeW (z:W):∀ (l:List W) (x y:W),catS z [catS z (x::l),y]=catS z (x::l++[y])
 | [],x,y=>by simp [catS]
 | a::l,x,y=>by
  rw [cat2,zbc,List.cons_append,List.cons_append,zbc,<-List.cons_append,<-zeW z l a y,cat2];simp only [List.append_assoc]
theorem zq7 (p:Cf×Ct):lnT p=catS [32] (cfW p.1++[p.2]):=zeW [32] _ _ _
theorem zdN (n:Nat) {h:Sto} {p:Cf×Ct} (hc:CfOk p.1) (k:Q (.d (cfD p.1)) h):Ok (zai P (n+5) 17 [.d (.lst ((cfW p.1++[p.2]).map D.str))] h) Q:=by
 refine cl (F:=⟨1,3,zbe,false,[],false⟩) rfl rfl rfl ?_;refine ask (zc1 n hc.to ?_);refine ask (zc1 n hc.back ?_);refine ask (zb1 (n+3) hc.st ?_)
 have e1:(List.map D.str zc4).any (λy=>y.eqb (.str p.1.mark))=true:=by rw [anyS];exact hc.mark
 refine bf (congrArg not e1) ?_;obtain ⟨f1,f2,f3,f4⟩:=zhy hc.l0 hc.l1
 have e2:(List.map D.str zfR).any (λy=>y.eqb (.str (flT p.1.fl)))=true:=by rw [anyS];exact f3
 refine bf (congrArg not e2) ?_
 have e3:IT.lmD .indexT (.tup (zfR.map D.str)) (.str (flT p.1.fl))=some (.int p.1.fl):=by
  obtain ⟨j,hj⟩:=Int.eq_ofNat_of_zero_le hc.l0;have hl:=hc.l1;rw [hj] at hl ⊢
  have:j=0\/j=1\/j=2\/j=3:=by omega
  rcases this with rfl | rfl | rfl | rfl<;>rfl
 refine st e3 ?_;exact f0 k
theorem zeS (n:Nat) {h:Sto} {p:Cf×Ct} (hc:CfOk p.1) (hk:zbh.contains p.2=true) (k:Q (.d (prD p)) h):Ok (zai P (n+6) 16 [.d (.str (lnT p))] h) Q:=by
 refine cl (F:=⟨1,3,zbY,false,[],false⟩) rfl rfl rfl ?_;have hl:=CfOk.line hc hk
 have hs:splD (.str (lnT p)) (.str [32])=some ((cfW p.1++[p.2]).map D.str):=by
  rw [zq7] at hl ⊢;refine splJ (c:=32) (y:=[]) (x:=p.1.st) (l:=[p.1.mark,wyT p.1.to,wyT p.1.back,flT p.1.fl,p.2]) (λx hx=>?_) (Nat.le_trans hl (by decide))
  rcases List.mem_append.mp (show x∈cfW p.1++[p.2] from hx) with h | h
  ·exact znw hc (by decide) (by decide) (by decide) (by decide) x h
  ·rw [List.mem_singleton.mp h];exact (zaF (l:=zbh) (by decide) hk).no (by decide)
 refine st hs ?_
 have e1:(List.map D.str zbh).any (λy=>y.eqb (.str p.2))=true:=by rw [anyS];exact hk
 refine bf (congrArg not e1) ?_;refine ask (zdN n hc ?_);exact f0 k
theorem ze0:∀ x:D,x.eqb x=true
 | .non=>rfl
 | .bl b=>by simp [D.eqb]
 | .int i=>by simp [D.eqb]
 | .str s=>by simp [D.eqb]
 | .tup xs=>by simp [D.eqb];exact eqbs_self xs
 | .lst xs=>by simp [D.eqb];exact eqbs_self xs
where eqbs_self:∀ xs:List D,D.eqbs xs xs=true
 | []=>rfl
 | x::xs=>by simp [D.eqbs];exact ⟨ze0 x,eqbs_self xs⟩
theorem znT (l:KV):(D.lst (cfs l)).dep<=60:=by
 have:D.deps (cfs l)<=3:=deps_le λx hx=>by
  obtain ⟨c,_,rfl⟩:=List.mem_map.mp hx;exact zkF c
 rw [D.dep];omega
theorem zf4 (n:Nat) {h:Sto} {l:KV} (ho:zbd (.lst (cfs l))=some (cfs l)) (k:Q (.d (.bl true)) h):Ok (zai P (n+1) 15 [.d (.lst (cfs l))] h) Q:=by
 refine cl (F:=⟨1,1,zaU,false,[],false⟩) rfl rfl rfl ?_;refine st ho ?_;refine st (zlB (zdy (znT l))) ?_;rw [ze0];exact f0 k
variable {Q:R->Sto->Prop}
theorem znN {l:KV}:(l.map prD).any (λy=>y.eqb .non)=false:=by
 rw [List.any_eq_false];intro x hx;obtain ⟨p,_,rfl⟩:=List.mem_map.mp hx;simp [prD,D.eqb]
theorem zjQ (n:Nat) {h:Sto} {w m:W} {ls:KV} {v0 v1 v4 v5:Option R} {Q:R->Sto->Prop} (hs:ShOk ⟨w,m,ls⟩) (k:Q (.d (shD ⟨w,m,ls⟩)) h) :
  wSs (zai P (n+6)) (zaN.drop 3) [v0,v1,some (.d (.lst [.str w,.str m])),some (.d (.lst (ls.map prD))),v4,v5] h (kF h false false Q):=by
 have e1:(List.map D.str zc4).any (λy=>y.eqb (.str m))=true:=by rw [anyS];exact hs.m
 refine ask (zb1 (n+5) hs.w ?_);refine bf (congrArg not e1) ?_;refine bf (znN (l:=ls)) ?_;refine ask (zal (dD:=prD) (g:=λp=>cfD p.1) (xs:=ls) (λp hp=>?_) zag ?_)
 ·refine gc ?_
  exact ⟨rfl,rfl⟩
 have em:ls.map (λp=>cfD p.1)=cfs ls:=by rw [cfs,List.map_map];rfl
 rw [em];refine ask (zf4 (n+5) hs.ord ?_);exact f0 k
theorem zd9 (n:Nat) {h:Sto} {s:Sh} (hs:ShOk s) (k:Q (.d (shD s)) h):Ok (zai P (n+7) 14 [.d (.str (shT s))] h) Q:=by
 have h1:=hs.hd;have h2:=hs.len;have h3:=hs.lines
 have hh:splD (.str (hdT s)) (.str [32])=some ([s.w,s.m].map D.str):=splJ (c:=32) (y:=[]) (x:=s.w) (l:=[s.m]) (λx hx=>by
  simp only [List.mem_cons,List.not_mem_nil,or_false] at hx
  rcases hx with rfl | rfl
  ·exact hs.w.no (by decide)
  ·exact (zaF (l:=zc4) (by decide) hs.m).no (by decide)) (Nat.le_trans h1 (by decide))
 have hn:=zpJ hs (c:=58) (by decide) (by decide);refine cl (F:=⟨1,6,zaN,false,[],false⟩) rfl rfl rfl ?_;obtain ⟨w,m,ls⟩:=s
 cases ls with
 | nil=>
  refine st (zkt hn (Nat.le_trans h1 (by decide))) ?_;refine st hh ?_;have t:=zjQ n (v0:=some (.d (.str (shT ⟨w,m,[]⟩)))) (v1:=some (.d (.tup [.str (hdT ⟨w,m,[]⟩),.str [],.str []]))) (v4:=none) (v5:=none) hs k
  conv at t=>whnf
  exact t
 | cons p ls=>
  refine st (zjo (x:=hdT ⟨w,m,p::ls⟩) (r:=catS [59,32] ((p::ls).map lnT)) hn (Nat.le_trans h2 (by decide))) ?_;refine st hh ?_;refine st (splJ (c:=59) (y:=[32]) (x:=lnT p) (l:=ls.map lnT) (λx hx=>?_) (Nat.le_trans h3 (by decide))) ?_
  ·obtain ⟨q,hq,rfl⟩:=List.mem_map.mp (show x∈(p::ls).map lnT from hx)
   exact zqH (hs.ok q hq).1 (hs.ok q hq).2 (by decide) (by decide) (by decide) (by decide) (by decide)
  have em:(lnT p::ls.map lnT).map D.str=(p::ls).map (λq=>D.str (lnT q)):=(zau (p::ls)).symm;rw [em];refine ask (zal (dD:=λq=>D.str (lnT q)) (g:=prD) (xs:=p::ls) (λq hq=>?_) zag ?_)
  ·refine gc ?_
   exact ask (zeS n (hs.ok q hq).1 (hs.ok q hq).2 ⟨rfl,rfl⟩)
  have t:=zjQ n (v0:=some (.d (.str (shT ⟨w,m,p::ls⟩)))) (v1:=some (.d (.tup [.str (hdT ⟨w,m,p::ls⟩),.str [58,32],.str (catS [59,32] ((p::ls).map lnT))]))) (v4:=none) (v5:=none) hs k
  conv at t=>whnf
  exact t
variable {Q:R->Sto->Prop}
theorem zib {z x:W} {l:List W} (h:x≠[]):catS z (x::l)≠[]:=by
 cases l with
 | nil=>simpa [catS] using h
 | cons y l=>rw [zbc];intro e;exact h (List.append_eq_nil_iff.mp e).1
theorem zd8 (n:Nat) {h:Sto} {ws:List W} (hn:∀ w∈ws,10 ∉ w/\w≠[]/\w.length<=1000) (hl:ws.length<=12) (k:Q (.d (.lst (ws.map D.str))) h):Ok (zai P (n+1) 12 [.d (.str (catS [10] ws))] h) Q:=by
 refine cl (F:=⟨1,1,zd4,false,[],false⟩) rfl rfl rfl ?_
 cases ws with
 | nil=>
  exact f0 k
 | cons x l=>
  have hne:=zib (z:=[10]) (l:=l) (hn x List.mem_cons_self).2.1;have hb:=zbs (z:=[10]) (B:=1000) (x::l) λy hy=>(hn y hy).2.2
  have et:tru (.str (catS [10] (x::l)))=some true:=by
   have hb2:(catS [10] (x::l)).length<=1000000:=by
    refine Nat.le_trans hb ?_;simp only [List.length_cons,List.length_nil] at hl ⊢;omega
   show (if fit _ then some _ else none)=_;rw [if_pos (zaL (by omega))]
   simpa using hne
  refine st et ?_;refine st (splJ (c:=10) (y:=[]) (x:=x) (l:=l) (λy hy=>(hn y hy).1) ?_) ?_
  ·refine Nat.le_trans hb ?_
   simp only [List.length_cons,List.length_nil] at hl ⊢;omega
  ·exact f0 k
theorem zoK {h:Sto} {l:Nat} {kp:Bool} {Q:R->Sto->Prop} (hl:l<h.length) (q:Q (.loc l) h):Ok (fin h false kp (.loc l) h) Q:=by
 simp only [fin,Bool.false_eq_true,if_false,zgp,if_true,fin0,hl,List.take_length,ok_some'];exact q
theorem zcV (n:Nat) {h:Sto} {xs:List D} (hx:xs.any (λy=>y.eqb .non)=false) (k:Q (.loc h.length) (h++[.lst xs])):Ok (zai P (n+1) 13 [.loc h.length] (h++[.lst xs])) Q:=by
 refine cl (F:=⟨1,1,zcD,true,[],false⟩) rfl rfl rfl ?_;refine st zah ?_;refine bf hx ?_;exact zoK (by simp) k
theorem zrO {s:Sh} (h:ShOk s):shT s≠[]:=by
 have h1:=h.w.pos
 have:hdT s≠[]:=by
  intro e;rw [hdT,cat2] at e
  have:=(List.append_eq_nil_iff.mp e).1
  rw [this] at h1;simp at h1
 unfold shT
 split
 ·exact this
 ·intro e
  exact this (List.append_eq_nil_iff.mp (List.append_eq_nil_iff.mp e).1).1
theorem zaT (n:Nat) {h:Sto} {ss:List Sh} (hs:∀ s∈ss,ShOk s) (hl:ss.length<=12) (k:Q (.loc h.length) (h++[.lst (ss.map shD)])):Ok (zai P (n+8) 10 [.d (.str (catS [10] (ss.map shT)))] h) Q:=by
 refine cl (F:=⟨1,2,zbE,true,[],false⟩) rfl rfl rfl ?_
 refine ask (zd8 (n+6) (λw hw=>?_) (by rw [List.length_map];exact hl) ?_)
 ·obtain ⟨s,hm,rfl⟩:=List.mem_map.mp hw
  exact ⟨zru (hs s hm),zrO (hs s hm),(hs s hm).len⟩
 rw [<-zau];refine ask (zal (dD:=λs=>D.str (shT s)) (g:=shD) (xs:=ss) (λs hm=>?_) zag ?_)
 ·refine gc ?_
  exact ask (zd9 n (hs s hm) ⟨rfl,rfl⟩)
 refine ask (zcV (n+6) ?_ ?_)
 ·rw [List.any_eq_false]
  intro x hx;obtain ⟨s,_,rfl⟩:=List.mem_map.mp hx;simp [shD,D.eqb]
 exact zeQ k
variable {Q:R->Sto->Prop}
noncomputable def dg (n:Nat):W:=(Nat.toDigits 10 n).map Char.toNat
theorem zmw:∀ d:Nat,d<10->(Nat.digitChar d).toNat=48+d:=by decide
theorem zju {n:Nat} (h:n<10):dg n=[48+n]:=by
 rw [dg,Nat.toDigits_of_lt_base h];show [(Nat.digitChar n).toNat]=_;rw [zmw n h]
theorem zmE {n:Nat} (h:10<=n):dg n=dg (n / 10)++[48+n % 10]:=by
 have e:=congrArg (List.map Char.toNat) (Nat.toDigits_append_toDigits (b:=10) (n:=n / 10) (d:=n % 10) (by decide) (by omega) (Nat.mod_lt n (by decide)));rw [List.map_append,Nat.div_add_mod] at e;exact e.symm.trans (congrArg (dg (n / 10)++·) (zju (Nat.mod_lt n (by decide))))
theorem zej (n:Nat):∀ c∈dg n,48<=c/\c<=57:=by
 induction n using Nat.strongRecOn with
 | ind n ih=>
  intro c hc
  by_cases h:n<10
  ·rw [zju h,List.mem_singleton] at hc;omega
  ·rw [zmE (by omega),List.mem_append,List.mem_singleton] at hc
   rcases hc with hc | hc
   ·exact ih (n / 10) (by omega) c hc
   ·omega
theorem znj (n:Nat):valS (dg n)=n:=by
 induction n using Nat.strongRecOn with
 | ind n ih=>
  by_cases h:n<10
  ·rw [zju h];show 0*10+(48+n-48)=n;omega
  ·rw [zmE (by omega),valS,List.foldl_append]
   show valS (dg (n / 10))*10+(48+n % 10-48)=n
   rw [ih (n / 10) (by omega)];omega
theorem zjJ (n:Nat):∀ k,n<10 ^ (k+1)->(dg n).length<=k+1:=by
 induction n using Nat.strongRecOn with
 | ind n ih=>
  intro k hk
  by_cases h:n<10
  ·rw [zju h];simp
  ·rw [zmE (by omega),List.length_append]
   cases k with
   | zero=>rw [Nat.zero_add,Nat.pow_one] at hk;omega
   | succ k=>
    have:=ih (n / 10) (by omega) k (by rw [Nat.pow_succ] at hk;omega)
    simp only [List.length_cons,List.length_nil];omega
theorem ze5 (n:Nat):∃ c r,dg n=c::r/\(n=0->c=48/\r=[])/\(n≠0->c≠48):=by
 induction n using Nat.strongRecOn with
 | ind n ih=>
  by_cases h:n<10
  ·exact ⟨48+n,[],zju h,λe=>⟨by omega,rfl⟩,λe=>by omega⟩
  ·obtain ⟨c,r,e,_,h2⟩:=ih (n / 10) (by omega)
   exact ⟨c,r++[48+n % 10],by rw [zmE (by omega),e];rfl,λz=>by omega,λ_=>h2 (by omega)⟩
theorem zgK {i:Int} (h:0<=i):decS i=dg i.natAbs:=by rw [decS,if_neg (by omega)];rfl
theorem zii {i:Int} (h:i<0):decS i=45::dg i.natAbs:=by rw [decS,if_pos h];rfl
theorem zkd (n:Nat):digS (dg n)=true:=by
 obtain ⟨c,r,e,_⟩:=ze5 n;simp only [digS,Bool.and_eq_true,List.all_eq_true,decide_eq_true_eq]
 exact ⟨by rw [e];rfl,λc hc=>zej n c hc⟩
theorem zpq (i:Int):intS (decS i)=some i:=by
 by_cases h:0<=i
 ·rw [zgK h]
  obtain ⟨c,r,e,_⟩:=ze5 i.natAbs;have hd:=zkd i.natAbs;have hv:=znj i.natAbs
  have hc:=zej i.natAbs c (by rw [e];exact List.mem_cons_self)
  rw [e] at hd hv ⊢;unfold intS;dsimp only;rw [if_neg (by omega),if_pos hd,hv]
  congr 1;omega
 ·rw [zii (by omega)]
  unfold intS;dsimp only;rw [if_pos rfl,if_pos (zkd _),znj]
  congr 1;omega
theorem zrB {i:Int} {c:Nat} (h:c<45):c ∉ decS i:=by
 intro hc
 by_cases h0:0<=i
 ·rw [zgK h0] at hc;have:=zej _ c hc;omega
 ·rw [zii (by omega)] at hc
  rcases List.mem_cons.mp hc with rfl | hc
  ·omega
  ·have:=zej _ c hc;omega
theorem zjN {i:Int} {k:Nat} (h:i.natAbs<10 ^ (k+1)):(decS i).length<=k+2:=by
 have:=zjJ i.natAbs k h
 by_cases h0:0<=i
 ·rw [zgK h0];omega
 ·rw [zii (by omega),List.length_cons];omega
theorem znF {i:Int} {k:Nat} (h:i.natAbs<10 ^ (k+1)) (hk:k<=600):biD .int [.str (decS i)]=some (.int i):=by
 have:=zjN h
 show (if decide ((decS i).length<=640) then (match intS (decS i) with | some i=>some (D.int i) | none=>none) else none)=_;rw [if_pos (decide_eq_true (by omega)),zpq]
theorem zra {i:Int} (h:i.natAbs<10 ^ 41):biD .str [.int i]=some (.str (decS i)):=by
 show (if decide (i.natAbs<2 ^ 200) then _ else _)=_;exact if_pos (decide_eq_true (Nat.lt_of_lt_of_le h (by decide)))
noncomputable abbrev figs:W:=[48,49,50,51,52,53,54,55,56,57]
theorem zre {c:Nat} (h:48<=c/\c<=57):figs.contains c=true:=by
 rw [List.contains_iff_mem];simp only [figs,List.mem_cons,List.not_mem_nil,or_false];omega
theorem zm0 {α:Type} {xs:List α} {n:Nat}:cut xs (some (n:Int)) none=xs.drop n:=by
 unfold cut sIx;simp only [if_neg (show ¬ (n:Int)<0 by omega),Int.toNat_natCast]
 rcases Nat.le_total n xs.length with k | k
 ·rw [Nat.min_eq_left k,List.take_of_length_le (by simp)]
 ·rw [Nat.min_eq_right k,List.drop_of_length_le (Nat.le_refl _),List.drop_of_length_le k]
  simp
theorem za6 (n:Nat) {h:Sto} {m k:Nat} (hm:m<10 ^ (k+1)) (hk:k<=600) (q:Q (.d (.bl true)) h):Ok (zai P (n+1) 0 [.d (.str (dg m)),.d (.int ((k:Int)+1))] h) Q:=by
 have hl:=zjJ m k hm;obtain ⟨c,r,e,h0,h1⟩:=ze5 m
 have hp:1<=(dg m).length:=by rw [e];simp
 refine cl (F:=⟨2,3,zbR,false,[],false⟩) rfl rfl rfl ?_;refine st (lenS (by omega)) ?_;refine bf (decide_eq_false (by omega)) ?_;refine st (lenS (by omega)) ?_;refine bf (decide_eq_false (by omega)) ?_;refine bt (zaL (by omega)) ?_;refine ask (zal (dD:=λc=>D.str [c]) (g:=λc=>D.bl (figs.contains c)) (λc hc=>?_) zag ?_)
 ·refine gc ?_
  exact ⟨by rw [zht],rfl⟩
 refine st zjr ?_
 refine bf (by rw [List.all_eq_true.mpr λc hc=>zre (zej m c hc)];rfl) ?_
 refine br (λc1=>?_) (λc1=>?_)
 ·exact f0 q
 have hm0:m≠0:=by
  intro z;obtain ⟨rfl,rfl⟩:=h0 z;rw [e] at c1;exact absurd c1 (by decide)
 have ei:idxD (.str (dg m)) (.int 0)=some (.str [c]):=by
  have hf:r.length+1<=k+1:=by rw [e] at hl;simpa using hl
  rw [e];simp [idxD,at',ixn];exact zaL (by omega)
 refine st ei ?_
 have hc:(!(D.str [c]).eqb (.str [48]))=true:=by
  have:=h1 hm0
  simp [D.eqb,this]
 refine f0 ?_;exact hc▸q
theorem zeM (n:Nat) {h:Sto} {v:Int} (hv:v.natAbs<10 ^ 40) (q:Q (.d (.bl true)) h):Ok (zai P (n+2) 1 [.d (.str (decS v)),.d (.int 40)] h) Q:=by
 refine cl (F:=⟨2,2,zax,false,[],false⟩) rfl rfl rfl ?_;obtain ⟨c,r,e,h0,h1⟩:=ze5 v.natAbs
 have hc:=zej v.natAbs c (by rw [e];exact List.mem_cons_self)
 by_cases hn:0<=v
 ·have es:=zgK hn
  refine bf (by rw [es,e];simp [List.isPrefixOf];omega) ?_
  rw [es];exact ask (za6 n (k:=39) hv (by decide) (f0 q))
 ·have es:=zii (i:=v) (by omega)
  rw [es]
  refine bt (by
   have:=h1 (by omega)
   rw [e]
   simp [D.eqb,this]) ?_
  have hl:=zjJ v.natAbs 39 hv
  have esl:sliD (.str (45::dg v.natAbs)) (.int 1) .non=some (.str (dg v.natAbs)):=by
   show (if fit (45::dg v.natAbs).length then some (D.str (cut (45::dg v.natAbs) (some ((1:Nat):Int)) none)) else none)=_
   rw [if_pos (zaL (by simp only [List.length_cons];omega)),zm0];rfl
  refine st esl ?_;exact ask (za6 n (k:=39) hv (by decide) (f0 q))
variable {Q:R->Sto->Prop}
noncomputable abbrev kask:W:=[97,115,107]
noncomputable abbrev zlk:W:=[116,97,107,101]
noncomputable abbrev kget:W:=[103,101,116]
inductive Dd where
 | wri (k v:Int)
 | ask (k:Int) (w:W)
 | mov (w:W) (k n:Int)
noncomputable def ddL:Dd->List D
 | .wri k v=>[.str kask,.int k,.str zjK,.int v]
 | .ask k w=>[.str kask,.int k,.str w]
 | .mov w k n=>[.str w,.int k,.int n]
noncomputable def ddD (d:Dd):D:=.tup (ddL d)
noncomputable def txD:D->W
 | .str x=>x
 | .int i=>decS i
 | _=>[]
noncomputable def ddT (d:Dd):W:=catS [32] ((ddL d).map txD)
noncomputable def DdOk:Dd->Prop
 | .wri k v=>(0<=k/\k<100)/\v.natAbs<10 ^ 40
 | .ask k w=>(0<=k/\k<100)/\[zi9,ziR].contains w=true
 | .mov w k n=>[zlk,kget].contains w=true/\(0<=k/\k<100)/\(0<=n/\n<100)
inductive Pt:D->Prop
 | str (w:W) (h:Wd w):Pt (.str w)
 | int (i:Int) (h:i.natAbs<10 ^ 40):Pt (.int i)
theorem small {k:Int} (h:0<=k/\k<100):k.natAbs<10 ^ 40:=Nat.lt_of_lt_of_le (show k.natAbs<100 by omega) (by decide)
theorem zi7 {d:Dd} (h:DdOk d):∀ x∈ddL d,Pt x:=by
 intro x hx
 cases d with
 | wri k v=>
  simp only [ddL,List.mem_cons,List.not_mem_nil,or_false] at hx
  rcases hx with rfl | rfl | rfl | rfl
  ·exact .str _ (zkV (by decide))
  ·exact .int _ (small h.1)
  ·exact .str _ (zkV (by decide))
  ·exact .int _ h.2
 | ask k w=>
  simp only [ddL,List.mem_cons,List.not_mem_nil,or_false] at hx
  rcases hx with rfl | rfl | rfl
  ·exact .str _ (zkV (by decide))
  ·exact .int _ (small h.1)
  ·exact .str _ (zaF (l:=[zi9,ziR]) (by decide) h.2)
 | mov w k n=>
  simp only [ddL,List.mem_cons,List.not_mem_nil,or_false] at hx
  rcases hx with rfl | rfl | rfl
  ·exact .str _ (zaF (l:=[zlk,kget]) (by decide) h.1)
  ·exact .int _ (small h.2.1)
  ·exact .int _ (small h.2.2)
theorem Pt.str' {x:D} (h:Pt x):biD .str [x]=some (.str (txD x)):=by
 cases h with
 | str w _=>rfl
 | int i h=>exact zra (Nat.lt_trans h (by decide))
theorem Pt.len {x:D} (h:Pt x):(txD x).length<=41:=by
 cases h with
 | str w h=>have:=h.most;exact Nat.le_trans this (by decide)
 | int i h=>exact zjN (k:=39) h
theorem Pt.no {x:D} (h:Pt x) {c:Nat} (hc:c<45):c ∉ txD x:=by
 cases h with
 | str w h=>exact h.no (by omega)
 | int i h=>exact zrB hc
theorem zji (d:Dd):(ddL d).length<=4:=by cases d<;>simp [ddL]
theorem zik {d:Dd} (h:DdOk d):(ddT d).length<=168:=by
 have:=zbs (z:=[32]) (B:=41) ((ddL d).map txD) λx hx=>by
  obtain ⟨y,hy,rfl⟩:=List.mem_map.mp hx;exact (zi7 h y hy).len
 have h2:=zji d;rw [List.length_map] at this;exact Nat.le_trans this (Nat.mul_le_mul_right 42 h2)
theorem zsx {d:Dd} (h:DdOk d):10 ∉ ddT d:=zbw (c:=10) (z:=[32]) (by decide) _ λx hx=>by
 obtain ⟨y,hy,rfl⟩:=List.mem_map.mp hx;exact (zi7 h y hy).no (by decide)
theorem zr8 {d:Dd} (h:DdOk d):ddT d≠[]:=by
 cases d with
 | wri k v=>exact zib (by decide)
 | ask k w=>exact zib (by decide)
 | mov w k n=>exact zib (by have:=(zaF (l:=[zlk,kget]) (by decide) h.1).pos;intro e;change w=[] at e;rw [e] at this;simp at this)
theorem zlc (n:Nat) {h:Sto} {d:Dd} {Q:R->Sto->Prop} (hd:DdOk d) (k:Q (.d (.str (ddT d))) h):Ok (zai P (n+1) 9 [.d (ddD d)] h) Q:=by
 have:=zdr n (h:=h) (xs:=ddL d) (dD:=λx=>x) (g:=txD) (Q:=Q) 41 (λx hx=>(zi7 hd x hx).str') (λx hx=>(zi7 hd x hx).len) (by have:=zji d;omega) k
 rw [List.map_id'] at this;exact this
theorem zdq (n:Nat) {h:Sto} {ds:List Dd} (hs:∀ d∈ds,DdOk d) (hl:ds.length<=12) (k:Q (.d (.str (catS [10] (ds.map ddT)))) h):Ok (zai P (n+2) 8 [.d (.lst (ds.map ddD))] h) Q:=by
 refine cl (F:=⟨1,2,zbC,false,[],false⟩) rfl rfl rfl ?_;refine ask (zal (dD:=ddD) (g:=λs=>D.str (ddT s)) (xs:=ds) (λs hp=>?_) zag ?_)
 ·refine gc ?_
  exact ask (zlc n (hs s hp) ⟨rfl,rfl⟩)
 rw [zau]
 refine st (zdI (z:=[10]) 168 (λx hx=>?_) (by rw [List.length_map];simp only [List.length_cons,List.length_nil];omega)) (f0 k)
 obtain ⟨y,hy,rfl⟩:=List.mem_map.mp hx;exact zik (hs y hy)
theorem zes (n:Nat) {h:Sto} {i:Int} {Q:R->Sto->Prop} (hi:0<=i/\i<100) (q:Q (.d (.bl true)) h):Ok (zai P (n+1) 0 [.d (.str (decS i)),.d (.int 2)] h) Q:=by
 rw [zgK hi.1]
 have h2:i.natAbs<100:=by omega
 exact za6 n (k:=1) h2 (by decide) q
theorem int2 {i:Int} (hi:0<=i/\i<100):biD .int [.str (decS i)]=some (.int i):=znF (k:=1) (show i.natAbs<100 by omega) (by decide)
theorem zk5 (n:Nat) {h:Sto} {i v:Int} {Q:R->Sto->Prop} (hv:v.natAbs<10 ^ 40) (k:Q (.d (ddD (.wri i v))) h):Ok (zai P (n+3) 21 [.d (.int i),.d (.lst [.str zjK,.str (decS v)])] h) Q:=by
 refine cl (F:=⟨2,2,zbI,false,[],false⟩) rfl rfl rfl ?_;refine ask (zeM n hv ?_);refine st (znF (k:=39) hv (by decide)) ?_;exact f0 k
theorem zlv (n:Nat) {h:Sto} {i:Int} {w:W} {Q:R->Sto->Prop} (hw:[zi9,ziR].contains w=true) (k:Q (.d (ddD (.ask i w))) h):Ok (zai P (n+3) 21 [.d (.int i),.d (.lst [.str w])] h) Q:=by
 have hw:w=zi9\/w=ziR:=by simpa using hw
 refine cl (F:=⟨2,2,zbI,false,[],false⟩) rfl rfl rfl ?_
 rcases hw with rfl | rfl
 ·ac_rfl
  exact f0 k
 ·ac_rfl
  exact f0 k
theorem zeO (n:Nat) {h:Sto} {d:Dd} (hd:DdOk d) (k:Q (.d (ddD d)) h):Ok (zai P (n+5) 20 [.d (.str (ddT d))] h) Q:=by
 have hl:=zik hd
 have hs:splD (.str (ddT d)) (.str [32])=some (((ddL d).map txD).map D.str):=by
  cases hL:(ddL d).map txD with
  | nil=>cases d<;>simp [ddL] at hL
  | cons x l=>
   unfold ddT at hl ⊢;rw [hL] at hl ⊢;refine splJ (c:=32) (y:=[]) (x:=x) (l:=l) (λw hw=>?_) (Nat.le_trans hl (by decide));rw [<-hL] at hw;obtain ⟨y,hy,rfl⟩:=List.mem_map.mp hw;exact (zi7 hd y hy).no (by decide)
 refine cl (F:=⟨1,3,zb3,false,[],false⟩) rfl rfl rfl ?_;refine st hs ?_
 cases d with
 | wri i v=>
  refine ask (zes (n+3) hd.1 ?_);refine st (int2 hd.1) ?_;exact ask (zk5 (n+1) hd.2 (f0 k))
 | ask i w=>
  refine ask (zes (n+3) hd.1 ?_);refine st (int2 hd.1) ?_;exact ask (zlv (n+1) hd.2 (f0 k))
 | mov w i m=>
  have hw:w=zlk\/w=kget:=by simpa using hd.1
  rcases hw with rfl | rfl
  ·ac_rfl
   refine ask (zes (n+3) hd.2.1 ?_);refine st (int2 hd.2.1) ?_;refine ask (zes (n+3) hd.2.2 ?_);refine st (int2 hd.2.2) ?_;exact f0 k
  ·ac_rfl
   refine ask (zes (n+3) hd.2.1 ?_);refine st (int2 hd.2.1) ?_;refine ask (zes (n+3) hd.2.2 ?_);refine st (int2 hd.2.2) ?_;exact f0 k
theorem zaV (n:Nat) {h:Sto} {ds:List Dd} (hs:∀ d∈ds,DdOk d) (hl:ds.length<=12) (k:Q (.loc h.length) (h++[.lst (ds.map ddD)])):Ok (zai P (n+6) 11 [.d (.str (catS [10] (ds.map ddT)))] h) Q:=by
 refine cl (F:=⟨1,2,zbo,true,[],false⟩) rfl rfl rfl ?_
 refine ask (zd8 (n+4) (λw hw=>?_) (by rw [List.length_map];exact hl) ?_)
 ·obtain ⟨s,hm,rfl⟩:=List.mem_map.mp hw
  exact ⟨zsx (hs s hm),zr8 (hs s hm),Nat.le_trans (zik (hs s hm)) (by decide)⟩
 rw [<-zau];refine ask (zal (dD:=λs=>D.str (ddT s)) (g:=ddD) (xs:=ds) (λs hm=>?_) zag ?_)
 ·refine gc ?_
  exact ask (zeO n (hs s hm) ⟨rfl,rfl⟩)
 refine ask (zcV (n+4) ?_ ?_)
 ·rw [List.any_eq_false]
  intro x hx;obtain ⟨s,_,rfl⟩:=List.mem_map.mp hx;simp [ddD,D.eqb]
 exact zeQ k
variable {Q:R->Sto->Prop}
noncomputable abbrev dr (a b:Int):Ob:=.lst [.int a,.int b]
theorem zak (n:Nat) {h t:Sto} {a b z:Int} (z0:0<z) (wz:z<wide) (k:∀ r a' b',0<=r->r<z->Q (.d (.int r)) (h++dr a' b'::t)):Ok (zai P (n+1) 23 [.loc h.length,.d (.int z)] (h++dr a b::t)) Q:=by
 refine cl (F:=⟨2,4,ze9,false,[],false⟩) rfl rfl rfl ?_;refine st zah ?_;refine st (bmul _ (by decide) (by decide)) ?_;refine st zah ?_;ac_rfl;rw [zbu];have m:=md (b*48271+11) (m:=2147483647) (by decide);generalize (b*48271+11) % 2147483647=y at m ⊢;refine st zah ?_;refine br (λc=>?_) (λc=>?_)
 ·ac_rfl
  refine st zah ?_;refine st (zkr z0) ?_;refine st zah ?_;refine st (bfd z0 wz) ?_;ac_rfl;refine st zah ?_;ac_rfl;rw [zbu];have m2:=md a z0;exact f1 (k _ _ _ m2.1 m2.2)
 ·ac_rfl
  refine st zah ?_;refine st zah ?_;refine st (bmul _ (by omega) (by omega)) ?_;ac_rfl;have m2:=md (y*(y / 1009+69621)) (m:=2147483647) (by decide);generalize y*(y / 1009+69621) % 2147483647=w at m2 ⊢;refine st (bmul _ (by omega) (by omega)) ?_;refine st (zkr z0) ?_;have m3:=md (w*(w / 757+16807) % 2147483629) z0;exact f1 (k _ _ _ m3.1 m3.2)
theorem zkW (n:Nat) {h:Sto} {c:Int} (k:∀ a b,Q (.loc h.length) (h++[dr a b])):Ok (zai P (n+1) 22 [.d (.int c)] h) Q:=by
 refine cl (F:=⟨1,1,zeG,true,[],false⟩) rfl rfl rfl ?_;have m:=md c (m:=2) (by decide);refine st (bmul _ (by omega) (by omega)) ?_;exact zeQ (k _ _)
theorem zqV {r:Int} (h0:0<=r) (h1:r<26):∃ c,idxD (.str abc) (.int r)=some (.str [c])/\low c=true:=by
 have hl:r.toNat<abc.length:=by show r.toNat<26;omega
 refine ⟨abc[r.toNat],?_,?_⟩
 ·show (if fit abc.length=true then (match at' abc r with | some c=>some (D.str [c]) | none=>none) else none)=_
  rw [if_pos (by decide),zpL h0 (List.getElem?_eq_getElem hl)]
 ·unfold low
  rw [List.contains_iff_mem];exact List.getElem_mem hl
theorem zcW {l:List W} {i:Int} (h0:0<=i) (h1:i<l.length):∃ w∈l,idxD (.lst (l.map D.str)) (.int i)=some (.str w):=by
 obtain ⟨x,hx,e⟩:=zpb (xs:=l.map D.str) h0 (by rw [List.length_map];exact h1)
 obtain ⟨w,hw,rfl⟩:=List.mem_map.mp hx;exact ⟨w,hw,e⟩
noncomputable abbrev znA:List W:=[[105,100,108,101],[119,97,105,116],[109,105,110,101],[97],[110,111,110,101],[97,110,121],[101,105,103,104,116,108,101,116],[108,97,115,116],[114,101,97,100],[119,114,105,116,101],[100,114,111,112],[107,101,101,112],[115,116,97,121],[112,117,116],[116,101,108,108],[115,101,110,100],[111,110,101],[115,111,109,101],[111,108,100],[98,97,114,101],[115],[111],[115,111]]
theorem zdk (n:Nat) {h t:Sto} {a b:Int} (k:∀ w a' b',Wd w->Q (.d (.str w)) (h++dr a' b'::t)):Ok (zai P (n+2) 24 [.loc h.length] (h++dr a b::t)) Q:=by
 refine cl (F:=⟨1,4,zeK,false,[],false⟩) rfl rfl rfl ?_;refine ask (zak n (by decide) (by decide) λr a1 b1 r0 r1=>?_);refine br (λc=>?_) (λc=>?_)
 ·ac_rfl
  refine ask (zak n (by decide) (by decide) λq a2 b2 q0 q1=>?_);obtain ⟨x,hx,e⟩:=zcW (l:=znA) q0 q1;have hxd:Wd x:=zaF (l:=znA) (by decide) (List.contains_iff_mem.mpr hx);refine st e ?_;exact f1 (k x _ _ hxd)
 ·ac_rfl
  refine ask (zak n (by decide) (by decide) λr a2 b2 r0 r1=>?_);refine ⟨⟨by omega,by omega⟩,?_⟩;refine ask (zn0 (λj σ h'=>(j:Int)<=1+r/\∃ w a b,w.length=j/\(∀ c∈w,low c=true)/\h'=h++dr a b::t/\∃ v3,σ=[some (R.loc h.length),none,some (R.d (.str w)),v3]) ?_ ?_ ?_)
  ·rintro j x σ h' hx ⟨hj,w,a,b,hlw,hlow,rfl,v3,rfl⟩
   obtain ⟨hj2,rfl⟩:=zc8 _ _ _ _ hx;refine gb ?_;refine ask (zak n (by decide) (by decide) λq a b q0 q1=>?_);obtain ⟨c,ec,hc⟩:=zqV q0 q1;refine st ec ?_
   refine st (addS (by simp only [List.length_cons,List.length_nil];omega)) ?_
   refine ⟨rfl,zag,by omega,w++[c],a,b,by simp [hlw],?_,rfl,_,rfl⟩;intro d hd
   rcases List.mem_append.mp hd with hd | hd
   ·exact hlow d hd
   ·simp at hd;subst hd;exact hc
  ·rintro σ h' ⟨_,w,a,b,hlw,hlow,rfl,v3,rfl⟩
   rw [zbK] at hlw;exact f1 (k w _ _ ⟨by omega,by omega,hlow⟩)
  ·exact ⟨by omega,[],a2,b2,rfl,by simp,rfl,_,rfl⟩
theorem za5 {h t:Sto} {x y o:Ob}:(h++x::(t++[o]))[(h++y::t).length]?=some o:=by
 have:h++x::(t++[o])=(h++x::t)++[o]:=by simp
 rw [this,show (h++y::t).length=(h++x::t).length by simp];exact zah
theorem zfy {h t:Sto} {x y o o':Ob}:(h++x::(t++[o])).set (h++y::t).length o'=h++x::(t++[o']):=by
 have:h++x::(t++[o])=(h++x::t)++[o]:=by simp
 rw [this,show (h++y::t).length=(h++x::t).length by simp,zbu];simp
theorem f4 {k:Bool} {x:D} {xs ys:List D} {h t u:Sto} {Q:R->Sto->Prop} (q:Q (.d x) (h++.lst ys::t)):Ok (fin (h++.lst xs::t) false k (.d x) (h++.lst ys::(t++u))) Q:=by
 have e:=zcj (h:=h++.lst xs::t) (t:=u) (l:=h.length) (xs:=xs) (ys:=ys) zah;rw [zbu] at e
 have e2:h++Ob.lst ys::(t++u)=(h++Ob.lst ys::t)++u:=by simp
 rw [e2];refine fd e ?_;rw [List.take_left' (by simp)];exact q
theorem zpQ:Kd kget:=⟨zkV (by decide),by decide⟩
theorem ziq (n:Nat) {h t:Sto} {a b:Int} (k:∀ w a' b',zfo w->Q (.d (mwD w)) (h++dr a' b'::t)):Ok (zai P (n+3) 25 [.loc h.length] (h++dr a b::t)) Q:=by
 refine cl (F:=⟨1,4,zhC,false,[],false⟩) rfl rfl rfl ?_;ac_rfl;rw [show h++dr a b::t++[Ob.lst []]=h++dr a b::(t++[.lst []]) by simp];refine ask (zak (n+1) (by decide) (by decide) λr a1 b1 r0 r1=>?_);refine ⟨⟨by omega,by omega⟩,?_⟩;refine ask (zn0 (λj σ h'=>(j:Int)<=r/\∃ (w:List Lm) (a1 b1:Int),w.length=j/\(∀ p∈w,LmOk p)/\h'=h++dr a1 b1::(t++[.lst (w.map lmD)])/\∃ v2 v3,σ=[some (R.loc h.length),some (R.loc (h++dr a b::t).length),v2,v3]) ?_ ?_ ?_)
 ·rintro j x σ h' hx ⟨hj,w,a2,b2,hlw,hok,rfl,v2,v3,rfl⟩
  obtain ⟨hj2,rfl⟩:=zc8 _ _ _ _ hx;refine gb ?_;refine ask (zdk n λx a3 b3 hx=>?_);refine br (λc=>?_) (λc=>?_)
  ·have hk:=zpQ
   refine st za5 ?_;refine ask (zak (n+1) (by decide) (by decide) λq a4 b4 q0 q1=>?_);obtain ⟨m,hm,e⟩:=zcW (l:=zfL) q0 q1;refine st e ?_
   refine st za5 ⟨by simp [big];omega,?_⟩
   rw [zfy]
   refine ⟨rfl,zag,by omega,w++[(kget,m)],a4,b4,by simp [hlw],λp hp=>?_,by rw [List.map_append];rfl,_,_,rfl⟩
   rcases List.mem_append.mp hp with h | h
   ·exact hok p h
   ·rw [List.mem_singleton.mp h];exact ⟨hk,List.contains_iff_mem.mpr hm⟩
  ·have hk:Kd x:=⟨hx,by rw [<-anyS];exact c⟩
   refine st za5 ?_;refine ask (zak (n+1) (by decide) (by decide) λq a4 b4 q0 q1=>?_);obtain ⟨m,hm,e⟩:=zcW (l:=zfL) q0 q1;refine st e ?_
   refine st za5 ⟨by simp [big];omega,?_⟩
   rw [zfy]
   refine ⟨rfl,zag,by omega,w++[(x,m)],a4,b4,by simp [hlw],λp hp=>?_,by rw [List.map_append];rfl,_,_,rfl⟩
   rcases List.mem_append.mp hp with h | h
   ·exact hok p h
   ·rw [List.mem_singleton.mp h];exact ⟨hk,List.contains_iff_mem.mpr hm⟩
 ·rintro σ h' ⟨_,w,a2,b2,hlw,hok,rfl,v2,v3,rfl⟩
  rw [zbK] at hlw;refine st za5 ?_;exact f4 (k w a2 b2 ⟨by omega,hok⟩)
 ·exact ⟨by omega,[],a1,b1,rfl,by simp,rfl,_,_,rfl⟩
variable {Q:R->Sto->Prop}
theorem znB {c:Cf} {t:Ct} {C:Cf×Ct->Prop} (hc:C (c,t)):∀ {l:KV},(∀ p∈l,C p)->∀ p∈put c t l,C p
 | [],_,p,hp=>by rw [put,List.mem_singleton] at hp;rw [hp];exact hc
 | q::r,h,p,hp=>by
  rw [put] at hp
  by_cases e:q.1=c
  ·rw [if_pos e] at hp
   rcases List.mem_cons.mp hp with rfl | hp
   ·rw [e];exact hc
   ·exact h p (List.mem_cons_of_mem _ hp)
  ·rw [if_neg e] at hp
   rcases List.mem_cons.mp hp with rfl | hp
   ·exact h _ List.mem_cons_self
   ·exact znB hc (λz hz=>h z (List.mem_cons_of_mem _ hz)) p hp
noncomputable abbrev dk (l:KV):Ob:=.dic (kvD l)
theorem ziV (n:Nat) {h:Sto} {a b:Int} (k:∀ s a' b',ShOk s->Q (.d (shD s)) (h++[dr a' b'])):Ok (zai P (n+4) 26 [.loc h.length] (h++[dr a b])) Q:=by
 refine cl (F:=⟨1,6,zdm,false,[],false⟩) rfl rfl rfl ?_;ac_rfl;rw [show h++[dr a b]++[Ob.dic []]=h++dr a b::([]++[dk []]) by simp [kvD]];refine ask (zdk (n+1) λw a1 b1 hw=>?_);refine ask (zak (n+2) (by decide) (by decide) λq a2 b2 q0 q1=>?_);obtain ⟨m,hm,em⟩:=zcW (l:=zc4) q0 q1;have hm:=List.contains_iff_mem.mpr hm;refine st em ?_;refine ask (zak (n+2) (by decide) (by decide) λr a3 b3 r0 r1=>?_);refine ⟨⟨by omega,by omega⟩,?_⟩;refine ask (zn0 (λj σ h'=>(j:Int)<=r/\∃ (l:KV) (a1 b1:Int),l.length<=j/\Nk l/\(∀ p∈l,CfOk p.1/\zbh.contains p.2=true)/\h'=h++dr a1 b1::([]++[dk l])/\∃ v3 v4 v5,σ=[some (R.loc h.length),some (R.loc (h++dr a b::[]).length),some (R.d (.tup [.str w,.str m])),v3,v4,v5]) ?_ ?_ ?_)
 ·rintro j x σ h' hx ⟨hj,l,a1,b1,hlw,hnk,hok,rfl,v3,v4,v5,rfl⟩
  obtain ⟨hj2,rfl⟩:=zc8 _ _ _ _ hx;refine gb ?_;refine ask (zak (n+2) (by decide) (by decide) λq a2 b2 q0 q1=>?_);obtain ⟨mk,hmk,emk⟩:=zcW (l:=zc4) q0 q1;refine st emk ?_;refine ask (zdk (n+1) λx a3 b3 hx=>?_);refine ask (ziq n λw1 a4 b4 hw1=>?_);refine ask (ziq n λw2 a5 b5 hw2=>?_);refine ask (zak (n+2) (by decide) (by decide) λfl a6 b6 f0 f1=>?_);refine ask (zak (n+2) (by decide) (by decide) λq a7 b7 q0 q1=>?_);obtain ⟨ct,hct,ect⟩:=zcW (l:=zbh) q0 q1;refine st ect ?_;have hc:CfOk ⟨x,mk,w1,w2,fl⟩:=⟨hx,List.contains_iff_mem.mpr hmk,hw1,hw2,f0,f1⟩;refine bt (zhE ⟨x,mk,w1,w2,fl⟩) ?_
  refine st za5 ⟨by simp [big,kvD];omega,?_⟩
  rw [zfy];have hpl:=zkq (c:=⟨x,mk,w1,w2,fl⟩) (t:=ct) (l:=l)
  refine ⟨rfl,zag,by omega,put ⟨x,mk,w1,w2,fl⟩ ct l,a7,b7,by omega,zrw hnk,znB ⟨hc,List.contains_iff_mem.mpr hct⟩ hok,by rw [dk,<-zla];rfl,_,_,_,rfl⟩
 ·rintro σ h' ⟨_,l,a1,b1,hlw,hnk,hok,rfl,v3,v4,v5,rfl⟩
  rw [zbK] at hlw
  have h5:l.length<=5:=by omega
  refine st za5 ?_;refine st (zo3 hnk h5) ?_
  refine f4 (t:=[]) (k ⟨w,m,srt l⟩ a1 b1 ⟨hw,hm,by rw [zjY];exact h5,λp hp=>hok p ((zdg l).mem_iff.mp hp),zoh hnk h5⟩)
 ·exact ⟨by omega,[],a3,b3,by simp,by simp [Nk],by simp,rfl,_,_,_,rfl⟩
theorem zqT {q x y:Int} (h0:0<=q) (h1:q<2):∃ z,(z=x\/z=y)/\idxD (.lst [.int x,.int y]) (.int q)=some (.int z):=by
 have:q=0\/q=1:=by omega
 rcases this with rfl | rfl
 ·exact ⟨x,.inl rfl,rfl⟩
 ·exact ⟨y,.inr rfl,rfl⟩
theorem zlq (n:Nat) {h:Sto} {a b:Int} (k:∀ d a' b',DdOk d->Q (.d (ddD d)) (h++[dr a' b'])):Ok (zai P (n+2) 27 [.loc h.length] (h++[dr a b])) Q:=by
 refine cl (F:=⟨1,3,zfA,false,[],false⟩) rfl rfl rfl ?_;refine ask (zak n (t:=[]) (by decide) (by decide) λq a1 b1 q0 q1=>?_);obtain ⟨z,hz,ez⟩:=zqT (x:=3) (y:=100) q0 q1;refine st ez ?_
 refine ask (zak n (t:=[]) (by omega) (by unfold wide;omega) λhd a2 b2 d0 d1=>?_)
 have hd2:0<=hd/\hd<100:=by omega
 refine ask (zak n (t:=[]) (by decide) (by decide) λw a3 b3 w0 w1=>?_);refine br (λc1=>?_) (λc1=>?_)
 ·ac_rfl
  refine ask (zak n (t:=[]) (by decide) (by decide) λv a4 b4 v0 v1=>?_);refine ask (zak n (t:=[]) (by decide) (by decide) λs a5 b5 s0 s1=>?_);refine st (bmul _ (by omega) (by omega)) ?_;refine f1 (t:=[]) (k (.wri hd (v*(1-2*s))) _ _ ⟨hd2,?_⟩);have hv:v<10 ^ 40:=v1
  have:s=0\/s=1:=by omega
  rcases this with rfl | rfl
  ·rw [show v*(1-2*0)=v by omega];omega
  ·rw [show v*(1-2*1)=-v by omega];omega
 ·ac_rfl
  have c1:¬ w=0:=by intro z;subst z;exact absurd c1 (by decide)
  refine br (λc2=>?_) (λc2=>?_)
  ·have c2:w<3:=of_decide_eq_true c2
   obtain ⟨x,hx,ex⟩:=zcW (l:=[zi9,ziR]) (i:=w-1) (by omega) (by show w-1<2;omega)
   refine st ex ?_;exact f1 (t:=[]) (k (.ask hd x) _ _ ⟨hd2,List.contains_iff_mem.mpr hx⟩)
  ·have c2:¬ w<3:=of_decide_eq_false c2
   obtain ⟨x,hx,ex⟩:=zcW (l:=[zlk,kget]) (i:=w-3) (by omega) (by show w-3<2;omega)
   refine st ex ?_;refine ask (zak n (t:=[]) (by decide) (by decide) λq a4 b4 q0 q1=>?_);obtain ⟨z,hz,ez⟩:=zqT (x:=2) (y:=100) q0 q1;refine st ez ?_
   refine ask (zak n (t:=[]) (by omega) (by unfold wide;omega) λm a5 b5 m0 m1=>?_)
   exact f1 (t:=[]) (k (.mov x hd m) _ _ ⟨List.contains_iff_mem.mpr hx,hd2,by omega⟩)
variable {Q:R->Sto->Prop}
theorem zeC (n:Nat) {h:Sto} {w:List Lm} (hw:zfo w) (k:Q (.d (.str (wyT w))) h):Ok (zai P (n+1) 28 [.d (mwD w)] h) Q:=by
 refine cl (F:=⟨1,3,zby,false,[],false⟩) rfl rfl rfl ?_
 cases w with
 | nil=>
  exact f0 k
 | cons p w=>
  refine st (zlB (zdy (show (D.tup []).dep<=60 by simp [D.dep,D.deps]))) ?_;refine ask (zal (dD:=lmD) (g:=λp=>D.str (lmT p)) (xs:=p::w) (λq hq=>?_) zag ?_)
  ·refine gc ?_
   have hk:=hw.ok q hq;have h1:=hk.kd.toWd.most;have h2:=hk.wd.most
   refine st (addS (by simp only [List.length_cons,List.length_nil];omega)) ?_
   ac_rfl
   refine st (addS (by simp only [List.length_append,List.length_cons,List.length_nil];omega)) ?_
   refine ⟨?_,rfl⟩;rw [lmT,cat2,List.append_assoc]
  ·ac_rfl
   rw [zau];have h3:=hw.few
   refine st (zdI (z:=[43]) 17 (λx hx=>?_) (by rw [List.length_map];simp only [List.length_cons,List.length_nil] at h3 ⊢;omega)) ?_
   ·obtain ⟨y,hy,rfl⟩:=List.mem_map.mp hx;exact (hw.ok y hy).len
   ·exact f0 k
theorem zjG (z y:W):∀ l:List W,l≠[]->catS z (l++[y])=catS z l++(z++y)
 | [],h=>absurd rfl h
 | x::l,_=>by rw [<-zeW,cat2]
noncomputable def btw (j:Nat):W:=if j=0 then [58,32] else [59,32]
noncomputable def tx (hd:W) (l:KV):W:=if l.isEmpty then hd else hd++[58,32]++catS [59,32] (l.map lnT)
theorem zo9 (hd:W) (l:KV) (p:Cf×Ct):tx hd (l++[p])=tx hd l++btw l.length++lnT p:=by
 cases l with
 | nil=>simp [tx,btw,catS]
 | cons q l=>
  have e:=zjG [59,32] (lnT p) ((q::l).map lnT) (by simp);simp only [tx,btw,List.isEmpty_cons,List.cons_append,List.isEmpty_cons,Bool.false_eq_true,if_false,List.length_cons,Nat.add_one_ne_zero];rw [show (q::(l++[p])).map lnT=(q::l).map lnT++[lnT p] by simp,e];simp only [List.append_assoc]
theorem zmq {f:Int} (h0:0<=f) (h1:f<4):idxD (.lst (zfR.map D.str)) (.int f)=some (.str (flT f)):=by
 obtain ⟨j,rfl⟩:=Int.eq_ofNat_of_zero_le h0
 have:j=0\/j=1\/j=2\/j=3:=by omega
 rcases this with rfl | rfl | rfl | rfl<;>rfl
theorem zrt {s:Sh} (h:ShOk s) (j:Nat):(tx (hdT s) (s.ls.take j)).length<=999:=by
 have h1:=h.hd
 have:=zbs (z:=[59,32]) (B:=194) ((s.ls.take j).map lnT) λx hx=>by
  obtain ⟨p,hp,rfl⟩:=List.mem_map.mp hx;have hp:=List.mem_of_mem_take hp;exact (h.ok p hp).1.line (h.ok p hp).2
 have h2:=h.few
 have h4:(s.ls.take j).length<=5:=by rw [List.length_take];omega
 have h3:(s.ls.take j).length*196<=5*196:=Nat.mul_le_mul_right 196 h4;rw [List.length_map] at this;simp only [List.length_cons,List.length_nil] at this;unfold tx
 split
 ·omega
 ·simp only [List.length_append,List.length_cons,List.length_nil];omega
theorem zgx (n:Nat) {h:Sto} {s:Sh} (hs:ShOk s) (k:Q (.d (.str (shT s))) h):Ok (zai P (n+2) 29 [.d (shD s)] h) Q:=by
 have h1:=hs.w.most;have h2:=(zaF (l:=zc4) (by decide) hs.m).most;refine cl (F:=⟨1,6,zaS,false,[],false⟩) rfl rfl rfl ?_
 refine st (addS (by simp only [List.length_cons,List.length_nil];omega)) ?_
 refine st (addS (by simp only [List.length_append,List.length_cons,List.length_nil];omega)) ?_
 ac_rfl
 have eh:s.w++[32]++s.m=hdT s:=by rw [hdT,cat2,List.append_assoc]
 rw [eh,List.map_map];refine ask (zjS (g:=dI∘prD) (xs:=s.ls) (λj σ h'=>h'=h/\∃ v3 v4 v5,σ=[some (R.d (shD s)),some (R.d (.str (tx (hdT s) (s.ls.take j)))),some (R.d (.str (btw j))),v3,v4,v5]) ?_ ?_ ?_)
 ·rintro j p σ h' hp ⟨rfl,v3,v4,v5,rfl⟩
  have hj:=(List.getElem?_eq_some_iff.mp hp).1;have hm:=List.mem_of_getElem? hp;obtain ⟨hc,hk⟩:=hs.ok p hm;have hl:=CfOk.line hc hk;have ht:=zrt hs j
  have hb:(btw j).length=2:=by unfold btw;split<;>rfl
  refine gb ?_;refine ask (zeC n hc.to ?_);refine ask (zeC n hc.back ?_);refine st (zmq hc.l0 hc.l1) ?_;refine st (addS (by omega)) ?_;refine st (zdI (z:=[32]) (l:=cfW p.1++[p.2]) 36 (λx hx=>?_) (by simp [cfW])) ?_
  ·rcases List.mem_append.mp hx with hx | hx
   ·exact hc.ws x hx
   ·rw [List.mem_singleton.mp hx];have:=(zaF (l:=zbh) (by decide) hk).most;omega
  rw [<-zq7]
  refine st (addS (by simp only [List.length_append];omega)) ?_
  refine ⟨rfl,zag,rfl,some (R.d (cfD p.1)),some (R.d (.str p.2)),some (R.d (.lst ((cfW p.1++[p.2]).map D.str))),?_⟩
  have e:s.ls.take (j+1)=s.ls.take j++[p]:=by
   rw [List.take_succ_eq_append_getElem hj,(List.getElem?_eq_some_iff.mp hp).2]
  have e2:=zo9 (hdT s) (s.ls.take j) p;rw [List.length_take,Nat.min_eq_left (by omega),<-e] at e2;rw [e2];rfl
 ·rintro σ h' ⟨rfl,v3,v4,v5,rfl⟩
  rw [List.take_length];exact f0 k
 ·exact ⟨rfl,_,_,_,by rw [List.take_zero];rfl⟩
variable {Q:R->Sto->Prop}
theorem sgA {h t u:Sto} {x:Ob}:((h++x::t)++u)[h.length]?=some x:=by rw [List.append_assoc];exact zah
theorem ssA {h t u:Sto} {x y:Ob}:((h++x::t)++u).set h.length y=(h++y::t)++u:=by rw [List.append_assoc,List.append_assoc];exact zbu
theorem sgB {h t u:Sto} {x z:Ob}:((h++z::x::t)++u)[h.length+1]?=some x:=by rw [List.append_assoc];exact zfp
theorem ssB {h t u:Sto} {x y z:Ob}:((h++z::x::t)++u).set (h.length+1) y=(h++z::y::t)++u:=by rw [List.append_assoc,List.append_assoc];exact zmJ
theorem sgB3 {h t u v:Sto} {x z:Ob}:(((h++z::x::t)++u)++v)[h.length+1]?=some x:=by rw [List.append_assoc (h++z::x::t)];exact sgB
theorem gA {H h t:Sto} {x:Ob} (e:H=h++x::t):H[h.length]?=some x:=by rw [e];exact zah
theorem gB {H h t:Sto} {x z:Ob} (e:H=h++z::x::t):H[h.length+1]?=some x:=by rw [e];exact zfp
theorem zsg {ns:List Int}:cut (ns.map D.int) none (some 12)=(ns.take 12).map D.int:=by
 rw [zou];exact congrArg _ (cutN (n:=12))
noncomputable abbrev o2 (ss:List Sh) (ds:List Dd):Sto:=[.lst (ss.map shD),.lst (ds.map ddD)]
noncomputable def sg (ns:List Int) (l:Nat) (v3 v4 v5 v6 v7 v8 v9:Option R):Env:=[some (.d (.lst (ns.map D.int))),some (.loc l),some (.loc (l+1)),v3,v4,v5,v6,v7,v8,v9,none,none,none,none]
theorem ziB {ss:List Sh} (oks:∀ s∈ss,ShOk s) (hss:ss.length<=12):∃ xs,splD (.str (catS [10] (ss.map shT))) (.str [10])=some xs/\cut xs none (some (ss.length:Int))=ss.map λs=>D.str (shT s):=by
 cases ss with
 | nil=>exact ⟨[.str []],rfl,rfl⟩
 | cons s ss=>
  refine ⟨((s::ss).map shT).map D.str,splJ (c:=10) (y:=[]) (x:=shT s) (l:=ss.map shT) (λx hx=>?_) ?_,?_⟩
  ·obtain ⟨y,hy,rfl⟩:=List.mem_map.mp (show x∈(s::ss).map shT from hx)
   exact zru (oks y hy)
  ·have:=zbs (z:=[10]) (B:=1000) ((s::ss).map shT) λx hx=>by
    obtain ⟨y,hy,rfl⟩:=List.mem_map.mp hx;exact (oks y hy).len
   refine Nat.le_trans this ?_;rw [List.length_map];simp only [List.length_cons,List.length_nil] at hss ⊢;omega
  ·rw [cutN,List.take_of_length_le (by simp),List.map_map];rfl
theorem zqc (s:Sh):(shD s).dep<=10:=by
 have h:D.deps (s.ls.map prD)<=5:=deps_le λx hx=>by
  obtain ⟨p,_,rfl⟩:=List.mem_map.mp hx
  have:=zkF p.1
  simp only [prD,D.dep,D.deps];omega
 simp only [shD,lnsD,D.dep,D.deps];omega
theorem zlE (ss:List Sh):(D.lst (ss.map shD)).dep<=60:=by
 have h:D.deps (ss.map shD)<=10:=deps_le λx hx=>by
  obtain ⟨s,_,rfl⟩:=List.mem_map.mp hx;exact zqc s
 rw [D.dep];omega
theorem zkS (ds:List Dd):(D.lst (ds.map ddD)).dep<=60:=by
 have h:D.deps (ds.map ddD)<=10:=deps_le λx hx=>by
  obtain ⟨d,_,rfl⟩:=List.mem_map.mp hx
  cases d<;>simp [ddD,ddL,D.dep,D.deps]
 rw [D.dep];omega
theorem zlU (ws:List W):(D.lst (ws.map D.str)).dep<=60:=by
 have h:D.deps (ws.map D.str)<=1:=deps_le λx hx=>by
  obtain ⟨d,_,rfl⟩:=List.mem_map.mp hx;simp [D.dep]
 rw [D.dep];omega
theorem zbv (x:D):(!x.eqb x)=false:=by rw [ze0];rfl
theorem zgG (n:Nat) {h:Sto} {l:Nat} {ss:List Sh} (e:h[l]?=some (.lst (ss.map shD))) (hs:∀ s∈ss,ShOk s) (hl:ss.length<=12) (k:Q (.d (.str (catS [10] (ss.map shT)))) h):Ok (zai P (n+4) 4 [.loc l] h) Q:=by
 refine cl (F:=⟨1,2,zaK,false,[],false⟩) rfl rfl rfl ?_;refine st e ?_;refine ask (zal (dD:=shD) (g:=λs=>D.str (shT s)) (xs:=ss) (λs hp=>?_) (zbJ e) ?_)
 ·refine gc ?_
  exact ask (zbU n (hs s hp) ⟨rfl,rfl⟩)
 rw [zau]
 refine st (zdI (z:=[10]) 1000 (λx hx=>?_) (by rw [List.length_map];simp only [List.length_cons,List.length_nil];omega)) (f0 k)
 obtain ⟨y,hy,rfl⟩:=List.mem_map.mp hx;exact (hs y hy).len
noncomputable def rest:List IT.S:=zlL.drop 3
theorem zom {n:Nat} {h g:Sto} {ns:List Int} {ss:List Sh} {ds:List Dd} {v3 v4:Option R} {Q:R->Sto->Prop} (oks:∀ s∈ss,ShOk s) (okd:∀ d∈ds,DdOk d) (hss:ss.length<=12) (hds:ds.length<=12) (kq:Q (.d (.bl true)) h) :
  wSs (zai P (n+13)) rest (sg ns h.length v3 v4 none none none none none) (h++Ob.lst (ss.map shD)::Ob.lst (ds.map ddD)::g) (kF h false false Q):=by
 refine st zah ?_;refine ask (zal (dD:=shD) (g:=λs=>D.str (shT s)) (xs:=ss) (λs hs=>?_) (zbJ zah) ?_)
 ·refine gc ?_
  exact ask (zgx (n+11) (oks s hs) ⟨rfl,rfl⟩)
 rw [zau]
 have jl:tmD .join (.str [10]) [.lst ((ss.map shT).map D.str)]=some (.str (catS [10] (ss.map shT))):=zdI (z:=[10]) 1000 (λx hx=>by
  obtain ⟨y,hy,rfl⟩:=List.mem_map.mp hx
  exact (oks y hy).len) (by rw [List.length_map];simp only [List.length_cons,List.length_nil];omega)
 refine st jl ?_;refine st zah ?_;refine ask (zal (dD:=shD) (g:=λs=>D.str (shT s)) (xs:=ss) (λs hs=>?_) (zbJ zah) ?_)
 ·refine gc ?_
  exact ask (zbU (n+10) (oks s hs) ⟨rfl,rfl⟩)
 refine st zah ?_;refine ask (zdW (n+9) oks hss ?_);refine bf (zbv _) ?_;obtain ⟨xs,e1,e2⟩:=ziB oks hss;refine st e1 ?_;refine st zah ?_;ac_rfl;rw [List.length_map,e2]
 refine st (zdP (zdy (by rw [zau];exact zlU _))) ?_
 refine bf (zbv _) ?_;refine ask (zaT (n+5) oks hss ?_);refine st zah ?_;refine st zah ?_;refine st sgA ?_;refine st (zdP (zdy (zlE ss))) ?_;refine bf (zbv _) ?_;refine ask (zgG (n+9) zah oks hss ?_);refine bf (zbv _) ?_;refine st sgB ?_;refine ask (zal (dD:=ddD) (g:=λd=>D.str (ddT d)) (xs:=ds) (λd hd=>?_) (zbJ sgB) ?_)
 ·refine gc ?_
  ac_rfl;have hp:=zi7 (okd d hd);rw [show List.map dI (ddL d)=List.map dI ((ddL d).map λx=>x) by rw [List.map_id']];refine ask (zal (dD:=λx=>x) (g:=λx=>D.str (txD x)) (xs:=ddL d) (λx hx=>?_) zag ?_)
  ·refine gc ?_
   refine st (hp x hx).str' ?_;exact ⟨rfl,rfl⟩
  ac_rfl;rw [zau]
  refine st (zdI (z:=[32]) 41 (λx hx=>?_) (by have:=zji d;rw [List.length_map];simp only [List.length_cons,List.length_nil];omega)) ?_
  ·obtain ⟨y,hy,rfl⟩:=List.mem_map.mp hx
   exact (hp y hy).len
  ·exact ⟨rfl,rfl⟩
 have jd:tmD .join (.str [10]) [.lst (ds.map λd=>D.str (ddT d))]=some (.str (catS [10] (ds.map ddT))):=by
  rw [zau]
  exact zdI (z:=[10]) 168 (λx hx=>by
   obtain ⟨y,hy,rfl⟩:=List.mem_map.mp hx
   exact zik (okd y hy)) (by rw [List.length_map];simp only [List.length_cons,List.length_nil];omega)
 refine st sgB ?_;refine ask (zdq (n+11) okd hds ?_);refine st jd ?_;refine bf (zbv _) ?_;refine st jd ?_;refine ask (zaV (n+7) okd hds ?_);refine st zah ?_;refine st zah ?_;refine st sgB3 ?_;refine st (zdP (zdy (zkS ds))) ?_;refine bf (zbv _) ?_;refine st sgA ?_;refine st sgA ?_;rw [ssA];rw [show (h++Ob.lst (ss.map shD)::Ob.lst (ds.map ddD)::g++[Ob.lst (ss.map shD)]).length=(h++Ob.lst (ss.map shD)::Ob.lst (ds.map ddD)::g++[Ob.lst []]).length by simp];refine st zah ?_;refine st zah ?_;rw [zbu];refine ask (zaT (n+5) oks hss ?_);ac_rfl;refine st zah ?_
 refine st (gA (by simp only [List.append_assoc,List.cons_append];rfl)) ?_
 refine st (zdP (zdy (zlE ss))) ?_;refine bf (zbv _) ?_;refine st jd ?_;refine ask (zaV (n+7) okd hds ?_);ac_rfl;refine st zah ?_
 refine st (gB (by simp only [List.append_assoc,List.cons_append];rfl)) ?_
 refine st (zdP (zdy (zkS ds))) ?_;refine bf (zbv _) ?_;refine ask (zaT (n+5) (ss:=[]) (by simp) (by simp) ?_);refine st zah ?_;refine ask (zdW (n+9) (ss:=[]) (by simp) (by simp) ?_);refine ask (zaV (n+7) (ds:=[]) (by simp) (by simp) ?_);refine st zah ?_;refine ask (zdq (n+11) (ds:=[]) (by simp) (by simp) ?_);simp only [List.append_assoc];exact fa kq
theorem law_call (n:Nat) {h:Sto} {ns:List Int} (kq:Q (.d (.bl true)) h):Ok (zai P (n+14) 30 [.d (.lst (ns.map D.int))] h) Q:=by
 refine cl (F:=⟨1,14,zlL,false,[],false⟩) rfl rfl rfl ?_;ac_rfl;rw [zsg,List.map_map,len1,show h++[Ob.lst []]++[Ob.lst []]=h++Ob.lst []::Ob.lst []::[] by simp];refine ask (zjS (g:=dI∘D.int) (xs:=ns.take 12) (λj σ h'=>j<=12/\∃ (ss:List Sh) (ds:List Dd) (g:Sto),ss.length=j/\ds.length=j/\(∀ s∈ss,ShOk s)/\(∀ d∈ds,DdOk d)/\h'=h++Ob.lst (ss.map shD)::Ob.lst (ds.map ddD)::g/\∃ v3 v4,σ=sg ns h.length v3 v4 none none none none none) ?_ ?_ ?_)
 ·rintro j c σ h' hc ⟨hj,ss,ds,g,hss,hds,oks,okd,rfl,v3,v4,rfl⟩
  have hj2:j<12:=by
   have:=(List.getElem?_eq_some_iff.mp hc).1
   rw [List.length_take] at this;omega
  refine gb ?_;refine ask (zkW (n+12) λa b=>?_);refine st sgA ?_;refine ask (ziV (n+9) λs a1 b1 hs=>?_)
  refine st sgA ⟨by simp [big];omega,?_⟩
  rw [ssA];refine st sgB ?_;rw [show (h++Ob.lst (ss.map shD)::Ob.lst (ds.map ddD)::g).length=(h++Ob.lst (ss.map shD++[shD s])::Ob.lst (ds.map ddD)::g).length by simp];refine ask (zlq (n+11) λd a2 b2 hd=>?_)
  refine st sgB ⟨by simp [big];omega,?_⟩
  rw [ssB];refine ⟨rfl,zag,by omega,ss++[s],ds++[d],g++[dr a2 b2],by simp [hss],by simp [hds],λx hx=>?_,λx hx=>?_,by simp,_,_,rfl⟩
  ·rcases List.mem_append.mp hx with hx | hx
   ·exact oks x hx
   ·rw [List.mem_singleton.mp hx];exact hs
  ·rcases List.mem_append.mp hx with hx | hx
   ·exact okd x hx
   ·rw [List.mem_singleton.mp hx];exact hd
 ·rintro σ h' ⟨hj,ss,ds,g,hss,hds,oks,okd,rfl,v3,v4,rfl⟩
  have hss:ss.length<=12:=by omega
  have hds:ds.length<=12:=by omega
  exact zom (n:=n) oks okd hss hds kq
 ·exact ⟨by omega,[],[],[],rfl,rfl,by simp,by simp,rfl,_,_,rfl⟩
theorem zmu {ns:List Int} (hl:ns.length<=63):zai P 14 30 [.d (.lst (ns.map .int))] []=some (.d (.bl true),[]):=by
 obtain ⟨r,h,e,rfl,rfl⟩:=law_call 0 (h:=[]) (Q:=λr h=>r=.d (.bl true)/\h=[]) (ns:=ns) ⟨rfl,rfl⟩;exact e
open PySem PySem.Spec L2 IT
noncomputable def fns:List (Str×Nat×List D):=[("is_number",2,[]),("is_signed_number",2,[]),("is_word",1,[]),("is_kind",1,[]),("paper_text",1,[]),("shape_text",1,[]),("config_text",1,[]),("way_text",1,[]),("deeds_text",1,[]),("spaced",1,[]),("read_paper",1,[]),("read_deeds",1,[]),("rows_of",1,[]),("all_good",1,[]),("read_shape",1,[]),("are_in_order",1,[]),("read_line",1,[]),("read_config",1,[]),("read_way",1,[]),("is_letter",1,[]),("read_deed",1,[]),("read_ask",2,[]),("_law_draw",1,[]),("_law_next",2,[]),("_law_word",1,[]),("_law_way",1,[]),("_law_shape",1,[]),("_law_deed",1,[]),("_law_way_text",1,[]),("_law_shape_text",1,[]),("law",1,[])]
noncomputable def cls:List zkw:=[]
noncomputable def globs:List (Str×D):=[("ASKS",(.tup [(.str [114,101,97,100]),(.str [119,114,105,116,101]),(.str [100,114,111,112])])),("COUNTS",(.tup [(.str [111,110,101]),(.str [115,111,109,101]),(.str [97,110,121])])),("FIGURES",(.str [48,49,50,51,52,53,54,55,56,57])),("FIGURES_OF_NUMBER",(.int 40)),("FIGURES_OF_PLACE",(.int 2)),("FLAGS",(.tup [(.str [45]),(.str [115]),(.str [111]),(.str [115,111])])),("LETTER_MARKS",(.tup [(.str [98,97,114,101]),(.str [108,97,115,116]),(.str [111,108,100])])),("MARKS",(.tup [(.str [110,111,110,101]),(.str [108,97,115,116]),(.str [111,108,100])])),("MOST_LETTERS",(.int 8)),("NO_LETTERS",(.str [45])),("SMALL_LETTERS",(.str [97,98,99,100,101,102,103,104,105,106,107,108,109,110,111,112,113,114,115,116,117,118,119,120,121,122])),("WAY_HOLDS",(.int 2))]
noncomputable def gds:List (Str×List (List Nat×D)):=[]
noncomputable def bd (n:Nat):Stmt:=PySem.Challenge.pw_copyclerk_k81_papers_written_and_read.main.body.getD n (.Pass ⟨0,0,0,0⟩)
noncomputable abbrev Cd (b:List S) (n p:List Str) (s:Stmt):Prop:=n.Nodup/\(∀ x∈p,(zam s).names.lookup x=some .local\/(zam s).names.lookup x=some .cell)/\(∀ y∈(zam s).names,y.2≠.free)/\chkSs b ⟨n,(zam s).names,fns,globs,true,cls,gds⟩ (za9 s)=true
theorem Cd.sc {b:List S} {n p:List Str} {s:Stmt} (c:Cd b n p s) (h1:(zam s).kind=.function) (h2:(zam s).isCoroutine=false) (h3:(zam s).isGenerator=false) (h4:n.take p.length=p):zdx n p (zam s):=⟨h1,h2,h3,c.1,h4,c.2.1,c.2.2.1⟩
noncomputable def zdL:Stmt:=bd 5
noncomputable def zgZ:List Str:=["word", "most", "?1?sign"]
noncomputable def zb0:List Str:=["word", "most"]
theorem zg4:Cd zbR zgZ zb0 zdL:=by decide +kernel
noncomputable def zaO:Stmt:=bd 6
noncomputable def zct:List Str:=["word", "most"]
noncomputable def zay:List Str:=["word", "most"]
theorem zce:Cd zax zct zay zaO:=by decide +kernel
noncomputable def zfT:Stmt:=bd 11
noncomputable def zk3:List Str:=["text", "?1?sign"]
noncomputable def zdU:List Str:=["text"]
theorem zko:Cd zdl zk3 zdU zfT:=by decide +kernel
noncomputable def zgD:Stmt:=bd 12
noncomputable def zkD:List Str:=["text"]
noncomputable def zdJ:List Str:=["text"]
theorem zld:Cd zd3 zkD zdJ zgD:=by decide +kernel
noncomputable def zc3:Stmt:=bd 22
noncomputable def zgz:List Str:=["paper", "?1?shape"]
noncomputable def zbA:List Str:=["paper"]
theorem zgR:Cd zaK zgz zbA zc3:=by decide +kernel
noncomputable def zcR:Stmt:=bd 23
noncomputable def zgd:List Str:=["shape", "head", "lines", "?1?config", "?1?count"]
noncomputable def zbt:List Str:=["shape"]
theorem zf0:Cd zbD zgd zbt zcR:=by decide +kernel
noncomputable def zb6:Stmt:=bd 24
noncomputable def zff:List Str:=["config"]
noncomputable def zbb:List Str:=["config"]
theorem zfd:Cd za8 zff zbb zb6:=by decide +kernel
noncomputable def zeh:Stmt:=bd 25
noncomputable def zi8:List Str:=["way", "?1?letter"]
noncomputable def zcN:List Str:=["way"]
theorem ziS:Cd zcQ zi8 zcN zeh:=by decide +kernel
noncomputable def zcY:Stmt:=bd 26
noncomputable def zgA:List Str:=["deeds", "?1?deed"]
noncomputable def zbk:List Str:=["deeds"]
theorem zfS:Cd zbC zgA zbk zcY:=by decide +kernel
noncomputable def zie:Stmt:=bd 27
noncomputable def zmv:List Str:=["parts", "?1?part"]
noncomputable def zfn:List Str:=["parts"]
theorem zmP:Cd zeX zmv zfn zie:=by decide +kernel
noncomputable def zc0:Stmt:=bd 28
noncomputable def zgb:List Str:=["text", "?1?row"]
noncomputable def zbr:List Str:=["text"]
theorem zfK:Cd zbE zgb zbr zc0:=by decide +kernel
noncomputable def zcZ:Stmt:=bd 29
noncomputable def zf9:List Str:=["text", "?1?row"]
noncomputable def zbq:List Str:=["text"]
theorem zgB:Cd zbo zf9 zbq zcZ:=by decide +kernel
noncomputable def zgc:Stmt:=bd 30
noncomputable def zlD:List Str:=["text"]
noncomputable def zdC:List Str:=["text"]
theorem zkH:Cd zd4 zlD zdC zgc:=by decide +kernel
noncomputable def zeq:Stmt:=bd 31
noncomputable def ziT:List Str:=["things"]
noncomputable def zcx:List Str:=["things"]
theorem ziJ:Cd zcD ziT zcx zeq:=by decide +kernel
noncomputable def zcS:Stmt:=bd 32
noncomputable def zgf:List Str:=["row", "halves", "head", "lines", "?1?part", "?2?line"]
noncomputable def zbz:List Str:=["row"]
theorem zfG:Cd zaN zgf zbz zcS:=by decide +kernel
noncomputable def zbQ:Stmt:=bd 33
noncomputable def zea:List Str:=["configs"]
noncomputable def zaQ:List Str:=["configs"]
theorem zeg:Cd zaU zea zaQ zbQ:=by decide +kernel
noncomputable def zdz:Stmt:=bd 34
noncomputable def zg1:List Str:=["part", "words", "config"]
noncomputable def zbT:List Str:=["part"]
theorem zho:Cd zbY zg1 zbT zdz:=by decide +kernel
noncomputable def zcl:Stmt:=bd 35
noncomputable def zfC:List Str:=["words", "to", "back"]
noncomputable def zbg:List Str:=["words"]
theorem zfE:Cd zbe zfC zbg zcl:=by decide +kernel
noncomputable def zeF:Stmt:=bd 36
noncomputable def ziC:List Str:=["word", "letters", "?1?part", "?2?letter"]
noncomputable def zcO:List Str:=["word"]
theorem ziZ:Cd zcM ziC zcO zeF:=by decide +kernel
noncomputable def zdY:Stmt:=bd 37
noncomputable def zhA:List Str:=["letter"]
noncomputable def zbS:List Str:=["letter"]
theorem zg2:Cd zbW zhA zbS zdY:=by decide +kernel
noncomputable def zdv:Stmt:=bd 38
noncomputable def zhk:List Str:=["row", "words", "hand"]
noncomputable def zb2:List Str:=["row"]
theorem zhv:Cd zb3 zhk zb2 zdv:=by decide +kernel
noncomputable def zek:Stmt:=bd 39
noncomputable def ziD:List Str:=["hand", "words"]
noncomputable def zcF:List Str:=["hand", "words"]
theorem ziP:Cd zbI ziD zcF zek:=by decide +kernel
noncomputable def zhV:Stmt:=bd 41
noncomputable def zmb:List Str:=["_law_cell"]
noncomputable def ze2:List Str:=["_law_cell"]
theorem zl4:Cd zeG zmb ze2 zhV:=by decide +kernel
noncomputable def zit:Stmt:=bd 42
noncomputable def zmU:List Str:=["_law_draw_here", "_law_size", "_law_digit", "_law_number"]
noncomputable def zfw:List Str:=["_law_draw_here", "_law_size"]
theorem zl3:Cd ze9 zmU zfw zit:=by decide +kernel
noncomputable def zh0:Stmt:=bd 43
noncomputable def zmj:List Str:=["_law_draw_here", "_law_some", "_law_word_here", "_law_k"]
noncomputable def zfr:List Str:=["_law_draw_here"]
theorem zmC:Cd zeK zmj zfr zh0:=by decide +kernel
noncomputable def zk2:Stmt:=bd 44
noncomputable def zo8:List Str:=["_law_draw_here", "_law_way_here", "_law_k", "_law_kind"]
noncomputable def zg3:List Str:=["_law_draw_here"]
theorem zo0:Cd zhC zo8 zg3 zk2:=by decide +kernel
noncomputable def zgu:Stmt:=bd 45
noncomputable def zkB:List Str:=["_law_draw_here", "_law_lines", "_law_house", "_law_k", "_law_mark", "_law_config"]
noncomputable def zd0:List Str:=["_law_draw_here"]
theorem zjC:Cd zdm zkB zd0 zgu:=by decide +kernel
noncomputable def zhN:Stmt:=bd 46
noncomputable def zlQ:List Str:=["_law_draw_here", "_law_hand", "_law_way_here"]
noncomputable def zeJ:List Str:=["_law_draw_here"]
theorem zmz:Cd zfA zlQ zeJ zhN:=by decide +kernel
noncomputable def zc2:Stmt:=bd 47
noncomputable def zfP:List Str:=["_law_way_here", "?1?_law_kind", "?1?_law_mark"]
noncomputable def zbl:List Str:=["_law_way_here"]
theorem zgs:Cd zby zfP zbl zc2:=by decide +kernel
noncomputable def zbO:Stmt:=bd 48
noncomputable def zed:List Str:=["_law_shape_here", "_law_text", "_law_between", "_law_config", "_law_count", "_law_words"]
noncomputable def zaP:List Str:=["_law_shape_here"]
theorem zef:Cd zaS zed zaP zbO:=by decide +kernel
noncomputable def zqL:Stmt:=bd 49
noncomputable def zrN:List Str:=["_law_script", "_law_paper", "_law_deeds", "_law_cell", "_law_draw_here", "_law_text", "_law_texts", "_law_found", "_law_rows", "_law_again", "?1?_law_shape_here", "?2?_law_shape_here", "?3?_law_deed_here", "?4?_law_part"]
noncomputable def zoT:List Str:=["_law_script"]
theorem zst:Cd zlL zrN zoT zqL:=by decide +kernel
inductive DI (K:PySem.W.Frag) (n:Str) (s:Stmt) (dV:Value) (f:Addr) (v:FuncData):Prop
 | mk {oc kV dc pm cd ct:Value} {od an:Option Addr} {sl:Array (Option Value)} (a:PySem.W.nsIn K mainGlobals n=some (some (.ref f))) (l:K.lookup f=some ⟨oc,od,.func v,sl⟩) (e:v=PySem.W.fnOf n n (zdE s) (za9 s) (zam s) dV kV dc pm an cd ct) (c:PySem.W.codeIn K cd n=true) (k:PySem.W.keepIn K (.ref f)=true)
section
variable {K:PySem.W.Frag} {n q:Str} {s:Stmt} {dV:Value} {f C:Addr} {v:FuncData} {N ps:List Str} {i:Nat} {B:F} (h5:(zam s).kind=.function) (h6:(zam s).isCoroutine=false) (h7:(zam s).isGenerator=false) (h8:N.take ps.length=ps) (e:P[i]?=some B) (h1:B.np=ps.length) (h2:B.ns=N.length) (h3:B.dfl=[]) (c:Cd B.body N ps s)
include h5 h6 h7 h8 e h1 h2 h3 c
theorem dat0 (F:Fun2 K n q s f v) (h:∀ us:List Value,us.length=ps.length->bindArgs v ⟨us,[]⟩=pure (ps.zip us)):ziW K fns cls P globs gds i n q s f v N ps B:=
 ⟨e, F,c.sc h5 h6 h7 h8,h1,h2,by
  rw [h3]
  exact ⟨[],λ_ _=>.nil,λj hj=>by
   obtain rfl:j=0:=Nat.le_zero.mp hj
   exact ⟨[],.all h,.nil⟩⟩,c.2.2.2⟩
theorem DI.dat (D:DI K n s .none f v) (h:∀ kV dc pm an cd ct,∀ us:List Value,us.length=ps.length->bindArgs (PySem.W.fnOf n n (zdE s) (za9 s) (zam s) .none kV dc pm an cd ct) ⟨us,[]⟩=pure (ps.zip us)):ziW K fns cls P globs gds i n n s f v N ps B:=by
 obtain ⟨_,l,E,c',k⟩:=D;subst E;exact dat0 h5 h6 h7 h8 e h1 h2 h3 c (zoI l c' k) (h _ _ _ _ _ _)
end
section
variable {K:PySem.W.Frag} {n q:Str} {s:Stmt} {dV:Value} {f C:Addr} {v:FuncData}
theorem DI.mg {mg:Str->Option Value} {h:Heap} (D:DI K n s dV f v) (X:K.In h) (G:h.Ns mainGlobals mg):mg n=some (.ref f):=by
 obtain ⟨a,_,_,_,_⟩:=D;exact PySem.W.mg_of X G a
end
inductive DL (K:PySem.W.Frag):Nat->List F->List Addr->List FuncData->List (List Str)->Prop
 | nil (i:Nat):DL K i [] [] [] []
 | cons {i:Nat} {B:F} {Bs:List F} {f:Addr} {fs:List Addr} {v:FuncData} {vs:List FuncData} {p:List Str} {ps:List (List Str)} {x q:Str} {st:Stmt} {N:List Str} (d:ziW K fns cls P globs gds i x q st f v N p B) (r:DL K (i+1) Bs fs vs ps):DL K i (B::Bs) (f::fs) (v::vs) (p::ps)
theorem DL.get {K:PySem.W.Frag} {v0:FuncData} {B:F} {i:Nat} {Bs:List F} {fs:List Addr} {vs:List FuncData} {ps:List (List Str)} (L:DL K i Bs fs vs ps):∀ j,Bs[j]?=some B->∃ x q st N,ziW K fns cls P globs gds (i+j) x q st (fs.getD j 0) (vs.getD j v0) N (ps.getD j []) B:=by
 induction L with
 | nil i=>intro j e;simp at e
 | cons d r ih=>
  intro j e
  cases j with
  | zero=>cases e;exact ⟨_,_,_,_,d⟩
  | succ j=>
   obtain ⟨x,q,st,N,z⟩:=ih j (by simpa using e);rw [Nat.add_right_comm] at z;exact ⟨x,q,st,N,z⟩
inductive FL (mg:Str->Option Value):List (Str×Nat×List D)->List Addr->List F->Prop
 | nil (fs:List Addr) (Bs:List F):FL mg [] fs Bs
 | cons {p:Str×Nat×List D} {ps:List (Str×Nat×List D)} {f:Addr} {fs:List Addr} {B:F} {Bs:List F} (h:mg p.1=some (.ref f)) (h1:B.np=p.2.1) (h2:B.dfl=p.2.2) (r:FL mg ps fs Bs):FL mg (p::ps) (f::fs) (B::Bs)
theorem FL.get {mg:Str->Option Value} {p:Str×Nat×List D} {ps:List (Str×Nat×List D)} {fs:List Addr} {Bs:List F} (L:FL mg ps fs Bs):∀ j,ps[j]?=some p->mg p.1=some (.ref (fs.getD j 0))/\∃ B,Bs[j]?=some B/\B.np=p.2.1/\B.dfl=p.2.2:=by
 induction L with
 | nil=>intro j e;simp at e
 | cons h h1 h2 r ih=>
  intro j e
  cases j with
  | zero=>cases e;exact ⟨h,_,rfl,h1,h2⟩
  | succ j=>exact ih j (by simpa using e)
theorem all_mk {l:PySem.W.OpenLaw} {w:World} {K:PySem.W.Frag} {h:Heap} {mg:Str->Option Value} {fa f1 f2 f3 f4 f5 f6 f7 f8 f9 f10 f11 f12 f13 f14 f15 f16 f17 f18 f19 f20 f21 f22 f23 f24 f25 f26 f27 f28 f29 f30 f31 ga0 ga1 ga2 ga3 ga4:Addr} (X:K.In h) (G:h.Ns mainGlobals mg) (hfa:mg "law"=some (.ref fa))
  {gs1 gs2 gs3 gs4 gs5:Array (Option Value)} {v1 v2 v3 v4 v5 v6 v7 v8 v9 v10 v11 v12 v13 v14 v15 v16 v17 v18 v19 v20 v21 v22 v23 v24 v25 v26 v27 v28 v29 v30 v31:FuncData}
  {tk0 tk1 tk2 tk3 tk4 tk5 tk6 tk7 tk8 tk9 tk10 tk11 tk12 tk13 tk14 tk15 tk16 tk17 tk18 tk19 tk20 tk21 tk22:Tok}
  {gn1 gn2 gn3 gn4 gn5:Nat}
  (D1:DI K "is_number" zdL .none f1 v1)
  (D2:DI K "is_signed_number" zaO .none f2 v2)
  (D3:DI K "is_word" zfT .none f3 v3)
  (D4:DI K "is_kind" zgD .none f4 v4)
  (D5:DI K "paper_text" zc3 .none f5 v5)
  (D6:DI K "shape_text" zcR .none f6 v6)
  (D7:DI K "config_text" zb6 .none f7 v7)
  (D8:DI K "way_text" zeh .none f8 v8)
  (D9:DI K "deeds_text" zcY .none f9 v9)
  (D10:DI K "spaced" zie .none f10 v10)
  (D11:DI K "read_paper" zc0 .none f11 v11)
  (D12:DI K "read_deeds" zcZ .none f12 v12)
  (D13:DI K "rows_of" zgc .none f13 v13)
  (D14:DI K "all_good" zeq .none f14 v14)
  (D15:DI K "read_shape" zcS .none f15 v15)
  (D16:DI K "are_in_order" zbQ .none f16 v16)
  (D17:DI K "read_line" zdz .none f17 v17)
  (D18:DI K "read_config" zcl .none f18 v18)
  (D19:DI K "read_way" zeF .none f19 v19)
  (D20:DI K "is_letter" zdY .none f20 v20)
  (D21:DI K "read_deed" zdv .none f21 v21)
  (D22:DI K "read_ask" zek .none f22 v22)
  (D23:DI K "_law_draw" zhV .none f23 v23)
  (D24:DI K "_law_next" zit .none f24 v24)
  (D25:DI K "_law_word" zh0 .none f25 v25)
  (D26:DI K "_law_way" zk2 .none f26 v26)
  (D27:DI K "_law_shape" zgu .none f27 v27)
  (D28:DI K "_law_deed" zhN .none f28 v28)
  (D29:DI K "_law_way_text" zc2 .none f29 v29)
  (D30:DI K "_law_shape_text" zbO .none f30 v30)
  (D31:DI K "law" zqL .none f31 v31)
  (y1:K.lookup ga0=some ⟨.type "tuple",none,.seq #[(.str (PySem.Str.ofString "read") tk0),(.str (PySem.Str.ofString "write") tk1),(.str (PySem.Str.ofString "drop") tk2)] gn1,gs1⟩)
  (x0:PySem.W.nsIn K mainGlobals "ASKS"=some (some (.ref ga0)))
  (y2:K.lookup ga1=some ⟨.type "tuple",none,.seq #[(.str (PySem.Str.ofString "one") tk3),(.str (PySem.Str.ofString "some") tk4),(.str (PySem.Str.ofString "any") tk5)] gn2,gs2⟩)
  (x1:PySem.W.nsIn K mainGlobals "COUNTS"=some (some (.ref ga1)))
  (x2:PySem.W.nsIn K mainGlobals "FIGURES"=some (some (.str (PySem.Str.ofString "0123456789") tk6)))
  (x3:PySem.W.nsIn K mainGlobals "FIGURES_OF_NUMBER"=some (some (.int 40 tk7)))
  (x4:PySem.W.nsIn K mainGlobals "FIGURES_OF_PLACE"=some (some (.int 2 tk8)))
  (y3:K.lookup ga2=some ⟨.type "tuple",none,.seq #[(.str (PySem.Str.ofString "-") tk9),(.str (PySem.Str.ofString "s") tk10),(.str (PySem.Str.ofString "o") tk11),(.str (PySem.Str.ofString "so") tk12)] gn3,gs3⟩)
  (x5:PySem.W.nsIn K mainGlobals "FLAGS"=some (some (.ref ga2)))
  (y4:K.lookup ga3=some ⟨.type "tuple",none,.seq #[(.str (PySem.Str.ofString "bare") tk13),(.str (PySem.Str.ofString "last") tk14),(.str (PySem.Str.ofString "old") tk15)] gn4,gs4⟩)
  (x6:PySem.W.nsIn K mainGlobals "LETTER_MARKS"=some (some (.ref ga3)))
  (y5:K.lookup ga4=some ⟨.type "tuple",none,.seq #[(.str (PySem.Str.ofString "none") tk16),(.str (PySem.Str.ofString "last") tk17),(.str (PySem.Str.ofString "old") tk18)] gn5,gs5⟩)
  (x7:PySem.W.nsIn K mainGlobals "MARKS"=some (some (.ref ga4)))
  (x8:PySem.W.nsIn K mainGlobals "MOST_LETTERS"=some (some (.int 8 tk19)))
  (x9:PySem.W.nsIn K mainGlobals "NO_LETTERS"=some (some (.str (PySem.Str.ofString "-") tk20)))
  (x10:PySem.W.nsIn K mainGlobals "SMALL_LETTERS"=some (some (.str (PySem.Str.ofString "abcdefghijklmnopqrstuvwxyz") tk21)))
  (x11:PySem.W.nsIn K mainGlobals "WAY_HOLDS"=some (some (.int 2 tk22)))
  (z1:PySem.W.nsIn K mainGlobals "len"=some none)
  (z2:PySem.W.nsIn K mainGlobals "sum"=some none)
  (z3:PySem.W.nsIn K mainGlobals "tuple"=some none)
  (z4:PySem.W.nsIn K mainGlobals "int"=some none)
  (z5:PySem.W.nsIn K mainGlobals "range"=some none)
  (z6:PySem.W.nsIn K mainGlobals "all"=some none)
  (z7:PySem.W.nsIn K mainGlobals "any"=some none)
  (z8:PySem.W.nsIn K mainGlobals "max"=some none)
  (z9:PySem.W.nsIn K mainGlobals "min"=some none)
  (z10:PySem.W.nsIn K mainGlobals "list"=some none)
  (z11:PySem.W.nsIn K mainGlobals "isinstance"=some none)
  (z12:PySem.W.nsIn K mainGlobals "str"=some none)
  (z13:PySem.W.nsIn K mainGlobals "bool"=some none)
  (z14:PySem.W.nsIn K mainGlobals "dict"=some none)
  (z15:PySem.W.nsIn K mainGlobals "enumerate"=some none)
  (z16:PySem.W.nsIn K mainGlobals "sorted"=some none)
  (z17:PySem.W.nsIn K mainGlobals "set"=some none)
  : ∃ fd:FuncData,(∀ (s:Shared) (v:Value),BindsTo s fd ⟨[v],[]⟩ [("_law_script",v)])/\∀ base:Heap,K.In base->base.Ns mainGlobals mg->FnOk l.prog w K mg base CX0 28 fa fd ["_law_script"] (spF K 1 (zai P 14 30)):=by
 have e:=hfa.symm.trans (D31.mg X G);cases e
 have blt:∀ x∈zcp,mg x=none:=by
  intro x hx;simp only [zcp,List.mem_cons,List.not_mem_nil,or_false] at hx
  rcases hx with rfl | rfl | rfl | rfl | rfl | rfl | rfl | rfl | rfl | rfl | rfl | rfl | rfl | rfl | rfl | rfl | rfl
  ·exact PySem.W.mg_none_of X G z1
  ·exact PySem.W.mg_none_of X G z2
  ·exact PySem.W.mg_none_of X G z3
  ·exact PySem.W.mg_none_of X G z4
  ·exact PySem.W.mg_none_of X G z5
  ·exact PySem.W.mg_none_of X G z6
  ·exact PySem.W.mg_none_of X G z7
  ·exact PySem.W.mg_none_of X G z8
  ·exact PySem.W.mg_none_of X G z9
  ·exact PySem.W.mg_none_of X G z10
  ·exact PySem.W.mg_none_of X G z11
  ·exact PySem.W.mg_none_of X G z12
  ·exact PySem.W.mg_none_of X G z13
  ·exact PySem.W.mg_none_of X G z14
  ·exact PySem.W.mg_none_of X G z15
  ·exact PySem.W.mg_none_of X G z16
  ·exact PySem.W.mg_none_of X G z17
 have gl:∀ (x:Str) (d:D),globs.lookup x=some d->∃ u v,mg x=some u/\RelV v u/\∀ A H,RepD K A H d v:=by
  intro x d e;unfold globs at e;rw [List.lookup_cons] at e
  split at e
  ·rename_i hx
   have hx:=eq_of_beq hx;subst hx;cases e
   exact ⟨_,(V.ref ga0),PySem.W.mg_of X G x0,rfl,λA H=>by simp only [RepD];exact ⟨ga0,[(V.str (PySem.Str.ofString "read")),(V.str (PySem.Str.ofString "write")),(V.str (PySem.Str.ofString "drop"))],rfl,.inr ⟨_,_,_,y1,rfl,rfl,rfl,by show 3<=sizeLine;decide,(.cons ⟨_,rfl⟩ (.cons ⟨_,rfl⟩ (.cons ⟨_,rfl⟩ .nil)))⟩,(.cons (by simp only [RepD];rfl) (.cons (by simp only [RepD];rfl) (.cons (by simp only [RepD];rfl) .nil)))⟩⟩
  rw [List.lookup_cons] at e
  split at e
  ·rename_i hx
   have hx:=eq_of_beq hx;subst hx;cases e
   exact ⟨_,(V.ref ga1),PySem.W.mg_of X G x1,rfl,λA H=>by simp only [RepD];exact ⟨ga1,[(V.str (PySem.Str.ofString "one")),(V.str (PySem.Str.ofString "some")),(V.str (PySem.Str.ofString "any"))],rfl,.inr ⟨_,_,_,y2,rfl,rfl,rfl,by show 3<=sizeLine;decide,(.cons ⟨_,rfl⟩ (.cons ⟨_,rfl⟩ (.cons ⟨_,rfl⟩ .nil)))⟩,(.cons (by simp only [RepD];rfl) (.cons (by simp only [RepD];rfl) (.cons (by simp only [RepD];rfl) .nil)))⟩⟩
  rw [List.lookup_cons] at e
  split at e
  ·rename_i hx
   have hx:=eq_of_beq hx;subst hx;cases e
   exact ⟨_,(V.str (PySem.Str.ofString "0123456789")),PySem.W.mg_of X G x2,⟨_,rfl⟩,λA H=>by simp only [RepD];rfl⟩
  rw [List.lookup_cons] at e
  split at e
  ·rename_i hx
   have hx:=eq_of_beq hx;subst hx;cases e;exact ⟨_,(V.int 40),PySem.W.mg_of X G x3,⟨_,rfl⟩,λA H=>by simp only [RepD]⟩
  rw [List.lookup_cons] at e
  split at e
  ·rename_i hx
   have hx:=eq_of_beq hx;subst hx;cases e;exact ⟨_,(V.int 2),PySem.W.mg_of X G x4,⟨_,rfl⟩,λA H=>by simp only [RepD]⟩
  rw [List.lookup_cons] at e
  split at e
  ·rename_i hx
   have hx:=eq_of_beq hx;subst hx;cases e
   exact ⟨_,(V.ref ga2),PySem.W.mg_of X G x5,rfl,λA H=>by simp only [RepD];exact ⟨ga2,[(V.str (PySem.Str.ofString "-")),(V.str (PySem.Str.ofString "s")),(V.str (PySem.Str.ofString "o")),(V.str (PySem.Str.ofString "so"))],rfl,.inr ⟨_,_,_,y3,rfl,rfl,rfl,by show 4<=sizeLine;decide,(.cons ⟨_,rfl⟩ (.cons ⟨_,rfl⟩ (.cons ⟨_,rfl⟩ (.cons ⟨_,rfl⟩ .nil))))⟩,(.cons (by simp only [RepD];rfl) (.cons (by simp only [RepD];rfl) (.cons (by simp only [RepD];rfl) (.cons (by simp only [RepD];rfl) .nil))))⟩⟩
  rw [List.lookup_cons] at e
  split at e
  ·rename_i hx
   have hx:=eq_of_beq hx;subst hx;cases e
   exact ⟨_,(V.ref ga3),PySem.W.mg_of X G x6,rfl,λA H=>by simp only [RepD];exact ⟨ga3,[(V.str (PySem.Str.ofString "bare")),(V.str (PySem.Str.ofString "last")),(V.str (PySem.Str.ofString "old"))],rfl,.inr ⟨_,_,_,y4,rfl,rfl,rfl,by show 3<=sizeLine;decide,(.cons ⟨_,rfl⟩ (.cons ⟨_,rfl⟩ (.cons ⟨_,rfl⟩ .nil)))⟩,(.cons (by simp only [RepD];rfl) (.cons (by simp only [RepD];rfl) (.cons (by simp only [RepD];rfl) .nil)))⟩⟩
  rw [List.lookup_cons] at e
  split at e
  ·rename_i hx
   have hx:=eq_of_beq hx;subst hx;cases e
   exact ⟨_,(V.ref ga4),PySem.W.mg_of X G x7,rfl,λA H=>by simp only [RepD];exact ⟨ga4,[(V.str (PySem.Str.ofString "none")),(V.str (PySem.Str.ofString "last")),(V.str (PySem.Str.ofString "old"))],rfl,.inr ⟨_,_,_,y5,rfl,rfl,rfl,by show 3<=sizeLine;decide,(.cons ⟨_,rfl⟩ (.cons ⟨_,rfl⟩ (.cons ⟨_,rfl⟩ .nil)))⟩,(.cons (by simp only [RepD];rfl) (.cons (by simp only [RepD];rfl) (.cons (by simp only [RepD];rfl) .nil)))⟩⟩
  rw [List.lookup_cons] at e
  split at e
  ·rename_i hx
   have hx:=eq_of_beq hx;subst hx;cases e;exact ⟨_,(V.int 8),PySem.W.mg_of X G x8,⟨_,rfl⟩,λA H=>by simp only [RepD]⟩
  rw [List.lookup_cons] at e
  split at e
  ·rename_i hx
   have hx:=eq_of_beq hx;subst hx;cases e
   exact ⟨_,(V.str (PySem.Str.ofString "-")),PySem.W.mg_of X G x9,⟨_,rfl⟩,λA H=>by simp only [RepD];rfl⟩
  rw [List.lookup_cons] at e
  split at e
  ·rename_i hx
   have hx:=eq_of_beq hx;subst hx;cases e
   exact ⟨_,(V.str (PySem.Str.ofString "abcdefghijklmnopqrstuvwxyz")),PySem.W.mg_of X G x10,⟨_,rfl⟩,λA H=>by simp only [RepD];rfl⟩
  rw [List.lookup_cons] at e
  split at e
  ·rename_i hx
   have hx:=eq_of_beq hx;subst hx;cases e;exact ⟨_,(V.int 2),PySem.W.mg_of X G x11,⟨_,rfl⟩,λA H=>by simp only [RepD]⟩
  cases e
 have gd:∀ (x:Str) (kvs:List (List Nat×D)),gds.lookup x=some kvs->GDic K w mg x kvs:=by
  intro x kvs e;unfold gds at e;cases e
 let addr:Nat->Addr:=λn=>[f1,f2,f3,f4,f5,f6,f7,f8,f9,f10,f11,f12,f13,f14,f15,f16,f17,f18,f19,f20,f21,f22,f23,f24,f25,f26,f27,f28,f29,f30,fa].getD n 0
 let psOf:Nat->List Str:=λn=>[zb0,zay,zdU,zdJ,zbA,zbt,zbb,zcN,zbk,zfn,zbr,zbq,zdC,zcx,zbz,zaQ,zbT,zbg,zcO,zbS,zb2,zcF,ze2,zfw,zfr,zg3,zd0,zeJ,zbl,zaP,zoT].getD n []
 let fdOf:Nat->FuncData:=λn=>[v1,v2,v3,v4,v5,v6,v7,v8,v9,v10,v11,v12,v13,v14,v15,v16,v17,v18,v19,v20,v21,v22,v23,v24,v25,v26,v27,v28,v29,v30,v31].getD n v1
 have T:Txt w K mg fns cls P globs gds addr fdOf psOf:=by
  refine ⟨λfi B e=>?_,blt,gl,gd,λfi p e=>?_,?_,?_,?_⟩
  ·have L:DL K 0 P [f1,f2,f3,f4,f5,f6,f7,f8,f9,f10,f11,f12,f13,f14,f15,f16,f17,f18,f19,f20,f21,f22,f23,f24,f25,f26,f27,f28,f29,f30,fa] [v1,v2,v3,v4,v5,v6,v7,v8,v9,v10,v11,v12,v13,v14,v15,v16,v17,v18,v19,v20,v21,v22,v23,v24,v25,v26,v27,v28,v29,v30,v31] [zb0,zay,zdU,zdJ,zbA,zbt,zbb,zcN,zbk,zfn,zbr,zbq,zdC,zcx,zbz,zaQ,zbT,zbg,zcO,zbS,zb2,zcF,ze2,zfw,zfr,zg3,zd0,zeJ,zbl,zaP,zoT]:=.cons (DI.dat rfl rfl rfl rfl rfl rfl rfl rfl zg4 D1 λ_ _ _ _ _ _=>us2 λ_ _=>rfl) (.cons (DI.dat rfl rfl rfl rfl rfl rfl rfl rfl zce D2 λ_ _ _ _ _ _=>us2 λ_ _=>rfl) (.cons (DI.dat rfl rfl rfl rfl rfl rfl rfl rfl zko D3 λ_ _ _ _ _ _=>us1 λ_=>rfl) (.cons (DI.dat rfl rfl rfl rfl rfl rfl rfl rfl zld D4 λ_ _ _ _ _ _=>us1 λ_=>rfl) (.cons (DI.dat rfl rfl rfl rfl rfl rfl rfl rfl zgR D5 λ_ _ _ _ _ _=>us1 λ_=>rfl) (.cons (DI.dat rfl rfl rfl rfl rfl rfl rfl rfl zf0 D6 λ_ _ _ _ _ _=>us1 λ_=>rfl) (.cons (DI.dat rfl rfl rfl rfl rfl rfl rfl rfl zfd D7 λ_ _ _ _ _ _=>us1 λ_=>rfl) (.cons (DI.dat rfl rfl rfl rfl rfl rfl rfl rfl ziS D8 λ_ _ _ _ _ _=>us1 λ_=>rfl) (.cons (DI.dat rfl rfl rfl rfl rfl rfl rfl rfl zfS D9 λ_ _ _ _ _ _=>us1 λ_=>rfl) (.cons (DI.dat rfl rfl rfl rfl rfl rfl rfl rfl zmP D10 λ_ _ _ _ _ _=>us1 λ_=>rfl) (.cons (DI.dat rfl rfl rfl rfl rfl rfl rfl rfl zfK D11 λ_ _ _ _ _ _=>us1 λ_=>rfl) (.cons (DI.dat rfl rfl rfl rfl rfl rfl rfl rfl zgB D12 λ_ _ _ _ _ _=>us1 λ_=>rfl) (.cons (DI.dat rfl rfl rfl rfl rfl rfl rfl rfl zkH D13 λ_ _ _ _ _ _=>us1 λ_=>rfl) (.cons (DI.dat rfl rfl rfl rfl rfl rfl rfl rfl ziJ D14 λ_ _ _ _ _ _=>us1 λ_=>rfl) (.cons (DI.dat rfl rfl rfl rfl rfl rfl rfl rfl zfG D15 λ_ _ _ _ _ _=>us1 λ_=>rfl) (.cons (DI.dat rfl rfl rfl rfl rfl rfl rfl rfl zeg D16 λ_ _ _ _ _ _=>us1 λ_=>rfl) (.cons (DI.dat rfl rfl rfl rfl rfl rfl rfl rfl zho D17 λ_ _ _ _ _ _=>us1 λ_=>rfl) (.cons (DI.dat rfl rfl rfl rfl rfl rfl rfl rfl zfE D18 λ_ _ _ _ _ _=>us1 λ_=>rfl) (.cons (DI.dat rfl rfl rfl rfl rfl rfl rfl rfl ziZ D19 λ_ _ _ _ _ _=>us1 λ_=>rfl) (.cons (DI.dat rfl rfl rfl rfl rfl rfl rfl rfl zg2 D20 λ_ _ _ _ _ _=>us1 λ_=>rfl) (.cons (DI.dat rfl rfl rfl rfl rfl rfl rfl rfl zhv D21 λ_ _ _ _ _ _=>us1 λ_=>rfl) (.cons (DI.dat rfl rfl rfl rfl rfl rfl rfl rfl ziP D22 λ_ _ _ _ _ _=>us2 λ_ _=>rfl) (.cons (DI.dat rfl rfl rfl rfl rfl rfl rfl rfl zl4 D23 λ_ _ _ _ _ _=>us1 λ_=>rfl) (.cons (DI.dat rfl rfl rfl rfl rfl rfl rfl rfl zl3 D24 λ_ _ _ _ _ _=>us2 λ_ _=>rfl) (.cons (DI.dat rfl rfl rfl rfl rfl rfl rfl rfl zmC D25 λ_ _ _ _ _ _=>us1 λ_=>rfl) (.cons (DI.dat rfl rfl rfl rfl rfl rfl rfl rfl zo0 D26 λ_ _ _ _ _ _=>us1 λ_=>rfl) (.cons (DI.dat rfl rfl rfl rfl rfl rfl rfl rfl zjC D27 λ_ _ _ _ _ _=>us1 λ_=>rfl) (.cons (DI.dat rfl rfl rfl rfl rfl rfl rfl rfl zmz D28 λ_ _ _ _ _ _=>us1 λ_=>rfl) (.cons (DI.dat rfl rfl rfl rfl rfl rfl rfl rfl zgs D29 λ_ _ _ _ _ _=>us1 λ_=>rfl) (.cons (DI.dat rfl rfl rfl rfl rfl rfl rfl rfl zef D30 λ_ _ _ _ _ _=>us1 λ_=>rfl) (.cons (DI.dat rfl rfl rfl rfl rfl rfl rfl rfl zst D31 λ_ _ _ _ _ _=>us1 λ_=>rfl) (.nil _)))))))))))))))))))))))))))))))
   have z:=DL.get (v0:=v1) L fi e;rw [Nat.zero_add] at z;exact z
  ·exact FL.get (show FL mg fns [f1,f2,f3,f4,f5,f6,f7,f8,f9,f10,f11,f12,f13,f14,f15,f16,f17,f18,f19,f20,f21,f22,f23,f24,f25,f26,f27,f28,f29,f30,fa] P from .cons (D1.mg X G) rfl rfl (.cons (D2.mg X G) rfl rfl (.cons (D3.mg X G) rfl rfl (.cons (D4.mg X G) rfl rfl (.cons (D5.mg X G) rfl rfl (.cons (D6.mg X G) rfl rfl (.cons (D7.mg X G) rfl rfl (.cons (D8.mg X G) rfl rfl (.cons (D9.mg X G) rfl rfl (.cons (D10.mg X G) rfl rfl (.cons (D11.mg X G) rfl rfl (.cons (D12.mg X G) rfl rfl (.cons (D13.mg X G) rfl rfl (.cons (D14.mg X G) rfl rfl (.cons (D15.mg X G) rfl rfl (.cons (D16.mg X G) rfl rfl (.cons (D17.mg X G) rfl rfl (.cons (D18.mg X G) rfl rfl (.cons (D19.mg X G) rfl rfl (.cons (D20.mg X G) rfl rfl (.cons (D21.mg X G) rfl rfl (.cons (D22.mg X G) rfl rfl (.cons (D23.mg X G) rfl rfl (.cons (D24.mg X G) rfl rfl (.cons (D25.mg X G) rfl rfl (.cons (D26.mg X G) rfl rfl (.cons (D27.mg X G) rfl rfl (.cons (D28.mg X G) rfl rfl (.cons (D29.mg X G) rfl rfl (.cons (D30.mg X G) rfl rfl (.cons (D31.mg X G) rfl rfl (.nil _ _)))))))))))))))))))))))))))))))) fi e
  ·intro ci hc
   unfold cls at hc;simp at hc
  ·intro ci hc
   unfold cls at hc;simp at hc
  ·intro ci hc
   unfold cls at hc;simp at hc
 obtain ⟨_,_,E,_,_⟩:=D31;subst E;exact ⟨_,λs v=>.of_eq rfl,λbase _ _=>zj0 T 14 30 _ rfl⟩
theorem walk {l:PySem.W.OpenLaw} {q:Program} {loose:List Str} {XP:(Str->Option Value)->Heap->Prop} {YP:World->Heap->Prop} {d:DefRec} {K:Params->PySem.W.Frag} (hn:l.most=some 63) (hdf:d.params.defaults=[])
  (hY:∀ (w:World) (h:Heap),YP w h->(K w.params).In h)
  (F:∀ (w:World) (mg:Str->Option Value) (fa:Addr) (h:Heap),(K w.params).In h->h.Ns mainGlobals mg->mg d.name=some (.ref fa) →
   ∃ fd:FuncData,(∀ (s:Shared) (u:Value),BindsTo s fd ⟨[u],[]⟩ [("_law_script",u)])/\∀ base:Heap,(K w.params).In base->base.Ns mainGlobals mg->FnOk l.prog w (K w.params) mg base CX0 28 fa fd ["_law_script"] (spF (K w.params) 1 (zai P 14 30))) :
  PySem.W.WalkO q loose XP YP l.row.toRowW d [] (λf vs=>PySem.call f vs):=
 L2.walk_of (n:=63) (k:=28) (x:="_law_script") (CX:=λ_=>CX0) (sp:=λw=>spF (K w.params) 1 (zai P 14 30)) hn (by decide) hdf ⟨rfl,by decide,by decide⟩ hY F
  (λ_ _ a ns hl _ hS=>zka hS (zmu hl)) λ_ _ _ _ _ z=>z
end K81
open PySem PySem.W PyProof.Rows
inductive PySem.W.Fast:Prop|tw4880503171725244544|tw5966758880082082343|tw6667463141273093456|tw2100243498034169106|tw11056901869800769365|tw5375854659525660956|tw17367016006085138458|tw4041816820706039876|tw11359192647628137416|tw5783587651070459585|tw14413974010917819211|tw5609393051104571071|tw845482931895118582|tw8422909591950175125|tw15793260843218554692|tw15689331520496973588|tw11189606309835608240|tw57524857673365187|tw1273340115232897900|tw3436140477907045927|tw16347514107173247970|tw6114481078993727146|tw6877274817701707435|tw4072641108652312579|tw12652471337900343559|tw2824539187473903876|tw12568106437120073545|tw9548500435410153934|tw15227825902912755590|tw18097787668644725567|tw15809692441821627645|tw9950118896338128878|tw10877405403941656634|tw9318703330325193236|tw14747554423740771301|tw17806668406289920440|tw2647338883660182992|tw11732568166022733707|tw1345307513738336816|tw564209191122447407|tw13875425782704356677|tw16291620732823230206|tw17562999381608767322|tw12748951396120224690|tw8457244397881692495|tw1489999673136652434|tw13697206428160868074|tw16772217764396995252|tw8360785995033312607|tw4552606478666030063|tw7922343223898418394|tw9438571281065613312|tw7650646440828069684|tw1694444195729726583|tw5137948024955128850|tw2754878597821518353|tw6611194056480469845|tw1403219918542586987|tw15365312097578667479|tw14226224834208035462|tw16264195190163088731|tw14283703927501617835|tw14341997955591273421|tw1023245160058137541|tw8934461782597147622|tw9069822213722001914|tw8112212236707531117|tw16302048242827096686|tw7261174900626862000|tw18258479689123188311|tw18042811089904033979|tw12156949365042238322|tw2095755576909467428|tw7370770438624187711|tw6772061167071455530|tw4356778222092381286|tw13626838622538821599|tw9009377429123568987|tw3903000936156914345|tw2997350752213281603|tw16894788615957917393|tw3127917775181738058|tw14215564181148123377|tw4517132023307211477|tw3342629023030695760|tw11023662084085942771|tw8152491269131454888|tw6263151359849741681|tw9309232291624891048|tw11265697670732256512|tw17860227818719389713|tw27867865709226671|tw6713581224736406353|tw11003984446991164974|tw13625746106560593551|tw16069620856470148107|tw17418637254216994458|tw14815596652911128868|tw124976146489781124|tw8382973664127937682|tw16844253793371227595|tw16633682768786396337|tw8457768980499026722|tw14974955756109515782|tw4468592314244650141|tw4131075442471390240|tw13901425517331248121|tw1282505224838033047|tw14408300331723360378|tw11682924535252501944|tw14864061706607542040|tw17154829529789050270|tw13958193342414999204|tw5493483343271585731|tw6514409890063764351|tw4780837690305822388|tw6614783341980046479|tw1790526542057775254|tw3494883355930789791|tw16559482113406648445|tw15569624108704740613|tw1409095845654259373|tw14564548161250659614|tw6245551967254816853|tw5261305868252916041|tw9414205605738260484|tw3575665281217309597|tw5877411158712780818|tw8433082265118316166|tw5209312586942397103|tw371401009695027164|tw13106522464628885764|tw1779458721604326899|tw15810511671108754696|tw9753427716487711852|tw11180357864772908663|tw17459987793415759360|tw588054003832507096|tw5302749740980520947|tw3384810441540907916|tw11841791876753756588|tw12885074222136334905|tw8814344135655799732|tw8510866073260439154|tw16312927436136337495|tw18049167879859017222|tw13316220382416500446|tw8859752988706494556|tw9990443033745953580|tw409064571459463082|tw16878858628327182239|tw7332443328885529963|tw1413472789532303693|tw16226146143249006883|tw10026122858108232397|tw5259184815459052263|tw14712893798177776407|tw10061630473364754962|tw9192106435943754071|tw5414287914853765266|tw17958138210171987764|tw5089614653792855869|tw9822595893013538592|tw114678028036073380|tw1335137078581720100|tw3156164286667987229|tw13924076386527669542|tw6738175887914144376|tw3072021916122824776|tw13309962070306269773|tw13886911457582781163|tw461667864990266334|tw1984739746805597680|tw9243307585743526336|tw10579113285155929027|tw8137162756498512628|tw825990172098107093|tw7865575953036611993|tw3455693372356790343|tw10699343027598662750|tw16176576375276296445|tw12880680974790391733|tw17602731029815069355|tw16034590187475223426|tw17220634077110152962|tw9952902574103664736|tw1936639890743107981|tw4168447952713408090|tw14635945460536187556|tw11630255464402180675|tw18065356473113539938|tw15704800683418239240|tw13130696699606386836|tw12933456561162157569|tw13220896121862845476|tw13251831820333060513|tw12932937223102796198|tw18209933381952413583|tw5425068867127907014|tw12873604669737709073|tw3743209924517374205|tw1261007709708924299|tw11475149873135610170|tw16241370932289085421|tw16103084558037086123|tw1663697777829191053|tw14497091817393068607|tw11919040578993052511|tw8168903132049878474|tw4540008810035221574|tw9018653006444133417|tw12044729853894339207|tw1737534651007698204|tw15909362760178561793|tw8282265120063951255|tw2202208052694123855|tw15615057926549543169|tw5141655405420545334|tw17092744077915377735|tw7005411577320375053
set_option maxRecDepth 100000 in
set_option maxHeartbeats 0 in
theorem PySem.Challenge.cw_copyclerk_k81_papers_written_and_read_holds : PySem.Challenge.rw_copyclerk_k81_papers_written_and_read.Holds := by
 w_on;o_law;z_head;(case hw=>w_witness2)
 k_fill
 refine IT.toX (λ_=>rfl) (K81.walk (l:=PySem.Challenge.rw_copyclerk_k81_papers_written_and_read) rfl rfl (λw h Y=>Y) ?F)
 case F=>
  intro w mg fa h KX G hmg
  refine' K81.all_mk KX G hmg ?D1 ?D2 ?D3 ?D4 ?D5 ?D6 ?D7 ?D8 ?D9 ?D10 ?D11 ?D12 ?D13 ?D14 ?D15 ?D16 ?D17 ?D18 ?D19 ?D20 ?D21 ?D22 ?D23 ?D24 ?D25 ?D26 ?D27 ?D28 ?D29 ?D30 ?D31 ?y1 ?x0 ?y2 ?x1 ?x2 ?x3 ?x4 ?y3 ?x5 ?y4 ?x6 ?y5 ?x7 ?x8 ?x9 ?x10 ?x11 ?z1 ?z2 ?z3 ?z4 ?z5 ?z6 ?z7 ?z8 ?z9 ?z10 ?z11 ?z12 ?z13 ?z14 ?z15 ?z16 ?z17
  all_goals (try (apply K81.DI.mk (e:=rfl)<;>k_is))
  (case x0=>k_is)
  (case y1=>k_is)
  (case x1=>k_is)
  (case y2=>k_is)
  (case x2=>k_is)
  (case x3=>k_is)
  (case x4=>k_is)
  (case x5=>k_is)
  (case y3=>k_is)
  (case x6=>k_is)
  (case y4=>k_is)
  (case x7=>k_is)
  (case y5=>k_is)
  (case x8=>k_is)
  (case x9=>k_is)
  (case x10=>k_is)
  (case x11=>k_is)
  (case z1=>k_is)
  (case z2=>k_is)
  (case z3=>k_is)
  (case z4=>k_is)
  (case z5=>k_is)
  (case z6=>k_is)
  (case z7=>k_is)
  (case z8=>k_is)
  (case z9=>k_is)
  (case z10=>k_is)
  (case z11=>k_is)
  (case z12=>k_is)
  (case z13=>k_is)
  (case z14=>k_is)
  (case z15=>k_is)
  (case z16=>k_is)
  (case z17=>k_is)
