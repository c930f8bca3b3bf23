import PyProof.Rows.All
import Wide.All
import OpenK.AllK
import Wide.FinOn
import Lean
import PyProof.EqAt
import PyProof.EqKinds
import PyProof.TupleCall
import PyProof.Rows.TupTab
import PyProof.DictRoadsH
import PyProof.MeetsStr2
import PyProof.StrLawsTight
import PyProof.StrBlockI
import PyProof.StrWalks
import PyProof.EnumMake
import KE.KIsAll
import KE.KRevSl
import PyProof.Rows.FactsN_isinstance
import KE.KDictOf
import PyProof.AttrMiss
import PyProof.WalksMore
import PyProof.FactsAll.tuple
import PyProof.ListRange
import PyProof.DictIter
import PyProof.DictWalks
import KE.KDictList
import PyProof.DictItems
import PyProof.Rows.SortShell
import KE.KItemsList
import KE.KSortTup
import PyProof.Rows.SetFrom
import KE.KUnpack
import PyProof.Rows.CallKwBuiltin
import PySem.Challenge.RW_copyclerk_k01_tables_written_and_read
set_option genSizeOfSpec false
set_option linter.all false
namespace IT
open PySem
inductive D where
 | non
 | bl (b:Bool)
 | int (i:Int)
 | str (x:List Nat)
 | tup (xs:List D)
 | lst (xs:List D)
mutual
noncomputable def D.eqb:D->D->Bool
 | .non,y=>match y with | .non=>true | _=>false
 | .bl a,y=>match y with | .bl b=>a==b | .int b=>(if a then 1 else 0)==b | _=>false
 | .int a,y=>match y with | .int b=>a==b | .bl b=>a==(if b then 1 else 0) | _=>false
 | .str a,y=>match y with | .str b=>a==b | _=>false
 | .tup a,y=>match y with | .tup b=>D.eqbs a b | _=>false
 | .lst a,y=>match y with | .lst b=>D.eqbs a b | _=>false
noncomputable def D.eqbs:List D->List D->Bool
 | [],ys=>match ys with | []=>true | _=>false
 | a::r,ys=>match ys with | b::t=>D.eqb a b&&D.eqbs r t | _=>false
end
mutual
noncomputable def D.dep:D->Nat
 | .tup xs=>D.deps xs+1
 | .lst xs=>D.deps xs+1
 | .non | .bl _ | .int _ | .str _=>0
noncomputable def D.deps:List D->Nat
 | []=>0
 | x::xs=>max (D.dep x) (D.deps xs)
end
noncomputable def zgv (a b:D):Bool:=decide (min a.dep b.dep<=60)
inductive R where
 | d (x:D)
 | loc (l:Nat)
inductive Ob where
 | lst (xs:List D)
 | fro (xs:List D)
 | ins (c:Str) (fs:List (Str×R))
 | ols (ls:List Nat)
 | dic (kvs:List (D×D))
 | dfr (kvs:List (D×D))
noncomputable def Ob.items:Ob->List D
 | .lst xs=>xs
 | .fro xs=>xs
 | .ins _ _=>[]
 | .ols _=>[]
 | .dic _=>[]
 | .dfr _=>[]
noncomputable def Ob.isL:Ob->Bool
 | .lst _=>true
 | .fro _=>true
 | _=>false
inductive Ite where
 | r (x:R)
 | en (i:Int) (x:R)
noncomputable abbrev dI (x:D):Ite:=.r (.d x)
noncomputable abbrev Sto:=List Ob
noncomputable abbrev M (α:Type):=Sto->Option (α×Sto)
noncomputable def ok {α:Type} (a:α):M α:=λh=>some (a,h)
noncomputable def bnd {α β:Type} (x:M α) (f:α->M β):M β:=λh=>match x h with
 | some (a,h1)=>f a h1
 | none=>none
theorem zag {α:Type} {z:α} {P:Prop} (e:none=some z):P:=by cases e
noncomputable def rd:R->M D
 | .d x=>ok x
 | .loc l=>λh=>match h[l]? with
  | some o=>if o.isL then some (.lst o.items,h) else none
  | none=>none
noncomputable def fz:R->M D
 | .d x=>ok x
 | .loc l=>λh=>match h[l]? with
  | some o=>if o.isL then some (.lst o.items,h.set l (.fro o.items)) else none
  | none=>none
inductive Bo where
 | add | sub | mul | fdiv | mod | pow | band | bor
inductive Co where
 | eq | ne | lt | le | gt | ge | isin | notin | isN | isnotN
inductive Bi where
 | len | sum | tuple | int | all | any | max | min
inductive Me where
 | append | pop | popAt | clear | extend
inductive Ty where
 | int | str | bool | list | tuple
inductive Tm where
 | starts | parti | join
inductive Lm where
 | count | index | countT
inductive Tg where
 | name (i:Nat)
 | tup (ts:List Tg)
set_option genInjectivity false
mutual
inductive E where
 | con (d:D)
 | var (i:Nat)
 | bin (o:Bo) (a b:E)
 | neg (a:E)
 | cmp (o:Co) (a b:E)
 | and (a b:E)
 | or (a b:E)
 | not (a:E)
 | ife (c:T) (a b:E)
 | tup (es:List E)
 | lst (m:Bool) (l:L)
 | idx (a i:E)
 | sli (a lo hi:E)
 | call (f:Nat) (es:List E)
 | bi (b:Bi) (es:List E)
 | me (m:Me) (o:E) (es:List E)
 | glo (d:D)
 | isi (t:Ty) (e:E)
 | tm (m:Tm) (o:E) (es:List E)
 | lm (m:Lm) (o a:E)
 | dnew
 | din (neg:Bool) (k d:E)
 | lset (e:E)
 | stuck
inductive T where
 | val (e:E)
 | and (a b:T)
 | or (a b:T)
 | not (a:T)
inductive L where
 | disp (es:List E)
 | comp (tg:Tg) (it:I) (c:List T) (el:E)
 | spl (a b:E)
inductive I where
 | seq (e:E)
 | rng (e:E)
 | enk (k:Nat) (e:E)
 | dic (e:E)
end
set_option genInjectivity true
noncomputable def big:Nat:=16777216
noncomputable def fit (n:Nat):Bool:=decide (n<=big)
noncomputable def zgu (i:Int):Bool:=decide (-(2 ^ 64)<i)&&decide (i<2 ^ 64)
noncomputable def wide:Int:=1000000000000000000000000000000000000000000000000000000000000
noncomputable def bop:Bo->D->D->Option D
 | .add,.int a,.int b=>some (.int (a+b))
 | .sub,.int a,.int b=>some (.int (a-b))
 | .mul,.int a,.int b=>if zgu a||zgu b then some (.int (a*b)) else none
 | .fdiv,.int a,.int b=>if decide (0<b)&&decide (b<wide) then some (.int (a / b)) else none
 | .mod,.int a,.int b=>if decide (0<b) then some (.int (a % b)) else none
 | .add,.str a,.str b=>if fit (a.length+b.length) then some (.str (a++b)) else none
 | .pow,.int a,.int b=>if decide (0<=b)&&decide (b<=1000000)&&decide (a.natAbs<2 ^ 64) then some (.int (a ^ b.toNat)) else none
 | .band,.int a,.int b=>if decide (0<=a)&&decide (0<=b) then some (.int (a.toNat &&& b.toNat:Nat)) else none
 | .bor,.int a,.int b=>if decide (0<=a)&&decide (0<=b) then some (.int (a.toNat ||| b.toNat:Nat)) else none
 | .add,.lst a,.lst b=>if fit (a.length+b.length) then some (.lst (a++b)) else none
 | .add,.tup a,.tup b=>if fit (a.length+b.length) then some (.tup (a++b)) else none
 | .mul,.tup a,.int b=>if a.isEmpty||decide (b<0)||decide (2 ^ 24<b)||!fit (a.length*b.toNat) then none else some (.tup (List.replicate b.toNat a).flatten)
 | _,_,_=>none
noncomputable def catS (sep:List Nat):List (List Nat)->List Nat
 | []=>[]
 | x::xs=>x++(xs.map λy=>sep++y).flatten
noncomputable def fnd (y:List Nat):List Nat->Option Nat
 | []=>if y.isPrefixOf [] then some 0 else none
 | c::r=>if y.isPrefixOf (c::r) then some 0 else match fnd y r with
  | some i=>some (i+1)
  | none=>none
noncomputable def splS (y:List Nat):Nat->List Nat->List (List Nat)
 | 0,x=>[x]
 | n+1,x=>match fnd y x with
  | some i=>x.take i::splS y n (x.drop (i+y.length))
  | none=>[x]
noncomputable def txts:List D->Option (List (List Nat))
 | []=>some []
 | .str x::r=>match txts r with
  | some l=>some (x::l)
  | none=>none
 | _::_=>none
noncomputable def zm4:D->Bool
 | .non=>true
 | _=>false
noncomputable def items:D->Option (List D)
 | .tup xs=>some xs
 | .lst xs=>some xs
 | _=>none
noncomputable def cop:Co->D->D->Option D
 | .eq,a,b=>if zgv a b then some (.bl (a.eqb b)) else none
 | .ne,a,b=>if zgv a b then some (.bl (!a.eqb b)) else none
 | .lt,.int a,.int b=>some (.bl (decide (a<b)))
 | .le,.int a,.int b=>some (.bl (decide (a<=b)))
 | .gt,.int a,.int b=>some (.bl (decide (b<a)))
 | .ge,.int a,.int b=>some (.bl (decide (b<=a)))
 | .isin,a,b=>match items b with
  | some xs=>if decide (a.dep<=60) then some (.bl (xs.any λy=>y.eqb a)) else none
  | none=>match b,a with
   | .str x,.str y=>some (.bl (fnd y x).isSome)
   | _,_=>none
 | .notin,a,b=>match items b with
  | some xs=>if decide (a.dep<=60) then some (.bl (!(xs.any λy=>y.eqb a))) else none
  | none=>match b,a with
   | .str x,.str y=>some (.bl (!(fnd y x).isSome))
   | _,_=>none
 | .isN,a,.non=>some (.bl (zm4 a))
 | .isnotN,a,.non=>some (.bl (!zm4 a))
 | .isN,.bl a,.bl b=>some (.bl (a==b))
 | .isnotN,.bl a,.bl b=>some (.bl (a != b))
 | _,_,_=>none
noncomputable def ixn (n:Nat) (i:Int):Option Nat:=if 0<=i then (if i<n then some i.toNat else none) else if -(n:Int)<=i then some (i+n).toNat else none
noncomputable def at' {α:Type} (xs:List α) (i:Int):Option α:=match ixn xs.length i with
 | some j=>xs[j]?
 | none=>none
noncomputable def idxD:D->D->Option D
 | .tup xs,.int i=>at' xs i
 | .lst xs,.int i=>at' xs i
 | .str z,.int i=>if fit z.length then (match at' z i with
  | some c=>some (.str [c])
  | none=>none) else none
 | _,_=>none
noncomputable def sIx (n d:Nat):Option Int->Nat
 | none=>d
 | some v=>if v<0 then (v+(n:Int)).toNat else min v.toNat n
noncomputable def cut {α:Type} (xs:List α) (lo hi:Option Int):List α:=(xs.drop (sIx xs.length 0 lo)).take (sIx xs.length xs.length hi-sIx xs.length 0 lo)
noncomputable def part:D->Option (Option Int)
 | .non=>some none
 | .int i=>some (some i)
 | _=>none
noncomputable def cutD (x:D) (lo hi:Option Int):Option D:=match x with
 | .tup xs=>some (.tup (cut xs lo hi))
 | .lst xs=>some (.lst (cut xs lo hi))
 | .str xs=>if fit xs.length then some (.str (cut xs lo hi)) else none
 | _=>none
noncomputable def sliD (x l u:D):Option D:=match part l,part u with
 | some lo,some hi=>cutD x lo hi
 | _,_=>none
noncomputable def sumI:List D->Option Int
 | []=>some 0
 | .int a::r=>match sumI r with
  | some s=>some (a+s)
  | none=>none
 | _=>none
noncomputable def tru:D->Option Bool
 | .non=>some false
 | .bl b=>some b
 | .int i=>some (i != 0)
 | .str x=>if fit x.length then some (!x.isEmpty) else none
 | .tup xs=>some (!xs.isEmpty)
 | .lst xs=>some (!xs.isEmpty)
noncomputable def zba:List D->Option (List Bool)
 | []=>some []
 | d::r=>match tru d with
  | some b=>match zba r with
   | some s=>some (b::s)
   | none=>none
  | none=>none
noncomputable def isiD:Ty->D->Bool
 | .int,.int _=>true
 | .int,.bl _=>true
 | .str,.str _=>true
 | .bool,.bl _=>true
 | .list,.lst _=>true
 | .tuple,.tup _=>true
 | _,_=>false
noncomputable def biD:Bi->List D->Option D
 | .len,[.tup xs]=>some (.int xs.length)
 | .len,[.lst xs]=>some (.int xs.length)
 | .len,[.str xs]=>if fit xs.length then some (.int xs.length) else none
 | .sum,[.lst xs]=>match sumI xs with
  | some s=>some (.int s)
  | none=>none
 | .tuple,[.lst xs]=>some (.tup xs)
 | .tuple,[.tup xs]=>some (.tup xs)
 | .int,[.bl b]=>some (.int (if b then 1 else 0))
 | .int,[.int i]=>some (.int i)
 | .all,[.lst xs]=>match zba xs with
  | some bs=>some (.bl (bs.all id))
  | none=>none
 | .any,[.lst xs]=>match zba xs with
  | some bs=>some (.bl (bs.any id))
  | none=>none
 | .max,[.int i,.int j]=>some (.int (if j>i then j else i))
 | .min,[.int i,.int j]=>some (.int (if j<i then j else i))
 | _,_=>none
noncomputable def tmD:Tm->D->List D->Option D
 | .starts,.str x,[.str y]=>some (.bl (y.isPrefixOf x))
 | .parti,.str x,[.str y]=>if y.isEmpty||!fit x.length then none else some (.tup (match fnd y x with
  | some i=>[.str (x.take i),.str y,.str (x.drop (i+y.length))]
  | none=>[.str x,.str [],.str []]))
 | .join,.str z,[d]=>match items d with
  | some xs=>match txts xs with
   | some l=>if fit (l.map λy=>y.length+z.length).sum then some (.str (catS z l)) else none
   | none=>none
  | none=>none
 | _,_,_=>none
noncomputable def ded (ts:List (List Nat)):List (List Nat):=ts.foldl (λacc x=>if acc.contains x then acc else acc++[x]) []
noncomputable def zc5 (d:D):Option D:=match d with
 | .tup xs=>match txts xs with
  | some ts=>if decide (ts.length<4000) then some (.int (ded ts).length) else none
  | none=>none
 | _=>none
noncomputable def lmD:Lm->D->D->Option D
 | .count,.lst xs,d=>if decide (d.dep<=60) then some (.int (xs.countP λy=>y.eqb d)) else none
 | .index,.lst xs,d=>if decide (d.dep<=60) then (match xs.findIdx? λy=>y.eqb d with
  | some j=>some (.int j)
  | none=>none) else none
 | .countT,.tup xs,d=>if decide (d.dep<=60) then some (.int (xs.countP λy=>y.eqb d)) else none
 | _,_,_=>none
noncomputable def splD:D->D->Option (List D)
 | .str x,.str y=>if y.isEmpty||!fit (x.length+1)||!fit (splS y x.length x).length then none else some ((splS y x.length x).map D.str)
 | _,_=>none
noncomputable abbrev Env:=List (Option R)
mutual
noncomputable def zbd:Tg->R->Env->M Env
 | .name i,r,σ=>ok (σ.set i (some r))
 | .tup ts,r,σ=>bnd (rd r) λd=>match d with
  | .tup xs=>bindTs ts xs σ
  | _=>λ_=>none
noncomputable def bindTs:List Tg->List D->Env->M Env
 | [],xs,σ=>match xs with
  | []=>ok σ
  | _=>λ_=>none
 | t::ts,xs,σ=>match xs with
  | x::xs=>bnd (zbd t (.d x) σ) λσ'=>bindTs ts xs σ'
  | _=>λ_=>none
end
noncomputable def za9:Tg->Ite->Env->M Env
 | tg,.r x,σ=>zbd tg x σ
 | .tup [a,b],.en i x,σ=>bnd (zbd a (.d (.int i)) σ) λσ'=>zbd b x σ'
 | _,_,_=>λ_=>none
mutual
noncomputable def D.same:D->D->Bool
 | .non,y=>match y with | .non=>true | _=>false
 | .bl a,y=>match y with | .bl b=>a==b | _=>false
 | .int a,y=>match y with | .int b=>a==b | _=>false
 | .str a,y=>match y with | .str b=>a==b | _=>false
 | .tup a,y=>match y with | .tup b=>D.sames a b | _=>false
 | .lst a,y=>match y with | .lst b=>D.sames a b | _=>false
noncomputable def D.sames:List D->List D->Bool
 | [],ys=>match ys with | []=>true | _=>false
 | a::r,ys=>match ys with | b::t=>D.same a b&&D.sames r t | _=>false
end
mutual
theorem D.same_eq:∀ x y:D,D.same x y=true->x=y
 | .non,.non,_=>rfl
 | .bl a,.bl b,h=>by simp [D.same] at h;rw [h]
 | .int a,.int b,h=>by simp [D.same] at h;rw [h]
 | .str a,.str b,h=>by simp [D.same] at h;rw [h]
 | .tup a,.tup b,h=>by simp [D.same] at h;rw [D.sames_eq a b h]
 | .lst a,.lst b,h=>by simp [D.same] at h;rw [D.sames_eq a b h]
 | .non,.bl _,h | .non,.int _,h | .non,.str _,h | .non,.tup _,h | .non,.lst _,h=>by simp [D.same] at h
 | .bl _,.non,h | .bl _,.int _,h | .bl _,.str _,h | .bl _,.tup _,h | .bl _,.lst _,h=>by simp [D.same] at h
 | .int _,.non,h | .int _,.bl _,h | .int _,.str _,h | .int _,.tup _,h | .int _,.lst _,h=>by simp [D.same] at h
 | .str _,.non,h | .str _,.bl _,h | .str _,.int _,h | .str _,.tup _,h | .str _,.lst _,h=>by simp [D.same] at h
 | .tup _,.non,h | .tup _,.bl _,h | .tup _,.int _,h | .tup _,.str _,h | .tup _,.lst _,h=>by simp [D.same] at h
 | .lst _,.non,h | .lst _,.bl _,h | .lst _,.int _,h | .lst _,.str _,h | .lst _,.tup _,h=>by simp [D.same] at h
theorem D.sames_eq:∀ x y:List D,D.sames x y=true->x=y
 | [],[],_=>rfl
 | a::r,b::t,h=>by
  simp [D.sames] at h
  rw [D.same_eq a b h.1,D.sames_eq r t h.2]
 | [],_::_,h=>by simp [D.sames] at h
 | _::_,[],h=>by simp [D.sames] at h
end
mutual
theorem D.same_refl:∀ x:D,D.same x x=true
 | .non=>rfl
 | .bl a=>by simp [D.same]
 | .int a=>by simp [D.same]
 | .str a=>by simp [D.same]
 | .tup a=>by simp [D.same];exact D.sames_refl a
 | .lst a=>by simp [D.same];exact D.sames_refl a
theorem D.sames_refl:∀ x:List D,D.sames x x=true
 | []=>rfl
 | a::r=>by simp [D.sames];exact ⟨D.same_refl a,D.sames_refl r⟩
end
mutual
noncomputable def D.hk:D->Bool
 | .int _=>true
 | .str _=>true
 | .tup xs=>D.hks xs
 | .non | .bl _ | .lst _=>false
noncomputable def D.hks:List D->Bool
 | []=>true
 | x::r=>D.hk x&&D.hks r
end
noncomputable def zbU:D->Bool
 | .tup xs=>D.hks xs&&decide (D.deps xs<=6)
 | _=>false
noncomputable def dGet (k:D):List (D×D)->Option D
 | []=>none
 | p::r=>if p.1.same k then some p.2 else dGet k r
noncomputable def dPut (k v:D):List (D×D)->List (D×D)
 | []=>[(k,v)]
 | p::r=>if p.1.same k then (p.1,v)::r else p::dPut k v r
noncomputable def zbr:List (D×D)->List (D×D)->Bool
 | [],ys=>ys.isEmpty
 | p::r,ys=>match ys with
  | q::t=>p.1.same q.1&&p.2.same q.2&&zbr r t
  | []=>false
noncomputable def ltS:List Nat->List Nat->Bool
 | [],ys=>match ys with | []=>false | _=>true
 | a::r,ys=>match ys with | b::t=>if a=b then ltS r t else decide (a<b) | []=>false
mutual
noncomputable def D.lt:D->D->Option Bool
 | .int a,y=>match y with | .int b=>some (decide (a<b)) | _=>none
 | .str a,y=>match y with | .str b=>some (ltS a b) | _=>none
 | .tup a,y=>match y with | .tup b=>D.lts a b | _=>none
 | .non,_=>none
 | .bl _,_=>none
 | .lst _,_=>none
noncomputable def D.lts:List D->List D->Option Bool
 | [],ys=>match ys with | []=>some false | _=>some true
 | a::r,ys=>match ys with | b::t=>if D.same a b then D.lts r t else D.lt a b | []=>some false
end
noncomputable def ltT (a b:D):Bool:=match D.lt a b with
 | some c=>c
 | none=>false
noncomputable def rnk (xs:List D) (x:D):Nat:=xs.countP λy=>ltT y x
noncomputable def apart:List D->Bool
 | []=>true
 | x::r=>(r.all λy=>!x.same y)&&apart r
noncomputable def fstK:D->Nat
 | .tup (.str _::_)=>1
 | .tup (.tup _::_)=>2
 | _=>0
noncomputable def once:List D->List D
 | []=>[]
 | x::r=>x::(once r).filter λy=>!x.same y
noncomputable def pairD (p:D×D):D:=.tup [p.1,p.2]
noncomputable def Ob.same:Ob->Ob->Bool
 | .dic a,o=>match o with
  | .dic b=>zbr a b
  | _=>false
 | .dfr a,o=>match o with
  | .dfr b=>zbr a b
  | _=>false
 | .ols a,o=>match o with
  | .ols b=>a==b
  | _=>false
 | .ins _ _,_=>false
 | .lst a,o=>o.isL&&D.sames a o.items
 | .fro a,o=>o.isL&&D.sames a o.items
noncomputable def zbb (l:Option Nat) (h h':Sto):Bool:=match l with
 | none=>true
 | some l=>match h[l]?,h'[l]? with
  | some o,some o'=>o.same o'
  | _,_=>false
noncomputable def zb1 {α:Type} (l:Option Nat) (f:Ite->M (Option α)):List Ite->M (List α)
 | []=>ok []
 | x::xs=>λh=>match f x h with
  | some (o,h1)=>if zbb l h h1 then bnd (zb1 l f xs) (λys=>ok (match o with | some y=>y::ys | none=>ys)) h1 else none
  | none=>none
noncomputable def zbH (lo:Int):Nat->List D
 | 0=>[]
 | n+1=>.int lo::zbH (lo+1) n
noncomputable def opt {α:Type} (o:Option α):M α:=λh=>match o with
 | some a=>some (a,h)
 | none=>none
noncomputable def alloc (xs:List D):M R:=λh=>some (.loc h.length,h++[.lst xs])
structure Wk where
 xs:List Ite
 l:Option Nat
noncomputable def wkOf (r:R) (d:D):M Wk:=match items d with
 | some xs=>ok ⟨xs.map dI,match r with | .loc l=>some l | .d _=>none⟩
 | none=>match d with
  | .str x=>if fit x.length then ok ⟨(x.map λc=>D.str [c]).map dI,none⟩ else λ_=>none
  | _=>λ_=>none
noncomputable def zdG (r:R):M (Option (List Nat)):=λh=>match r with
 | .loc l=>match h[l]? with
  | some (.ols ls)=>some (some ls,h)
  | _=>some (none,h)
 | .d _=>some (none,h)
noncomputable def zbo (r:R):M Wk:=bnd (zdG r) λo=>match o with
 | some ls=>ok ⟨ls.map λl=>.r (.loc l),match r with | .loc l=>some l | .d _=>none⟩
 | none=>bnd (rd r) λd=>wkOf r d
noncomputable def za6 (i:Int):List Ite->Option (List Ite)
 | []=>some []
 | .r x::t=>match za6 (i+1) t with
  | some l=>some (.en i x::l)
  | none=>none
 | .en _ _::_=>none
noncomputable def isLs:R->Bool
 | .loc _=>true
 | .d (.lst _)=>true
 | _=>false
noncomputable def zft (k:Nat) (r:R):M Wk:=if isLs r&&decide (k<1000) then bnd (zbo r) λw=>match za6 k w.xs with
  | some l=>ok ⟨l,w.l⟩
  | none=>λ_=>none
 else λ_=>none
noncomputable def zfq (r:R):M Wk:=match r with
 | .d (.int n)=>if decide (-(2 ^ 62)<=n)&&decide (n<=16777216) then ok ⟨(zbH 0 n.toNat).map dI,none⟩ else λ_=>none
 | _=>λ_=>none
mutual
noncomputable def Tg.slots:Tg->List Nat
 | .name i=>[i]
 | .tup ts=>Tg.slotss ts
noncomputable def Tg.slotss:List Tg->List Nat
 | []=>[]
 | t::ts=>t.slots++Tg.slotss ts
end
noncomputable def clr:List Nat->Env->Env
 | [],σ=>σ
 | i::r,σ=>clr r (σ.set i none)
noncomputable abbrev Calls:=Nat->List R->M R
noncomputable def zep (x:R):M Unit:=λh=>match x with
 | .loc l=>match h[l]? with
  | some o=>if o.isL then some ((),h) else none
  | none=>none
 | .d _=>none
noncomputable def dRd (x:R):M (List (D×D)):=λh=>match x with
 | .loc l=>match h[l]? with
  | some (.dic kvs)=>some (kvs,h)
  | some (.dfr kvs)=>some (kvs,h)
  | _=>none
 | .d _=>none
noncomputable def dNew:M R:=λh=>some (.loc h.length,h++[.dic []])
noncomputable def kRd (x:R):M D:=λh=>match x with
 | .d k=>if zbU k then some (k,h) else none
 | .loc _=>none
noncomputable def dSet (x:R) (k v:D):M Unit:=λh=>match x with
 | .loc l=>match h[l]? with
  | some (.dic kvs)=>if decide (kvs.length<big) then some ((),h.set l (.dic (dPut k v kvs))) else none
  | _=>none
 | .d _=>none
noncomputable def zgr (x:R):M Wk:=λh=>match x with
 | .loc l=>match h[l]? with
  | some (.dfr kvs)=>some (⟨kvs.map λp=>dI p.1,some l⟩,h)
  | _=>none
 | .d _=>none
noncomputable def zdm (x:R):M Nat:=λh=>match x with
 | .loc l=>match h[l]? with
  | some (.ins _ _)=>some (l,h)
  | _=>none
 | .d _=>none
noncomputable def allocO (ls:List Nat):M R:=λh=>some (.loc h.length,h++[.ols ls])
noncomputable def meth:Me->R->List R->M R
 | .append,.loc l,[r]=>bnd (fz r) λd h=>match h[l]? with
  | some (.lst xs)=>if decide (xs.length<big) then some (.d .non,h.set l (.lst (xs++[d]))) else none
  | _=>none
 | .pop,.loc l,[]=>λh=>match h[l]? with
  | some (.lst xs)=>match xs[xs.length-1]? with
   | some y=>some (.d y,h.set l (.lst xs.dropLast))
   | none=>none
  | _=>none
 | .popAt,.loc l,[.d (.int i)]=>λh=>if decide (-(2 ^ 63)<=i)&&decide (i<2 ^ 63) then match h[l]? with
  | some (.lst xs)=>match ixn xs.length i with
   | some k=>match xs[k]? with
    | some y=>some (.d y,h.set l (.lst (xs.eraseIdx k)))
    | none=>none
   | none=>none
  | _=>none
  else none
 | .clear,.loc l,[]=>λh=>match h[l]? with
  | some (.lst xs)=>some (.d .non,h.set l (.lst []))
  | _=>none
 | .extend,.loc l,[r]=>bnd (rd r) λd h=>match d with
  | .lst ys=>match h[l]? with
   | some (.lst xs)=>if fit (xs.length+ys.length) then some (.d .non,h.set l (.lst (xs++ys))) else none
   | _=>none
  | _=>none
 | _,_,_=>λ_=>none
mutual
noncomputable def ev (Γ:Calls):E->Env->M R
 | .con d,_=>ok (.d d)
 | .var i,σ=>λh=>match σ[i]? with
  | some (some r)=>some (r,h)
  | _=>none
 | .bin o a b,σ=>bnd (ev Γ a σ) λx=>bnd (ev Γ b σ) λy=>bnd (rd x) λx=>bnd (rd y) λy=>bnd (opt (bop o x y)) λz=>ok (.d z)
 | .neg a,σ=>bnd (ev Γ a σ) λx=>match x with
  | .d (.int i)=>ok (.d (.int (-i)))
  | _=>λ_=>none
 | .cmp o a b,σ=>bnd (ev Γ a σ) λx=>bnd (ev Γ b σ) λy=>bnd (rd x) λx=>bnd (rd y) λy=>bnd (opt (cop o x y)) λz=>ok (.d z)
 | .and a b,σ=>bnd (ev Γ a σ) λx=>match x with
  | .d (.bl c)=>if c then ev Γ b σ else ok (.d (.bl false))
  | _=>λ_=>none
 | .or a b,σ=>bnd (ev Γ a σ) λx=>match x with
  | .d (.bl c)=>if c then ok (.d (.bl true)) else ev Γ b σ
  | _=>λ_=>none
 | .not a,σ=>bnd (ev Γ a σ) λx=>bnd (rd x) λd=>bnd (opt (tru d)) λt=>ok (.d (.bl (!t)))
 | .ife c a b,σ=>bnd (tv Γ c σ) λt=>if t then ev Γ a σ else ev Γ b σ
 | .tup es,σ=>bnd (evs Γ es σ) λrs=>bnd (fzs rs) λds=>ok (.d (.tup ds))
 | .lst m l,σ=>bnd (evL Γ l σ) λxs=>if m then alloc xs else ok (.d (.lst xs))
 | .idx a i,σ=>bnd (ev Γ a σ) λx=>bnd (ev Γ i σ) λy=>bnd (rd x) λx=>bnd (rd y) λy=>bnd (opt (idxD x y)) λz=>ok (.d z)
 | .sli a lo hi,σ=>bnd (ev Γ a σ) λx=>bnd (ev Γ lo σ) λl=>bnd (ev Γ hi σ) λu=>bnd (rd x) λx=>bnd (rd l) λl=>bnd (rd u) λu=>bnd (opt (sliD x l u)) λz=>ok (.d z)
 | .call f es,σ=>bnd (evs Γ es σ) λrs=>Γ f rs
 | .bi b es,σ=>bnd (evs Γ es σ) λrs=>bnd (rds rs) λds=>bnd (opt (biD b ds)) λz=>ok (.d z)
 | .me m o es,σ=>bnd (ev Γ o σ) λx=>bnd (zep x) λ_=>bnd (evs Γ es σ) λrs=>meth m x rs
 | .glo d,_=>ok (.d d)
 | .isi t e,σ=>bnd (ev Γ e σ) λr=>bnd (rd r) λd=>ok (.d (.bl (isiD t d)))
 | .lset e,σ=>bnd (ev Γ e σ) λr=>bnd (rd r) λd=>bnd (opt (zc5 d)) λz=>ok (.d z)
 | .tm m o es,σ=>bnd (ev Γ o σ) λx=>bnd (evs Γ es σ) λrs=>bnd (rd x) λd=>bnd (rds rs) λds=>bnd (opt (tmD m d ds)) λz=>ok (.d z)
 | .lm m o a,σ=>bnd (ev Γ o σ) λx=>bnd (rd x) λ_=>bnd (ev Γ a σ) λy=>bnd (rd x) λx=>bnd (rd y) λy=>bnd (opt (lmD m x y)) λz=>ok (.d z)
 | .dnew,_=>dNew
 | .din neg k d,σ=>bnd (ev Γ k σ) λy=>bnd (ev Γ d σ) λx=>bnd (dRd x) λkvs=>bnd (kRd y) λk=>ok (.d (.bl (if neg then !(dGet k kvs).isSome else (dGet k kvs).isSome)))
 | .stuck,_=>λ_=>none
noncomputable def evs (Γ:Calls):List E->Env->M (List R)
 | [],_=>ok []
 | e::es,σ=>bnd (ev Γ e σ) λr=>bnd (evs Γ es σ) λrs=>ok (r::rs)
noncomputable def tv (Γ:Calls):T->Env->M Bool
 | .val e,σ=>bnd (ev Γ e σ) λr=>bnd (rd r) λd=>opt (tru d)
 | .and a b,σ=>bnd (tv Γ a σ) λt=>if t then tv Γ b σ else ok false
 | .or a b,σ=>bnd (tv Γ a σ) λt=>if t then ok true else tv Γ b σ
 | .not a,σ=>bnd (tv Γ a σ) λt=>ok (!t)
noncomputable def tvs (Γ:Calls):List T->Env->M Bool
 | [],_=>ok true
 | c::cs,σ=>bnd (tv Γ c σ) λt=>if t then tvs Γ cs σ else ok false
noncomputable def evL (Γ:Calls):L->Env->M (List D)
 | .disp es,σ=>bnd (evs Γ es σ) λrs=>fzs rs
 | .comp tg it c el,σ=>bnd (evI Γ it σ) λw=>zb1 w.l (λx=>bnd (za9 tg x (clr tg.slots σ)) λσ'=>bnd (tvs Γ c σ') λt=>if t then bnd (ev Γ el σ') λr=>bnd (fz r) λd=>ok (some d) else ok none) w.xs
 | .spl a b,σ=>bnd (ev Γ a σ) λx=>bnd (ev Γ b σ) λy=>bnd (rd x) λx=>bnd (rd y) λy=>opt (splD x y)
noncomputable def evI (Γ:Calls):I->Env->M Wk
 | .seq e,σ=>bnd (ev Γ e σ) λr=>zbo r
 | .rng e,σ=>bnd (ev Γ e σ) λr=>zfq r
 | .enk k e,σ=>bnd (ev Γ e σ) λr=>zft k r
 | .dic e,σ=>bnd (ev Γ e σ) λr=>zgr r
noncomputable def fzs:List R->M (List D)
 | []=>ok []
 | r::rs=>bnd (fz r) λd=>bnd (fzs rs) λds=>ok (d::ds)
noncomputable def rds:List R->M (List D)
 | []=>ok []
 | r::rs=>bnd (rd r) λd=>bnd (rds rs) λds=>ok (d::ds)
end
set_option genInjectivity false in
inductive S where
 | asg (tg:Tg) (e:E)
 | setI (o i e:E)
 | exp (e:E)
 | ife (c:T) (a b:List S)
 | for (tg:Tg) (it:I) (body:List S)
 | ret (e:E)
 | brk
 | cnt
 | setD (o k e:E)
 | stuck
inductive Fl where
 | nx | ret (r:R) | brk | cnt
noncomputable def zeD (x:R) (i:D) (d:D):M Unit:=λh=>match x,i with
 | .loc l,.int k=>match h[l]? with
  | some (.lst xs)=>match ixn xs.length k with
   | some j=>some ((),h.set l (.lst (xs.set j d)))
   | none=>none
  | _=>none
 | _,_=>none
noncomputable def loop (l:Option Nat) (f:Ite->Env->M (Fl×Env)):List Ite->Env->M (Fl×Env)
 | [],σ=>ok (.nx,σ)
 | x::xs,σ=>λh=>match f x σ h with
  | some ((fl,σ1),h1)=>match fl with
   | .ret r=>some ((.ret r,σ1),h1)
   | .brk=>some ((.nx,σ1),h1)
   | _=>if zbb l h h1 then loop l f xs σ1 h1 else none
  | none=>none
mutual
noncomputable def ex (Γ:Calls):S->Env->M (Fl×Env)
 | .asg tg e,σ=>bnd (ev Γ e σ) λr=>bnd (zbd tg r σ) λσ'=>ok (.nx,σ')
 | .setI o i e,σ=>bnd (ev Γ e σ) λr=>bnd (ev Γ o σ) λx=>bnd (ev Γ i σ) λy=>bnd (fz r) λd=>bnd (rd y) λy=>bnd (zeD x y d) λ_=>ok (.nx,σ)
 | .exp e,σ=>bnd (ev Γ e σ) λ_=>ok (.nx,σ)
 | .ife c a b,σ=>bnd (tv Γ c σ) λt=>if t then exs Γ a σ else exs Γ b σ
 | .for tg it body,σ=>bnd (evI Γ it σ) λw=>loop w.l (λx σ=>bnd (za9 tg x σ) λσ'=>exs Γ body σ') w.xs σ
 | .ret e,σ=>bnd (ev Γ e σ) λr=>ok (.ret r,σ)
 | .brk,σ=>ok (.brk,σ)
 | .cnt,σ=>ok (.cnt,σ)
 | .setD o k e,σ=>bnd (ev Γ e σ) λr=>bnd (ev Γ o σ) λx=>bnd (ev Γ k σ) λy=>bnd (fz r) λd=>bnd (kRd y) λk=>bnd (dSet x k d) λ_=>ok (.nx,σ)
 | .stuck,_=>λ_=>none
noncomputable def exs (Γ:Calls):List S->Env->M (Fl×Env)
 | [],σ=>ok (.nx,σ)
 | s::r,σ=>bnd (ex Γ s σ) λp=>match p.1 with
  | .nx=>exs Γ r p.2
  | _=>ok p
end
structure F where
 np:Nat
 ns:Nat
 body:List S
 keep:Bool
 dfl:List D
 all:Bool:=false
noncomputable def zbj (np:Nat) (dfl:List D) (rs:List R):List R:=if rs.length+dfl.length<np then rs else rs++(dfl.drop (rs.length+dfl.length-np)).map R.d
noncomputable def R.same:R->R->Bool
 | .d x,y=>match y with
  | .d z=>D.same x z
  | _=>false
 | .loc l,y=>match y with
  | .loc k=>l==k
  | _=>false
noncomputable def zdd:List (Str×R)->List (Str×R)->Bool
  | [],ys=>ys.isEmpty
  | (f,x)::r,ys=>match ys with
    | (g,y)::t=>f==g&&x.same y&&zdd r t
    | []=>false
noncomputable def objs:Sto->Sto->Bool
 | [],_=>true
 | o::h,h1=>match h1 with
  | []=>false
  | o1::t=>(match o,o1 with
   | .ins c fs,.ins c1 fs1=>c==c1&&zdd fs fs1
   | .ols a,.ols b=>a==b
   | .dic a,.dic b=>zbr a b
   | .dfr a,.dfr b=>zbr a b
   | .lst _,.lst _=>true
   | .lst _,.fro _=>true
   | .fro _,.lst _=>true
   | .fro _,.fro _=>true
   | _,_=>false)&&objs h t
noncomputable def fin0 (n0:Nat) (keep:Bool) (r:R) (h1:Sto):Option (R×Sto):=match r with
 | .d x=>some (.d x,h1.take n0)
 | .loc l=>if l<n0 then some (.loc l,h1.take n0) else match h1[l]? with
  | some (.lst xs)=>if keep then some (.loc n0,h1.take n0++[.lst xs]) else some (.d (.lst xs),h1.take n0)
  | some (.fro xs)=>some (.d (.lst xs),h1.take n0)
  | _=>none
noncomputable def fin (h:Sto) (all keep:Bool) (r:R) (h1:Sto):Option (R×Sto):=if all then some (r,h1) else if objs h h1 then fin0 h.length keep r h1 else none
noncomputable def zaq (P:List F):Nat->Calls
 | 0,_,_=>λ_=>none
 | n + 1,f,rs=>λh=>match P[f]? with
  | some F=>if (zbj F.np F.dfl rs).length=F.np then match exs (zaq P n) F.body ((zbj F.np F.dfl rs).map some++List.replicate (F.ns-F.np) none) h with
    | some ((.ret r,_),h1)=>fin h F.all F.keep r h1
    | some ((.nx,_),h1)=>fin h F.all F.keep (.d .non) h1
    | _=>none
   else none
  | none=>none
theorem zbO (P:List F) (n f:Nat) (rs:List R) (h:Sto):zaq P (n+1) f rs h=match P[f]? with
  | some F=>if (zbj F.np F.dfl rs).length=F.np then match exs (zaq P n) F.body ((zbj F.np F.dfl rs).map some++List.replicate (F.ns-F.np) none) h with
    | some ((.ret r,_),h1)=>fin h F.all F.keep r h1
    | some ((.nx,_),h1)=>fin h F.all F.keep (.d .non) h1
    | _=>none
   else none
  | none=>none:=rfl
end IT
set_option linter.all false
set_option maxHeartbeats 4000000
set_option maxRecDepth 100000
namespace IT
open PySem
noncomputable def zac (x:List Nat):Str:=⟨x.toArray⟩
theorem zai (x:List Nat):(zac x).length=x.length:=by simp [zac,Str.length]
theorem zce {x y:List Nat} (h:zac x=zac y):x=y:=by
 have:=congrArg (λs:Str=>s.cps.toList) h
 simpa [zac] using this
theorem zkr (x y:List Nat):zac x++zac y=zac (x++y):=by
 show Str.append _ _=_
 simp [zac,Str.append]
mutual
noncomputable def KAt (h:Heap):D->Value->Prop
 | .int i,u=>∃ t,u=.int i t
 | .str x,u=>∃ t,u=.str (zac x) t
 | .tup xs,u=>∃ a its,u=.ref a/\h.IsTuple a its/\KAts h xs its.toList
 | .non,_=>False
 | .bl _,_=>False
 | .lst _,_=>False
noncomputable def KAts (h:Heap):List D->List Value->Prop
 | [],us=>us=[]
 | x::xs,us=>∃ u r,us=u::r/\KAt h x u/\KAts h xs r
end
mutual
noncomputable def zdE (w:World):D->Int
 | .int i=>hashInt i
 | .str x=>hashStr w (zac x)
 | .tup xs=>reduceHash (Builtin.Tuple.tupleHashOf (kHashs w xs))
 | .non=>0
 | .bl _=>0
 | .lst _=>0
noncomputable def kHashs (w:World):List D->List Int
 | []=>[]
 | x::xs=>zdE w x::kHashs w xs
end
mutual
noncomputable def zgw:D->Nat
 | .tup xs=>kDrawss xs+1
 | .int _=>1
 | .str _=>1
 | .non=>1
 | .bl _=>1
 | .lst _=>1
noncomputable def kDrawss:List D->Nat
 | []=>0
 | x::xs=>zgw x+kDrawss xs
end
theorem zea:∀ xs ys:List D,kDrawss (xs++ys)=kDrawss xs+kDrawss ys
 | [],ys=>by simp [kDrawss]
 | x::xs,ys=>by simp only [List.cons_append,kDrawss,zea xs ys];omega
theorem zeT (w:World):∀ xs ys:List D,kHashs w (xs++ys)=kHashs w xs++kHashs w ys
 | [],ys=>rfl
 | x::xs,ys=>by simp only [List.cons_append,kHashs,zeT w xs ys]
mutual
theorem KAt.keep {h h':Heap} (k:∀ a its,h.IsTuple a its->h'.IsTuple a its):∀ (x:D) (u:Value),KAt h x u->KAt h' x u
 | .int _,_,q=>by simp only [KAt] at q ⊢;exact q
 | .str _,_,q=>by simp only [KAt] at q ⊢;exact q
 | .tup xs,_,q=>by
  simp only [KAt] at q ⊢
  obtain ⟨a,its,e,t,r⟩:=q
  exact ⟨a,its,e,k a its t,KAts.keep k xs _ r⟩
 | .non,_,q=>by simp only [KAt] at q
 | .bl _,_,q=>by simp only [KAt] at q
 | .lst _,_,q=>by simp only [KAt] at q
theorem KAts.keep {h h':Heap} (k:∀ a its,h.IsTuple a its->h'.IsTuple a its):∀ (x:List D) (u:List Value),KAts h x u->KAts h' x u
 | [],_,q=>by simp only [KAts] at q ⊢;exact q
 | x::xs,_,q=>by
  simp only [KAts] at q ⊢
  obtain ⟨u,r,e,q1,q2⟩:=q
  exact ⟨u,r,e,KAt.keep k x u q1,KAts.keep k xs r q2⟩
end
theorem zeS {h:Heap} {a:Addr} {xs ys:Array Value} (p:h.IsTuple a xs) (q:h.IsTuple a ys):xs=ys:=by
 obtain ⟨o,e,_,n,d⟩:=p
 obtain ⟨o',e',_,n',d'⟩:=q
 rw [e] at e';cases e';rw [d] at d';cases d';rfl
mutual
theorem KAt.inj {h:Heap}:∀ (x y:D) (u:Value),KAt h x u->KAt h y u->x=y
 | .int a,y,u,p,q=>by
  simp only [KAt] at p
  obtain ⟨t,rfl⟩:=p
  cases y<;>simp [KAt] at q
  rw [q]
 | .str a,y,u,p,q=>by
  simp only [KAt] at p
  obtain ⟨t,rfl⟩:=p
  cases y<;>simp [KAt] at q
  rw [zce q]
 | .tup a,y,u,p,q=>by
  simp only [KAt] at p
  obtain ⟨c,its,rfl,t,r⟩:=p
  cases y with
  | tup b=>
   simp only [KAt] at q
   obtain ⟨c',its',e,t',r'⟩:=q
   cases e
   have:=zeS t t'
   subst this
   rw [KAts.inj a b _ r r']
  | _=>simp [KAt] at q
 | .non,_,_,p,_=>by simp only [KAt] at p
 | .bl _,_,_,p,_=>by simp only [KAt] at p
 | .lst _,_,_,p,_=>by simp only [KAt] at p
theorem KAts.inj {h:Heap}:∀ (x y:List D) (u:List Value),KAts h x u->KAts h y u->x=y
 | [],[],_,_,_=>rfl
 | [],_::_,_,p,q=>by
  simp only [KAts] at p q
  subst p
  obtain ⟨_,_,e,_⟩:=q
  cases e
 | _::_,[],_,p,q=>by
  simp only [KAts] at p q
  subst q
  obtain ⟨_,_,e,_⟩:=p
  cases e
 | x::xs,y::ys,_,p,q=>by
  simp only [KAts] at p q
  obtain ⟨u,r,rfl,p1,p2⟩:=p
  obtain ⟨u',r',e,q1,q2⟩:=q
  cases e
  rw [KAt.inj x y u p1 q1,KAts.inj xs ys r p2 q2]
end
theorem KAts.length {h:Heap}:∀ {x:List D} {u:List Value},KAts h x u->x.length=u.length
 | [],_,q=>by simp only [KAts] at q;subst q;rfl
 | x::xs,_,q=>by
  simp only [KAts] at q
  obtain ⟨u,r,rfl,_,q⟩:=q
  simp only [List.length_cons,KAts.length q]
theorem KAts.at {h:Heap}:∀ {x:List D} {u:List Value},KAts h x u->∀ (j:Nat) (d:D),x[j]?=some d->∃ v,u[j]?=some v/\KAt h d v
 | [],_,_,j,d,e=>by simp at e
 | x::xs,_,q,j,d,e=>by
  simp only [KAts] at q
  obtain ⟨u,r,rfl,q1,q2⟩:=q
  cases j with
  | zero=>simp at e;subst e;exact ⟨u,rfl,q1⟩
  | succ j=>simp at e;simpa using KAts.at q2 j d e
theorem zhf:∀ {xs:List D} {x:D} {i:Nat},xs[i]?=some x->x.dep<=D.deps xs
 | [],x,i,e=>by simp at e
 | y::xs,x,i,e=>by
  cases i with
  | zero=>simp at e;subst e;simp only [D.deps];omega
  | succ i=>simp at e;have:=zhf e;simp only [D.deps];omega
noncomputable def zd4 (xs ys:List D) (j:Nat):Bool:=match xs[j]?,ys[j]? with
 | some x,some y=>x.same y
 | _,_=>false
theorem zgq:∀ xs ys:List D,((List.range (min xs.length ys.length)).all (zd4 xs ys)&&xs.length==ys.length)=D.sames xs ys
 | [],[]=>rfl
 | [],_::_=>by simp [D.sames]
 | _::_,[]=>by simp [D.sames]
 | x::xs,y::ys=>by
  have ih:=zgq xs ys
  have e:min (x::xs).length (y::ys).length=min xs.length ys.length+1:=by simp only [List.length_cons];omega
  rw [e,List.range_succ_eq_map,List.all_cons,List.all_map,D.sames,<-ih]
  have e2:(zd4 (x::xs) (y::ys)∘Nat.succ)=zd4 xs ys:=by funext j;rfl
  rw [e2]
  show (x.same y&&_&&_)=_
  rw [Bool.and_assoc]
  congr 2
  simp
theorem zfz {x y:D} (h:x≠y):x.same y=false:=by
 cases e:x.same y
 ·rfl
 ·exact absurd (D.same_eq x y e) h
open SeqAt in
theorem kEq {s:Shared}:∀ (n:Nat) (x y:D) (A:Around) (u v:Value),x.dep<=n->KAt s.heap x u->KAt s.heap y v->A.units+n<cLine->EqAt A s u v (x.same y)
 | n,.int a,y,A,u,v,hn,p,q,hu=>by
  simp only [KAt] at p
  obtain ⟨t,rfl⟩:=p
  cases y with
  | int b=>simp only [KAt] at q;obtain ⟨t',rfl⟩:=q;exact EqAt.int_int a t b t'
  | str b=>simp only [KAt] at q;obtain ⟨t',rfl⟩:=q;exact EqAt.int_str a t _ t'
  | tup b=>simp only [KAt] at q;obtain ⟨c,its,rfl,t',_⟩:=q;exact EqAt.int_tuple a t t' (by omega)
  | _=>simp [KAt] at q
 | n, .str a,y,A,u,v,hn,p,q,hu=>by
  simp only [KAt] at p
  obtain ⟨t,rfl⟩:=p
  cases y with
  | int b=>simp only [KAt] at q;obtain ⟨t',rfl⟩:=q;exact EqAt.str_int _ t b t'
  | str b=>
   simp only [KAt] at q;obtain ⟨t',rfl⟩:=q
   have z:=EqAt.str_str (A:=A) (s:=s) (zac a) t (zac b) t'
   have e:(zac a==zac b)=(D.str a).same (D.str b):=by
    show _=(a==b)
    by_cases h:a=b
    ·subst h;simp
    ·rw [beq_eq_false_iff_ne.mpr h,beq_eq_false_iff_ne.mpr λz=>h (zce z)]
   rw [e] at z
   exact z
  | tup b=>simp only [KAt] at q;obtain ⟨c,its,rfl,t',_⟩:=q;exact EqAt.str_tuple _ t t' (by omega)
  | _=>simp [KAt] at q
 | n, .tup a,y,A,u,v,hn,p,q,hu=>by
  simp only [KAt] at p
  obtain ⟨c,its,rfl,t,r⟩:=p
  cases y with
  | int b=>simp only [KAt] at q;obtain ⟨t',rfl⟩:=q;exact EqAt.tuple_int b t' t (by omega)
  | str b=>simp only [KAt] at q;obtain ⟨t',rfl⟩:=q;exact EqAt.tuple_str _ t' t (by omega)
  | tup b=>
   simp only [KAt] at q
   obtain ⟨c',its',rfl,t',r'⟩:=q
   by_cases hc:c=c'
   ·subst hc
    have e1:=zeS t t'
    subst e1
    have e2:=KAts.inj a b _ r r'
    subst e2
    exact (show D.same (.tup a) (.tup a)=true from D.same_refl _)▸EqAt.same _
   ·refine EqAt.of_refs hc ?_
    match n,hn with
    | 0,hn=>simp only [D.dep] at hn;omega
    | n + 1,hn=>
     have l1:=r.length
     have l2:=r'.length
     have z:=RcAt.tuples (A:=A) (e:=zd4 a b) t t' (by omega) (λj h1 h2=>by
      have j1:j<a.length:=by rw [l1];simpa using h1
      have j2:j<b.length:=by rw [l2];simpa using h2
      obtain ⟨w,e3,k3⟩:=r.at j _ (List.getElem?_eq_getElem j1)
      obtain ⟨w',e4,k4⟩:=r'.at j _ (List.getElem?_eq_getElem j2)
      have hd:=zhf (List.getElem?_eq_getElem j1)
      have ih:=kEq n (a[j]) (b[j]) A.in1 w w' (by simp only [D.dep] at hn;omega) k3 k4 (by show A.units+1+n<cLine;omega)
      have e5:zd4 a b j=(a[j]).same (b[j]):=by simp [zd4,List.getElem?_eq_getElem j1,List.getElem?_eq_getElem j2]
      rw [e5]
      have e6:its[j]=w:=by
       have:=List.getElem?_eq_some_iff.mp e3
       obtain ⟨_,e⟩:=this
       simpa using e
      have e7:its'[j]=w':=by
       obtain ⟨_,e⟩:=List.getElem?_eq_some_iff.mp e4
       simpa using e
      rw [e6,e7]
      exact ih)
     have e8:((List.range (min its.size its'.size)).all (zd4 a b)&&its.size==its'.size)=D.sames a b:=by
      rw [<-zgq,l1,l2]
      simp
     rw [e8] at z
     exact z
  | _=>simp [KAt] at q
 | _,.non,_,_,_,_,_,p,_,_=>by simp only [KAt] at p
 | _,.bl _,_,_,_,_,_,p,_,_=>by simp only [KAt] at p
 | _,.lst _,_,_,_,_,_,p,_,_=>by simp only [KAt] at p
theorem zeO {s:Shared} {a:Addr} {its:Array Value} (t:s.heap.IsTuple a its):s.TypeIs (.ref a) "tuple":=let ⟨o,e,c,_⟩:=t;⟨o,e,c⟩
section
variable {prog:Program} {w:World} {E:Value->Shared->Prop}
theorem zhD:∀ (n:Nat) (x:D) (A:Around) (s:Shared) (u:Value) (Q:Int->Shared->Prop),x.dep<=n->KAt s.heap x u->A.units+n<cLine->Q (zdE w x) { s with toks:=s.toks+zgw x } →
  wpAny (model prog w) A (pyHash u) Q E s
 | n,.int a,A,s,u,Q,hn,p,hu,q=>by
  simp only [KAt] at p
  obtain ⟨t,rfl⟩:=p
  exact wpAny_pyHash_int q
 | n,.str a,A,s,u,Q,hn,p,hu,q=>by
  simp only [KAt] at p
  obtain ⟨t,rfl⟩:=p
  exact wpAny_pyHash_str q
 | 0,.tup a,A,s,u,Q,hn,p,hu,q=>by simp only [D.dep] at hn;omega
 | n + 1,.tup a,A,s,u,Q,hn,p,hu,q=>by
  simp only [KAt] at p
  obtain ⟨c,its,rfl,t,r⟩:=p
  have T:=zeO t
  obtain ⟨o,ho,_,m,hd⟩:=t
  have hdep:D.deps a<=n:=by simp only [D.dep] at hn;omega
  unfold pyHash
  first | unfold pyHashByItsType | skip
  first | refine wpAny_bind (wpAny_cRoomFor_or (.inr (show A.units<cLine by omega)) ?_) | skip
  refine wpAny_bind (wpAny_specialOf T F.slot_tuple_hash.lookup ?_)
  show wpAny _ _ (if (some (Value.builtin "tuple.__hash__")==some Value.none)=true then _ else _) Q E _
  rw [if_neg (by rw [beq_builtin_none];exact Bool.false_ne_true)]
  refine wpAny_bind (wpAny_specialOf T F.slot_tuple_hash.lookup ?_)
  show wpAny _ _ (callSpecialIfBoundUnlessNone? (.ref c) "__hash__" _ >>= _) Q E _
  refine wpAny_bind (wpAny_callSpecialIfBoundUnlessNone?_slot T F.slot_tuple_hash (wpAny_call_entry F.slot_tuple_hash T F.entry_tuple_hash ?_ (F.args_tuple_hash_1 _)))
  show wpAny _ A.in1 (Builtin.Tuple.tupleItemsOf (.ref c) >>= _) _ _ _
  refine wpAny_bind (wpAny_tupleItemsOf ho hd (wpAny_bind ?_))
  rw [<-Array.forIn_toList]
  refine wpAny_forIn_list _ (λrest (b:Array Int) s1=>∃ done left,a=done++left/\KAts s.heap left rest/\b.toList=kHashs w done/\s1={ s with toks:=s.toks+kDrawss done }) _ ?_ ?_ _ _ ⟨[],a,rfl,r,rfl,rfl⟩
  ·rintro v rest b s1 ⟨done,left,rfl,hl,hb,rfl⟩
   cases left with
   | nil=>simp only [KAts] at hl;cases hl
   | cons k ks=>
    simp only [KAts] at hl
    obtain ⟨v',rest',ez,k1,k2⟩:=hl
    cases ez
    have hk:k.dep<=n:=by
     have:=zhf (xs:=done++k::ks) (x:=k) (i:=done.length) (by simp)
     omega
    refine wpAny_bind (zhD n k A.in1 _ v _ hk k1 (by show A.units+1+n<cLine;omega) ?_)
    have fin:∃ d2 l2,done++k::ks=d2++l2/\KAts s.heap l2 rest/\(b.push (zdE w k)).toList=kHashs w d2/\({ s with toks:=s.toks+kDrawss done+zgw k }:Shared)={ s with toks:=s.toks+kDrawss d2 }:=
     ⟨done++[k],ks,by simp,k2,by simp [hb,zeT,kHashs],by simp [zea,kDrawss,Nat.add_assoc]⟩
    first | exact wpAny_pure fin | exact wpAny_bind (wpAny_pure (wpAny_pure fin))
  ·rintro b s1 ⟨done,left,rfl,hl,hb,rfl⟩
   cases left with
   | cons k ks=>simp only [KAts] at hl;obtain ⟨_,_,ez,_⟩:=hl;cases ez
   | nil=>
    rw [List.append_nil] at q
    show wpAny _ _ (retInt (Builtin.Tuple.tupleHashOf b.toList)) _ _ _
    rw [hb]
    refine wpAny_ret_mkInt ?_
    have q2:Q (reduceHash (Builtin.Tuple.tupleHashOf (kHashs w done))) { s with toks:=s.toks+(kDrawss done+1) }:=by
     simp only [zdE,zgw] at q;exact q
    clear q
    unfold reduceHash at q2
    generalize Builtin.Tuple.tupleHashOf (kHashs w done)=z at q2 ⊢
    show wpAny _ _ (if (decide (-(2:Int) ^ 63<=z)&&decide (z<2 ^ 63))=true then _ else _) Q E _
    by_cases hr:(decide (-(2:Int) ^ 63<=z)&&decide (z<2 ^ 63))=true
    ·rw [if_pos hr] at q2 ⊢
     exact wpAny_pure (by simpa [Nat.add_assoc] using q2)
    ·rw [if_neg hr] at q2 ⊢
     exact wpAny_bind (wpAny_rule (wpAny_pure (by simpa [Nat.add_assoc] using q2)))
 | _,.non,_,_,_,_,_,p,_,_=>by simp only [KAt] at p
 | _,.bl _,_,_,_,_,_,p,_,_=>by simp only [KAt] at p
 | _,.lst _,_,_,_,_,_,p,_,_=>by simp only [KAt] at p
theorem zlY:∀ (n:Nat) (x:D) (A:Around) (s:Shared) (u:Value) (Q:Bool->Shared->Prop),x.dep<=n->KAt s.heap x u->Q true s->wpAny (model prog w) A (eqIsQuiet n u) Q E s
 | n,.int a,A,s,u,Q,hn,p,q=>by
  simp only [KAt] at p
  obtain ⟨t,rfl⟩:=p
  rw [eqIsQuiet_byValue n rfl]
  exact wpAny_pure q
 | n,.str a,A,s,u,Q,hn,p,q=>by
  simp only [KAt] at p
  obtain ⟨t,rfl⟩:=p
  rw [eqIsQuiet_byValue n rfl]
  exact wpAny_pure q
 | 0,.tup a,A,s,u,Q,hn,p,q=>by simp only [D.dep] at hn;omega
 | n + 1,.tup a,A,s,u,Q,hn,p,q=>by
  simp only [KAt] at p
  obtain ⟨c,its,rfl,t,r⟩:=p
  have T:=zeO t
  obtain ⟨o,ho,_,m,hd⟩:=t
  have hdep:D.deps a<=n:=by simp only [D.dep] at hn;omega
  unfold eqIsQuiet
  refine wpAny_bind (wpAny_specialOf T F.slot_tuple_eq.lookup ?_)
  show wpAny _ _ (isInstance (.ref c) (.type "tuple") >>= _) _ _ _
  refine wpAny_bind (wpAny_isInstance T isSubtype_tuple_tuple ?_)
  simp only [Bool.not_true,Bool.false_eq_true,if_false]
  refine wpAny_bind (wpAny_seqItems ho hd (wpAny_bind ?_))
  show wpAny _ _ (forIn its _ _) _ _ _
  rw [<-Array.forIn_toList]
  refine wpAny_forIn_list _ (λrest r s1=>r.1=none/\s1=s/\∃ left,D.deps left<=n/\KAts s.heap left rest) _ ?_ ?_ _ _ ⟨rfl,rfl,a,hdep,r⟩
  ·rintro v rest r s1 ⟨hr,rfl,left,hl,hk⟩
   cases left with
   | nil=>simp only [KAts] at hk;cases hk
   | cons k ks=>
    simp only [KAts] at hk
    obtain ⟨v',rest',ez,k1,k2⟩:=hk
    cases ez
    simp only [D.deps] at hl
    refine wpAny_bind (zlY n k A _ v _ (by omega) k1 ?_)
    simp only [Bool.not_true,Bool.false_eq_true,if_false]
    exact wpAny_pure ⟨rfl,rfl,ks,by omega,k2⟩
  ·rintro ⟨r1,r2⟩ s1 ⟨hr,rfl,_⟩
   simp only at hr
   subst hr
   exact wpAny_pure q
 | _,.non,_,_,_,_,_,p,_=>by simp only [KAt] at p
 | _,.bl _,_,_,_,_,_,p,_=>by simp only [KAt] at p
 | _,.lst _,_,_,_,_,_,p,_=>by simp only [KAt] at p
end
noncomputable instance:DecidableEq D:=λx y=>if h:x.same y=true then isTrue (D.same_eq x y h) else isFalse λe=>h (e▸D.same_refl x)
theorem zcO (x y:D):x.same y=decide (x=y):=by
 by_cases h:x=y
 ·subst h;rw [D.same_refl,decide_eq_true rfl]
 ·rw [zfz h,decide_eq_false h]
theorem zkc {h h':Heap} {d:Addr} {o:Obj} {es:Array DictEntry} {ep:Nat} (ho:h.get? d=some o) (hd:o.data=.dict es ep) (hs:Heap.SameBut d h h') (a:Addr) (its:Array Value) (t:h.IsTuple a its):h'.IsTuple a its:=by
 obtain ⟨o',e,c,n,dt⟩:=t
 have ne:a≠d:=by
  rintro rfl
  rw [ho] at e;cases e
  rw [hd] at dt;cases dt
 exact ⟨o',(hs.2 a ne).trans e,c,n,dt⟩
noncomputable def dKind (prog:Program) (w:World):HeapKind prog w D where
 is:=λh x a=>x.dep<=8/\KAt h x (.ref a)
 hash:=zdE w
 draws:=zgw
 room:=λA=>A.units+8<cLine
 inj:=λhx hy=>KAt.inj _ _ _ hx.2 hy.2
 keeps:=λx ho hd hs=>⟨x.1,KAt.keep (zkc ho hd hs) _ _ x.2⟩
 pyHash:=λhu hk q=>zhD 8 _ _ _ _ _ hk.1 hk.2 hu q
 eqBool:=λhu hx hy q=>kEq 8 _ _ _ _ _ hx.1 hx.2 hy.2 hu _ _ _ _ (by rw [zcO];exact q)
 quiet:=λhk q=>zlY 8 _ _ _ _ _ hk.1 hk.2 q
end IT
set_option Elab.async false
set_option linter.all false
set_option maxRecDepth 100000
namespace L2
open PySem PySem.Spec PyProof.Rows
noncomputable abbrev Key:=Sum Int Str
noncomputable def zqr:Key->Value->Bool
 | .inl k,v=>Value.isInt k v
 | .inr x,v=>Value.isStrOf x v
noncomputable def keyH (w:World):Key->Int
 | .inl k=>hashInt k
 | .inr x=>hashStr w x
theorem zaY:∀ {k:Key} {v:Value},zqr k v=true->(∃ i t,k=Sum.inl i/\v=Value.int i t)\/(∃ x t,k=Sum.inr x/\v=Value.str x t)
 | .inl i,v,h=>by
  obtain ⟨t,e⟩:=Value.isInt_shape (k:=i) (v:=v) h
  exact .inl ⟨i,t,rfl,e⟩
 | .inr x,v,h=>by
  obtain ⟨t,e⟩:=Value.isStrOf_shape (x:=x) (v:=v) h
  exact .inr ⟨x,t,rfl,e⟩
theorem zqx (a b:Int):decide ((Sum.inl a:Key)=Sum.inl b)=(a==b):=by
 by_cases e:a=b
 ·subst e;simp
 ·have h:¬ (Sum.inl a:Key)=Sum.inl b:=λq=>e (Sum.inl.inj q)
  rw [decide_eq_false h]
  exact (beq_eq_false_iff_ne.mpr e).symm
theorem zp7 (a b:Str):decide ((Sum.inr a:Key)=Sum.inr b)=decide (a=b):=by
 by_cases e:a=b
 ·subst e;simp
 ·have h:¬ (Sum.inr a:Key)=Sum.inr b:=λq=>e (Sum.inr.inj q)
  rw [decide_eq_false h,decide_eq_false e]
theorem zpW (a:Int) (b:Str):decide ((Sum.inl a:Key)=Sum.inr b)=false:=decide_eq_false (λq=>nomatch q)
theorem zoK (a:Str) (b:Int):decide ((Sum.inr a:Key)=Sum.inl b)=false:=decide_eq_false (λq=>nomatch q)
noncomputable def zjl (prog:Program) (w:World):PySem.KeyKind prog w Key where
 is:=zqr
 hash:=keyH w
 inj:=λv a b ha hb=>by
  rcases zaY ha with ⟨i,t,rfl,rfl⟩ | ⟨x,t,rfl,rfl⟩
  ·rcases zaY hb with ⟨j,u,rfl,e⟩ | ⟨y,u,rfl,e⟩
   ·injection e with e1 _;rw [e1]
   ·exact nomatch e
  ·rcases zaY hb with ⟨j,u,rfl,e⟩ | ⟨y,u,rfl,e⟩
   ·exact nomatch e
   ·injection e with e1 _;rw [e1]
 byValue:=λk v h=>by
  rcases zaY h with ⟨i,t,rfl,rfl⟩ | ⟨x,t,rfl,rfl⟩<;>rfl
 pyHash:=λhv h=>by
  rcases zaY hv with ⟨i,t,rfl,rfl⟩ | ⟨x,t,rfl,rfl⟩
  ·exact wpAny_pyHash_int h
  ·exact wpAny_pyHash_str h
 eqBool:=λhu hv h=>by
  rcases zaY hu with ⟨i,t,rfl,rfl⟩ | ⟨x,t,rfl,rfl⟩
  ·rcases zaY hv with ⟨j,u,rfl,rfl⟩ | ⟨y,u,rfl,rfl⟩
   ·rw [zqx] at h;exact wpAny_eqBool_int h
   ·rw [zpW] at h;exact SeqAt.EqAt.int_str i t y u _ _ _ _ h
  ·rcases zaY hv with ⟨j,u,rfl,rfl⟩ | ⟨y,u,rfl,rfl⟩
   ·rw [zoK] at h;exact SeqAt.EqAt.str_int x t j u _ _ _ _ h
   ·rw [zp7] at h;exact wpAny_eqBool_str h
 «strs»:=λk x t v h=>by
  rcases zaY h with ⟨i,u,rfl,e⟩ | ⟨y,u,rfl,e⟩
  ·exact nomatch e
  ·injection e with e1 _
   subst e1
   cases v<;>rfl
end L2
namespace L2
open PySem PySem.Spec PyProof.Rows
inductive V where
 | non | bl (b:Bool) | int (i:Int) | str (x:Str) | byt (b:Array UInt8) | flt (b:UInt64) | ref (a:Addr) | ty (n:String)
 deriving DecidableEq
noncomputable def RelV:V->Value->Prop
 | .non,u=>u=Value.none
 | .bl b,u=>u=Value.bool b
 | .int i,u=>∃ t,u=Value.int i t
 | .str x,u=>∃ t,u=Value.str x t
 | .byt b,u=>∃ t,u=Value.bytes b t
 | .flt b,u=>∃ t,u=Value.float b t
 | .ref a,u=>u=Value.ref a
 | .ty n,u=>u=Value.type n
noncomputable abbrev Vals:List V->List Value->Prop:=Paired RelV
theorem Vals.length {xs:List V} {us:List Value} (r:Vals xs us):xs.length=us.length:=Paired.length r
theorem Vals.get:∀ {xs:List V} {us:List Value} {i:Nat} {x:V},Vals xs us->xs[i]?=some x->∃ u,us[i]?=some u/\RelV x u
 | _,_,_,_,.nil,e=>by simp at e
 | _,_,0,_,.cons r _,e=>by simp at e;subst e;exact ⟨_,rfl,r⟩
 | _,_,i+1,x,.cons _ t,e=>by
  obtain ⟨u,h1,h2⟩:=Vals.get (i:=i) (x:=x) t (by simpa using e)
  exact ⟨u,by simpa using h1,h2⟩
theorem Vals.set {x:V} {u:Value} (r:RelV x u):∀ {xs:List V} {us:List Value} (i:Nat),Vals xs us->Vals (xs.set i x) (us.set i u)
 | _,_,_,.nil=>.nil
 | _,_,0,.cons _ t=>.cons r t
 | _,_,i+1,.cons q t=>.cons q (Vals.set r i t)
theorem Vals.append:∀ {xs ys:List V} {us ws:List Value},Vals xs us->Vals ys ws->Vals (xs++ys) (us++ws)
 | _,_,_,_,.nil,s=>s
 | _,_,_,_,.cons r t,s=>.cons r (Vals.append t s)
theorem Vals.take:∀ {xs:List V} {us:List Value} (n:Nat),Vals xs us->Vals (xs.take n) (us.take n)
 | _,_,0,_=>.nil
 | _,_,_+1,.nil=>.nil
 | _,_,n+1,.cons r t=>.cons r (Vals.take n t)
theorem Vals.drop:∀ {xs:List V} {us:List Value} (n:Nat),Vals xs us->Vals (xs.drop n) (us.drop n)
 | _,_,0,r=>r
 | _,_,_+1,.nil=>.nil
 | _,_,n+1,.cons _ t=>Vals.drop n t
noncomputable def RelO:Option V->Option Value->Prop
 | some v,some u=>RelV v u
 | none,none=>True
 | _,_=>False
noncomputable def KV {κ:Type}:List (κ×V)->List (κ×Value)->Prop:=Paired λ(p:κ×V) (q:κ×Value)=>p.1=q.1/\RelV p.2 q.2
noncomputable def kV:Key->V
 | .inl i=>.int i
 | .inr x=>.str x
inductive HO where
 | lst (xs:List V)
 | tup (xs:List V)
 | dK (kvs:List (Key×V)) | dT (kvs:List (IT.D×Addr×V))
 | set (S:Int->Bool) (n:Nat)
 | ins (C dx:Addr) (fs:List (Str×V))
 | own (x:Addr)
 | xd (fs:List (Str×V))
 | met (f x:Addr)
 | rng (lo hi:Int)
 | frz (o:Obj) (u:HO)
 | tbl (ps:Array Value)
 | ext (φ:Heap->Prop)
noncomputable abbrev Hp:=Addr->Option HO
noncomputable def upd (H:Hp) (a:Addr) (o:HO):Hp:=λb=>if b=a then some o else H b
theorem zaD {H:Hp} {a:Addr} {o:HO}:upd H a o a=some o:=by unfold upd;rw [if_pos rfl]
theorem zaF {H:Hp} {a b:Addr} {o:HO} (h:b≠a):upd H a o b=H b:=by unfold upd;rw [if_neg h]
theorem zaN {H:Hp} {a b:Addr} {o:HO} (h:H a=some o) (h':H b=none):a≠b:=by
 intro e;subst e;rw [h] at h';cases h'
section
variable (P:Program) (w:World)
noncomputable def zb8 (h:Heap) (a:Addr) (items:Array Value):Prop:=IsTup h a items/\∀ o,h.get? a=some o->o.dict=none
theorem zb8.new (h:Heap) (items:Array Value):zb8 (h.push { cls:=.type "tuple",data:=.seq items }) h.objs.size items:=⟨IsTup.new h items,λo e=>by rw [Heap.get?_push_size _ rfl] at e;cases e;rfl⟩
noncomputable def zb0 (H:Hp) (h:Heap) (a:Addr):HO->Prop
 | .lst xs=>xs.length<=sizeLine/\∃ (its:List Value) (n:Nat),Vals xs its/\h.get? a=some { cls:=.type "list",data:=.seq its.toArray n }
 | .tup xs=>xs.length<=sizeLine/\∃ its:List Value,Vals xs its/\zb8 h a its.toArray
 | .dK kvs=>kvs.length<=sizeLine/\(a==sysModules)=false/\∃ vs,KV kvs vs/\h.DictOf (zjl P w) a vs
 | .dT kvs=>kvs.length<=sizeLine/\(a==sysModules)=false/\∃ xs:List (IT.D×Addr×Value),Paired (λ(p:IT.D×Addr×V) (q:IT.D×Addr×Value)=>p.1=q.1/\p.2.1=q.2.1/\RelV p.2.2 q.2.2) kvs xs ∧
   ∃ o es ep,h.get? a=some o/\o.ExactDict/\o.data=.dict es ep/\es.toList=xs.map (entryOfKey (IT.dKind P w))/\(xs.map (·.1)).Nodup
 | .set S n=>h.SetOf (intKind P w) a S n
 | .ins C dx fs=>H dx=some (.own a)/\fs.length<=1000/\dx≠a/\h.get? a=some (PySem.W.instObj C dx) ∧
   ∃ mA,h.Ns1 dx mA/\(∀ f,RelO (fs.lookup f) (mA f))/\PySem.Within mA (fs.map (·.1))
 | .own _=>∃ o,h.get? a=some o
 | .xd fs=>∃ mA,h.Ns1 a mA/\∀ f,RelO (fs.lookup f) (mA f)
 | .rng lo hi=>∃ t u v,h.get? a=some { cls:=.type "range",data:=.fields #[.int lo t,.int hi u,.int 1 v] }
 | .frz o u=>h.get? a=some o/\zb0 H h a u
 | .tbl ps=>h.get? a=some { cls:=.none,data:=.fields ps }
 | .met f x=>h.get? a=some (PySem.W.methodObj (.ref f) (.ref x))
 | .ext φ=>φ h/\(∃ o,h.get? a=some o)/\∀ h1 h2:Heap,φ h1->(∀ o,h1.get? a=some o->h2.get? a=some o)->φ h2
noncomputable def HOk (H:Hp) (h:Heap):Prop:=∀ a o,H a=some o->zb0 P w H h a o
end
section
variable {P:Program} {w:World} {H H':Hp} {h h':Heap} {a:Addr} {o:HO}
theorem zb0.lt (x:zb0 P w H h a o):a<h.objs.size:=by
 cases o with
 | lst xs=>obtain ⟨_,_,_,_,e⟩:=x;exact Heap.lt_size e
 | tup xs=>obtain ⟨_,_,_,p⟩:=x;exact p.1.lt
 | dK kvs=>obtain ⟨_,_,_,_,o,_,_,e,_⟩:=x;exact Heap.lt_size e
 | dT kvs=>obtain ⟨_,_,_,_,o,_,_,e,_⟩:=x;exact Heap.lt_size e
 | set S n=>obtain ⟨o,_,_,_,e,_⟩:=x;exact Heap.lt_size e
 | ins C dx fs=>obtain ⟨_,_,_,e,_⟩:=x;exact Heap.lt_size e
 | own y=>obtain ⟨_,e⟩:=x;exact Heap.lt_size e
 | xd fs=>obtain ⟨_,⟨_,_,_,e,_⟩,_⟩:=x;exact Heap.lt_size e
 | rng lo hi=>obtain ⟨_,_,_,e⟩:=x;exact Heap.lt_size e
 | frz ob u=>obtain ⟨e,_⟩:=x;exact Heap.lt_size e
 | tbl ps=>exact Heap.lt_size (show h.get? a=some _ from x)
 | met f y=>exact Heap.lt_size (show h.get? a=some _ from x)
 | ext φ=>obtain ⟨_,⟨_,e⟩,_⟩:=x;exact Heap.lt_size e
theorem Paired.mapP {α β:Type} {F G:α->β->Prop}:∀ {l₁:List α} {l₂:List β},Paired F l₁ l₂->(∀ a b,F a b->G a b)->Paired G l₁ l₂
 | _,_,.nil,_=>.nil
 | _,_,.cons r t,f=>.cons (f _ _ r) (Paired.mapP t f)
theorem zb0.stay (x:zb0 P w H h a o) (k:∀ b u,(b=a\/H b=some (.own a))->h.get? b=some u->h'.get? b=some u)
  (ho:∀ b,H b=some (.own a)->H' b=some (.own a)) (ht:∀ b xs,H b=some (.tup xs)->H' b=some (.tup xs)):zb0 P w H' h' a o:=by
 induction o with
 | lst xs=>obtain ⟨z,its,n,r,e⟩:=x;exact ⟨z,its,n,r,k _ _ (.inl rfl) e⟩
 | tup xs=>obtain ⟨z,its,r,⟨ob,e,c⟩,dd⟩:=x;exact ⟨z,its,r,⟨ob,k _ _ (.inl rfl) e,c⟩,λo2 e2=>by rw [k _ _ (.inl rfl) e] at e2;cases e2;exact dd _ e⟩
 | dK kvs=>obtain ⟨z,y,vs,r,ob,es,ep,e,c⟩:=x;exact ⟨z,y,vs,r,ob,es,ep,k _ _ (.inl rfl) e,c⟩
 | dT kvs=>
  obtain ⟨z,y,xs,r,ob,es,ep,e,c⟩:=x
  exact ⟨z,y,xs,r,ob,es,ep,k _ _ (.inl rfl) e,c⟩
 | set S n=>obtain ⟨ob,es,ep,t,e,c⟩:=x;exact ⟨ob,es,ep,t,k _ _ (.inl rfl) e,c⟩
 | ins C dx fs=>
  obtain ⟨d,z,ne,e,mA,⟨od,es,ep,e2,c⟩,r⟩:=x
  exact ⟨ho _ d,z,ne,k _ _ (.inl rfl) e,mA,⟨od,es,ep,k _ _ (.inr d) e2,c⟩,r⟩
 | own y=>obtain ⟨ob,e⟩:=x;exact ⟨ob,k _ _ (.inl rfl) e⟩
 | xd fs=>obtain ⟨mA,⟨od,es,ep,e,c⟩,r⟩:=x;exact ⟨mA,⟨od,es,ep,k _ _ (.inl rfl) e,c⟩,r⟩
 | rng lo hi=>obtain ⟨t,u,v,e⟩:=x;exact ⟨t,u,v,k _ _ (.inl rfl) e⟩
 | frz ob u ih=>obtain ⟨e,q⟩:=x;exact ⟨k _ _ (.inl rfl) e,ih q⟩
 | tbl ps=>
  have e:h.get? a=some { cls:=.none,data:=.fields ps }:=x
  show h'.get? a=some { cls:=.none,data:=.fields ps }
  exact k a _ (.inl rfl) e
 | met f y=>
  have e:h.get? a=some (PySem.W.methodObj (.ref f) (.ref y)):=x
  show h'.get? a=some (PySem.W.methodObj (.ref f) (.ref y))
  exact k a _ (.inl rfl) e
 | ext φ=>obtain ⟨p,⟨o,e⟩,st⟩:=x;exact ⟨st _ _ p λo q=>k _ _ (.inl rfl) q,⟨o,k _ _ (.inl rfl) e⟩,st⟩
theorem HOk.lt (x:HOk P w H h) (e:H a=some o):a<h.objs.size:=(x a o e).lt
theorem HOk.fresh (x:HOk P w H h) (e:h.objs.size<=a):H a=none:=by
 cases q:H a with
 | none=>rfl
 | some u=>exact absurd (Nat.lt_of_lt_of_le (x.lt q) e) (Nat.lt_irrefl _)
theorem HOk.kept (x:HOk P w H h) (k:∀ b u,h.get? b=some u->h'.get? b=some u):HOk P w H h':=λa o e=>
 (x a o e).stay (λb u _ q=>k b u q) (λ_ q=>q) λ_ _ q=>q
theorem HOk.laid (x:HOk P w H h) (k:∀ b u,h.get? b=some u->h'.get? b=some u) (hp:h.objs.size<=a) (new:zb0 P w (upd H a o) h' a o):HOk P w (upd H a o) h':=λb u e=>by
 have hn:=x.fresh hp
 by_cases hb:b=a
 ·subst hb;rw [zaD] at e;cases e;exact new
 ·rw [zaF hb] at e
  exact (x b u e).stay (λc v _ q=>k c v q) (λc q=>by rw [zaF (zaN q hn)];exact q) λc xs q=>by rw [zaF (zaN q hn)];exact q
end
noncomputable def Rd (H:Hp) (a:Addr) (u:HO):Prop:=H a=some u\/∃ o,H a=some (.frz o u)
theorem Rd.of {H:Hp} {a:Addr} {u:HO} (h:H a=some u):Rd H a u:=.inl h
theorem Rd.ok {P:Program} {w:World} {H:Hp} {h:Heap} {a:Addr} {u:HO} (r:Rd H a u) (x:HOk P w H h):zb0 P w H h a u:=by
 rcases r with r | ⟨o,r⟩
 ·exact x a u r
 ·obtain ⟨_,q⟩:=x a _ r
  exact q
noncomputable def Mut:Option HO->Prop
 | some (.lst _)=>True
 | some (.dK _)=>True
 | some (.dT _)=>True
 | some (.set _ _)=>True
 | some (.ins _ _ _)=>True
 | some (.ext _)=>True
 | _=>False
section
variable {P:Program} {w:World} {H:Hp} {h h':Heap} {x e:Addr} {o':HO}
theorem HOk.write (ok:HOk P w H h) (mu:Mut (H x)) (he:e=x\/H e=some (.own x)) (k:∀ b u,b≠e->h.get? b=some u->h'.get? b=some u) (heo:∃ u,h'.get? e=some u)
  (new:zb0 P w (upd H x o') h' x o'):HOk P w (upd H x o') h':=λb u q=>by
 have nown:∀ c y,H c=some (.own y)->c≠x:=λc y r z=>by subst z;rw [r] at mu;exact mu
 have ntup:∀ c xs,H c=some (.tup xs)->c≠x:=λc xs r z=>by subst z;rw [r] at mu;exact mu
 by_cases hb:b=x
 ·subst hb;rw [zaD] at q;cases q;exact new
 ·rw [zaF hb] at q
  by_cases hbe:b=e
  ·have q':H b=some (.own x):=by
    rcases he with z | z
    ·exact absurd (hbe.trans z) hb
    ·rw [hbe];exact z
   rw [q] at q';cases q'
   obtain ⟨v,hv⟩:=heo
   exact ⟨v,by rw [hbe];exact hv⟩
  ·refine (ok b u q).stay (λc v hc r=>k c v ?_ r) (λc r=>by rw [zaF (nown c b r)];exact r) λc xs r=>by rw [zaF (ntup c xs r)];exact r
   rcases hc with rfl | hc
   ·exact hbe
   ·rintro rfl
    rcases he with z | z
    ·exact nown c b hc z
    ·rw [hc] at z;cases z;exact hb rfl
end
structure Un (fs ex:List Addr) (H H':Hp) (h h':Heap):Prop where
 keep:∀ b o,h.get? b=some o->H b=none->b ∉ fs->b ∉ ex->h'.get? b=some o
 slot:∀ b o,h.get? b=some o->H b=none->b∈fs->b ∉ ex->∃ sl,h'.get? b=some { o with slots:=sl }
 free:∀ b o,h.get? b=some o->H b=none->b ∉ ex->H' b=none
 there:∀ b o,h.get? b=some o->b ∉ ex->∃ o',h'.get? b=some o'
 tups:∀ b xs,H b=some (.tup xs)->H' b=some (.tup xs)
 frzs:∀ b o u,H b=some (.frz o u)->H' b=some (.frz o u)
 tbls:∀ b ps,H b=some (.tbl ps)->∃ more,H' b=some (.tbl (ps++more))
section
variable {fs fs' ex ex':List Addr} {H H1 H2:Hp} {h h1 h2 h':Heap} {a x e:Addr} {o:HO}
theorem Un.any (u:Un fs ex H H1 h h1) {b:Addr} {ob:Obj} (q:h.get? b=some ob) (n:H b=none) (hx:b ∉ ex):∃ sl,h1.get? b=some { ob with slots:=sl }:=by
 by_cases hb:b∈fs
 ·exact u.slot b ob q n hb hx
 ·exact ⟨ob.slots,u.keep b ob q n hb hx⟩
theorem Un.trans (a:Un fs ex H H1 h h1) (b:Un fs ex H1 H2 h1 h2):Un fs ex H H2 h h2 where
 keep:=λc ob q n hc hx=>b.keep c ob (a.keep c ob q n hc hx) (a.free c ob q n hx) hc hx
 slot:=λc ob q n hc hx=>by
  obtain ⟨sl,e1⟩:=a.slot c ob q n hc hx
  obtain ⟨sl',e2⟩:=b.slot c _ e1 (a.free c ob q n hx) hc hx
  exact ⟨sl',e2⟩
 free:=λc ob q n hx=>by
  obtain ⟨o',e1⟩:=a.there c ob q hx
  exact b.free c o' e1 (a.free c ob q n hx) hx
 there:=λc ob q hx=>by
  obtain ⟨o',e1⟩:=a.there c ob q hx
  exact b.there c o' e1 hx
 tups:=λc xs q=>b.tups c xs (a.tups c xs q)
 frzs:=λc ob xs q=>b.frzs c ob xs (a.frzs c ob xs q)
 tbls:=λc ps q=>by
  obtain ⟨m1,e1⟩:=a.tbls c ps q
  obtain ⟨m2,e2⟩:=b.tbls c _ e1
  exact ⟨m1++m2,by rw [e2,Array.append_assoc]⟩
theorem Un.kept (k:∀ b u,h.get? b=some u->h'.get? b=some u):Un fs ex H H h h':=
 ⟨λb ob q _ _ _=>k b ob q,λb ob q _ _ _=>⟨ob.slots,k b ob q⟩,λ_ _ _ n _=>n,λb ob q _=>⟨ob,k b ob q⟩,λ_ _ q=>q,λ_ _ _ q=>q,λ_ ps q=>⟨#[],by rw [q];simp⟩⟩
theorem Un.refl:Un fs ex H H h h:=Un.kept λ_ _ q=>q
theorem Un.laid (k:∀ b u,h.get? b=some u->h'.get? b=some u) (hp:h.objs.size<=a) (hn:H a=none):Un fs ex H (upd H a o) h h' where
 keep:=λb u q _ _ _=>k b u q
 slot:=λb u q _ _ _=>⟨u.slots,k b u q⟩
 free:=λb u q n _=>by rw [zaF (Nat.ne_of_lt (Nat.lt_of_lt_of_le (Heap.lt_size q) hp))];exact n
 there:=λb u q _=>⟨u,k b u q⟩
 tups:=λb xs q=>by rw [zaF (zaN q hn)];exact q
 frzs:=λb u xs q=>by rw [zaF (zaN q hn)];exact q
 tbls:=λb ps q=>⟨#[],by rw [zaF (zaN q hn),q];simp⟩
theorem Un.write (mu:Mut (H x)) (he:e=x\/H e=some (.own x)) (k:∀ b u,b≠e->h.get? b=some u->h'.get? b=some u) (heo:∃ u,h'.get? e=some u):Un fs ex H (upd H x o) h h':=by
 have hx:∀ b,H b=none->b≠x:=λb n z=>by subst z;rw [n] at mu;exact mu
 have hb:∀ b,H b=none->b≠e:=λb n z=>by
  subst z
  rcases he with r | r
  ·exact hx b n r
  ·rw [n] at r;cases r
 have hm:∀ b u,H b=some u->¬ Mut (some u)->b≠x:=λb u q nm z=>by subst z;rw [q] at mu;exact nm mu
 refine ⟨λb u q n _ _=>k b u (hb b n) q,λb u q n _ _=>⟨u.slots,k b u (hb b n) q⟩,λb u q n _=>by rw [zaF (hx b n)];exact n,λb u q _=>?_,
  fun b xs q=>by rw [zaF (hm b _ q λz=>z)];exact q,λb u xs q=>by rw [zaF (hm b _ q λz=>z)];exact q,λb ps q=>⟨#[],by rw [zaF (hm b _ q λz=>z),q];simp⟩⟩
 by_cases hbe:b=e
 ·subst hbe;exact heo
 ·exact ⟨u,k b u hbe q⟩
theorem Un.mono (u:Un fs ex H H1 h h1) (hs:∀ b∈fs,b∈fs') (hx:∀ b∈ex,b∈ex'):Un fs' ex' H H1 h h1:=
 ⟨λb ob q n hb he=>u.keep b ob q n (λz=>hb (hs b z)) λz=>he (hx b z),λ_ _ q n _ he=>u.any q n λz=>he (hx _ z),λb ob q n he=>u.free b ob q n λz=>he (hx b z),λb ob q he=>u.there b ob q λz=>he (hx b z),u.tups,u.frzs,u.tbls⟩
end
noncomputable def trk (h:Heap) (H:Hp):List Addr:=(List.range h.objs.size).filter λa=>(H a).isSome
noncomputable def hidT (h:Heap) (H:Hp):Heap:=PySem.W.hideAll h (trk h H)
theorem zjy (h:Heap) (H:Hp):(hidT h H).objs.size=h.objs.size:=PySem.W.hideAll_size _ _
theorem zlN {h:Heap} {H:Hp} {b:Addr} {o:Obj} (e:h.get? b=some o) (n:H b=none):(hidT h H).get? b=some o:=
 PySem.W.hideAll_get _ e λhm=>by
  have q:(H b).isSome=true:=(List.mem_filter.mp hm).2
  rw [n] at q;simp at q
theorem znK {h:Heap} {H:Hp} {b:Addr} {o:Obj} (e:(hidT h H).get? b=some o):h.get? b=some o/\H b=none:=by
 have e':h.get? b=some o:=PySem.W.of_hideAll (trk h H) e
 refine ⟨e',?_⟩
 cases q:H b with
 | none=>rfl
 | some x=>
  have hm:b∈trk h H:=List.mem_filter.mpr ⟨List.mem_range.mpr (Heap.lt_size e'),by simp [q]⟩
  have z:(hidT h H).get? b=none:=PySem.W.hideAll_none (trk h H) hm
  rw [z] at e;cases e
noncomputable def znO (g h:Heap) (L:Addr):List (Addr×Obj):=(List.range h.objs.size).filterMap λa=>if a=L\/(g.get? a).isSome=true then none else (h.get? a).map λo=>(a,o)
noncomputable def rest (g h:Heap) (L d:Addr):List (Addr×Obj):=(znO g h L).filter λp=>decide (p.1≠d)
end L2
namespace L2
open PySem PySem.Spec PyProof.Rows
structure Mod (K:PySem.W.Frag) (mg:Str->Option Value) (base:Heap):Prop where
 kin:K.In base
 glob:base.Ns mainGlobals mg
 blt:∃ mb,base.Ns builtinsNs mb/\∀ x:Str,x ≠ "__name__"->mb x=bootBuiltins x
 nolimit:base.NoLimit
structure Cx where
 prog:Program
 w:World
 K:PySem.W.Frag
 mg:Str->Option Value
 base:Heap
 A:Around
 N:List Str
 s₀:Shared
 H₀:Hp
 env:Env
 outer:List Env
 stack:List Env
 ex:List Addr
 fn:Str->Bool
 calm:Bool
 pn:List (Addr×Obj)
 xe:Value->Shared->Prop
noncomputable def frs (l:List Env):List Addr:=l.filterMap (·.frame)
noncomputable abbrev Cx.fs (X:Cx):List Addr:=frs X.outer
noncomputable def Vis (sc:Scope) (x:Str):Prop:=sc.names.lookup x=some .local\/sc.names.lookup x=some .cell\/sc.names.lookup x=some .free
noncomputable def Loc (sc:Scope) (x:Str):Prop:=sc.names.lookup x=some .local\/sc.names.lookup x=some .cell
noncomputable def Look (env:Env) (h:Heap) (m:Str->Option Value) (x:Str) (u:Value):Prop:=
 (env.kindOf x=some .local/\m x=some u)\/((env.kindOf x=some .cell\/env.kindOf x=some .free)/\∃ c,env.cells.lookup x=some c/\h.IsCell c (some u))
structure Cx.Ok (X:Cx):Prop where
 mod:Mod X.K X.mg X.base
 kind:X.env.scope.kind=.function
 glob:X.env.globals=mainGlobals
 blt:X.env.builtins=builtinsNs
 above:X.s₀.heap.objs.size<=X.env.locals
 inj:∀ x y c,X.env.cells.lookup x=some c->X.env.cells.lookup y=some c->x=y
 has:∀ x,(X.env.kindOf x=some .cell\/X.env.kindOf x=some .free)->∃ c,X.env.cells.lookup x=some c
 cab:∀ x c,X.fn x=true->X.env.cells.lookup x=some c->X.s₀.heap.objs.size<=c
 hd:X.calm=true->X.A.handled=none
 frames:X.A.frames=some X.stack
 stk:X.stack=X.outer\/(X.stack=X.env::X.outer/\X.env.frame=some X.env.locals)
 exf:∀ b∈X.ex,b≠X.env.locals/\∀ x c,X.env.cells.lookup x=some c->c≠b
 bs:∀ b o,X.base.get? b=some o->X.s₀.heap.get? b=some o/\X.H₀ b=none
 bsz:X.base.objs.size<=X.s₀.heap.objs.size
 noex:∀ b o,X.base.get? b=some o->b ∉ X.ex
 exfs:∀ b∈X.ex,b ∉ X.fs
 funs:X.s₀.heap.FunFrames X.base X.outer
 frf:∀ b∈X.fs,X.H₀ b=none
structure Inv (X:Cx) (pins:List (Addr×Obj)) (σ:List (Option V)) (H:Hp) (s:Shared):Prop where
 ok:X.Ok
 os:s.os=X.s₀.os
 bare:AllBare s.gens
 base:Un X.fs X.ex X.H₀ H X.s₀.heap s.heap
 loc:∃ m,s.heap.Ns X.env.locals m/\∀ (i:Nat) (x:Str) (v:V),X.N[i]?=some x->σ[i]?=some (some v)->Vis X.env.scope x->∃ u,RelV v u/\Look X.env s.heap m x u
 cell:∀ x c,X.env.cells.lookup x=some c->∃ v,s.heap.IsCell c v
 free:H X.env.locals=none
 freeC:∀ x c,X.env.cells.lookup x=some c->H c=none
 pin:∀ p∈X.pn++pins,s.heap.get? p.1=some p.2/\H p.1=none/\p.1≠X.env.locals/\p.1 ∉ X.fs/\∀ v,p.2.data≠.cell v
 hok:HOk X.prog X.w H s.heap
 len:σ.length=X.N.length
section
variable {X:Cx} {pins:List (Addr×Obj)} {σ:List (Option V)} {H H':Hp} {s:Shared} {h':Heap}
theorem Cx.Ok.nofr (ok:X.Ok) {b:Addr} {o:Obj} (e:X.base.get? b=some o):b ∉ X.fs:=λhb=>by
 have:=(ok.funs.mem hb).1
 rw [e] at this;cases this
theorem Inv.bs (I:Inv X pins σ H s):∀ b o,X.base.get? b=some o->s.heap.get? b=some o/\H b=none:=λb o e=>
 ⟨I.base.keep b o (I.ok.bs b o e).1 (I.ok.bs b o e).2 (I.ok.nofr e) (I.ok.noex b o e),I.base.free b o (I.ok.bs b o e).1 (I.ok.bs b o e).2 (I.ok.noex b o e)⟩
theorem Inv.bk (I:Inv X pins σ H s):∀ b o,X.base.get? b=some o->s.heap.get? b=some o:=λb o e=>(I.bs b o e).1
theorem Inv.mod (I:Inv X pins σ H s):Mod X.K X.mg X.base:=I.ok.mod
theorem Inv.kIn (I:Inv X pins σ H s):X.K.In s.heap:=I.ok.mod.kin.keeps I.bk
theorem Inv.nolimit (I:Inv X pins σ H s):s.heap.NoLimit:=I.ok.mod.nolimit.keeps I.bk
theorem Inv.lt (I:Inv X pins σ H s):X.env.locals<s.heap.objs.size:=let ⟨_,hn,_⟩:=I.loc;hn.lt
theorem Inv.sz (I:Inv X pins σ H s):X.s₀.heap.objs.size<=s.heap.objs.size:=Nat.le_trans I.ok.above (Nat.le_of_lt I.lt)
theorem Inv.nofs (I:Inv X pins σ H s) {a:Addr} (h:s.heap.objs.size<=a):a ∉ X.fs:=λhb=>by
 obtain ⟨_,o,ho,_⟩:=I.ok.funs.mem hb
 exact absurd (Nat.lt_of_lt_of_le (Heap.lt_size ho) (Nat.le_trans I.sz h)) (Nat.lt_irrefl _)
theorem Inv.cne (I:Inv X pins σ H s):∀ x c,X.env.cells.lookup x=some c->c≠X.env.locals:=λx c e z=>by
 obtain ⟨v,o,ho,hd⟩:=I.cell x c e
 obtain ⟨m,⟨o',es,ep,ho',hd',_⟩,_⟩:=I.loc
 rw [z,ho'] at ho;cases ho;rw [hd'] at hd;cases hd
theorem Inv.funs (I:Inv X pins σ H s):s.heap.FunFrames X.base X.outer:=by
 have all:∀ (l:List Env),(∀ b∈frs l,b∈X.fs)->X.s₀.heap.FunFrames X.base l->s.heap.FunFrames X.base l:=by
  intro l
  induction l with
  | nil=>intro _ _;trivial
  | cons env r ih=>
   intro hs hl
   obtain ⟨hk,⟨L,o,hf,hn,ho,hd⟩,hr⟩:=hl
   have hL:L∈X.fs:=hs L (by unfold frs;rw [List.filterMap_cons,hf];exact List.mem_cons_self)
   obtain ⟨sl,e⟩:=I.base.slot L o ho (I.ok.frf L hL) hL λz=>I.ok.exfs L z hL
   exact ⟨hk,⟨L,_,hf,hn,e,hd⟩,ih (λb hb=>hs b (by unfold frs;rw [List.filterMap_cons,hf];exact List.mem_cons_of_mem _ hb)) hr⟩
 exact all X.outer (λ_ hb=>hb) I.ok.funs
theorem Inv.stack (I:Inv X pins σ H s):s.heap.FunFrames X.base X.stack:=by
 rcases I.ok.stk with e | ⟨e,hf⟩
 ·rw [e];exact I.funs
 ·rw [e]
  obtain ⟨m,hn,_⟩:=I.loc
  refine .cons (by rw [I.ok.kind];decide) hf hn ?_ I.funs
  exact Heap.get?_none_of_le (Nat.le_trans I.ok.bsz I.ok.above)
theorem Inv.stkSub (I:Inv X pins σ H s):∀ b∈frs X.stack,b∈X.env.locals::X.fs:=λb hb=>by
 rcases I.ok.stk with e | ⟨e,hf⟩
 ·rw [e] at hb;exact List.mem_cons_of_mem _ hb
 ·rw [e] at hb
  unfold frs at hb
  rw [List.filterMap_cons,hf] at hb
  exact hb
theorem Inv.stkFree (I:Inv X pins σ H s):∀ b∈frs X.stack,H b=none:=λb hb=>by
 rcases List.mem_cons.mp (I.stkSub b hb) with e | hb
 ·rw [e];exact I.free
 ·obtain ⟨_,o,ho,_⟩:=I.ok.funs.mem hb
  exact I.base.free b o ho (I.ok.frf b hb) λz=>I.ok.exfs b z hb
theorem Inv.step {g':Array GenState} {t':Nat} {d':Drawn} {ch:List Addr} (I:Inv X pins σ H s)
  (hch:∀ b∈ch,(b∈X.ex\/X.s₀.heap.objs.size<=b)/\b≠X.env.locals/\(∀ x c,X.env.cells.lookup x=some c->c≠b)/\∀ p∈X.pn++pins,p.1≠b)
  (keep:∀ b o,b≠X.env.locals->b ∉ X.fs->b ∉ ch->s.heap.get? b=some o->H b=none->h'.get? b=some o)
  (slot:∀ b o,b≠X.env.locals->b∈X.fs->b ∉ ch->s.heap.get? b=some o->H b=none->∃ sl,h'.get? b=some { o with slots:=sl }) (free:∀ b o,b ∉ ch->s.heap.get? b=some o->H b=none->H' b=none)
  (there:∀ b o,b ∉ ch->s.heap.get? b=some o->∃ o',h'.get? b=some o')
  (tups:∀ b xs,H b=some (.tup xs)->H' b=some (.tup xs)) (frzs:∀ b o u,H b=some (.frz o u)->H' b=some (.frz o u)) (tbls:∀ b ps,H b=some (.tbl ps)->∃ more,H' b=some (.tbl (ps++more)))
  (ns:∀ m,s.heap.Ns X.env.locals m->h'.Ns X.env.locals m) (hok:HOk X.prog X.w H' h') (hg:AllBare g') :
  Inv X pins σ H' { s with heap:=h',gens:=g',drawn:=d',toks:=t' }:=by
 have neL:∀ b o,X.s₀.heap.get? b=some o->b≠X.env.locals:=λb o e=>Nat.ne_of_lt (Nat.lt_of_lt_of_le (Heap.lt_size e) I.ok.above)
 have neC:∀ b o,X.s₀.heap.get? b=some o->b ∉ X.ex->b ∉ ch:=λb o e hx hb=>by
  rcases (hch b hb).1 with z | z
  ·exact hx z
  ·exact absurd (Nat.lt_of_lt_of_le (Heap.lt_size e) z) (Nat.lt_irrefl _)
 have cellK:∀ x c,X.env.cells.lookup x=some c->∀ v,s.heap.IsCell c v->h'.IsCell c v:=λx c e v ⟨o,ho,hd⟩=>by
  have nch:c ∉ ch:=λz=>(hch c z).2.2.1 x c e rfl
  by_cases hc:c∈X.fs
  ·obtain ⟨sl,q⟩:=slot c o (I.cne x c e) hc nch ho (I.freeC x c e)
   exact ⟨_,q,hd⟩
  ·exact ⟨o,keep c o (I.cne x c e) hc nch ho (I.freeC x c e),hd⟩
 refine ⟨I.ok,I.os,hg,⟨λb o e n hb hx=>?_,λb o e n hb hx=>?_,λb o e n hx=>?_,λb o e hx=>?_,λb xs e=>tups b xs (I.base.tups b xs e),λb o xs e=>frzs b o xs (I.base.frzs b o xs e),λb ps e=>?_⟩,?_,λx c e=>?_,?_,λx c e=>?_,λp hp=>?_,hok,I.len⟩
 ·exact keep b o (neL b o e) hb (neC b o e hx) (I.base.keep b o e n hb hx) (I.base.free b o e n hx)
 ·obtain ⟨sl,e1⟩:=I.base.slot b o e n hb hx
  obtain ⟨sl',e2⟩:=slot b _ (neL b o e) hb (neC b o e hx) e1 (I.base.free b o e n hx)
  exact ⟨sl',e2⟩
 ·obtain ⟨o',e1⟩:=I.base.there b o e hx
  exact free b o' (neC b o e hx) e1 (I.base.free b o e n hx)
 ·obtain ⟨o',e1⟩:=I.base.there b o e hx
  exact there b o' (neC b o e hx) e1
 ·obtain ⟨m1,e1⟩:=I.base.tbls b ps e
  obtain ⟨m2,e2⟩:=tbls b _ e1
  exact ⟨m1++m2,by rw [e2,Array.append_assoc]⟩
 ·obtain ⟨m,hn,hl⟩:=I.loc
  refine ⟨m,ns m hn,λi x v e1 e2 e3=>?_⟩
  obtain ⟨u,r,l⟩:=hl i x v e1 e2 e3
  refine ⟨u,r,?_⟩
  rcases l with l | ⟨k,c,e,z⟩
  ·exact .inl l
  ·exact .inr ⟨k,c,e,cellK x c e _ z⟩
 ·obtain ⟨v,z⟩:=I.cell x c e
  exact ⟨v,cellK x c e v z⟩
 ·obtain ⟨m,⟨o,_,_,ho,_⟩,_⟩:=I.loc
  exact free _ o (λz=>(hch _ z).2.1 rfl) ho I.free
 ·obtain ⟨v,o,ho,hd⟩:=I.cell x c e
  exact free c o (λz=>(hch c z).2.2.1 x c e rfl) ho (I.freeC x c e)
 ·obtain ⟨e,n,ne,nf,d⟩:=I.pin p hp
  have nch:p.1 ∉ ch:=λz=>(hch p.1 z).2.2.2 p hp rfl
  exact ⟨keep p.1 p.2 ne nf nch e n,free p.1 p.2 nch e n,ne,nf,d⟩
theorem Inv.un {t':Nat} (I:Inv X pins σ H s) (u:Un X.fs [] H H' s.heap h') (hok:HOk X.prog X.w H' h'):Inv X pins σ H' { s with heap:=h',toks:=t' }:=by
 obtain ⟨m,⟨o,es,ep,ho,r⟩,_⟩:=id I.loc
 obtain ⟨sl,hL⟩:=u.any ho I.free (by simp)
 exact I.step (g':=s.gens) (d':=s.drawn) (ch:=[]) (λ_ z=>nomatch z) (λb o _ hb _ e n=>u.keep b o e n hb (by simp)) (λb o _ hb _ e n=>u.slot b o e n hb (by simp)) (λb o _ e n=>u.free b o e n (by simp)) (λb o _ e=>u.there b o e (by simp)) u.tups u.frzs u.tbls (λm' hm=>by
  obtain ⟨o',es',ep',ho',r'⟩:=hm
  rw [ho] at ho';cases ho'
  exact ⟨_,es',ep',hL,r'⟩) hok I.bare
theorem Inv.call {g':Array GenState} {t':Nat} {d':Drawn} {ch:List Addr} (I:Inv X pins σ H s) (u:Un (frs X.stack) ch H H' s.heap h') (hok:HOk X.prog X.w H' h') (hg:AllBare g')
  (hch:∀ b∈ch,(b∈X.ex\/X.s₀.heap.objs.size<=b)/\b≠X.env.locals/\(∀ x c,X.env.cells.lookup x=some c->c≠b)/\∀ p∈X.pn++pins,p.1≠b) :
  Inv X pins σ H' { s with heap:=h',gens:=g',drawn:=d',toks:=t' }:=by
 obtain ⟨m,⟨o,es,ep,ho,r⟩,_⟩:=id I.loc
 obtain ⟨sl,hL⟩:=u.any ho I.free λz=>(hch _ z).2.1 rfl
 exact I.step (ch:=ch) hch (λb o hL hb hc e n=>u.keep b o e n (λz=>(List.mem_cons.mp (I.stkSub b z)).elim hL hb) hc) (λb o _ _ hc e n=>u.any e n hc) (λb o hc e n=>u.free b o e n hc) (λb o hc e=>u.there b o e hc) u.tups u.frzs u.tbls (λm' hm=>by
  obtain ⟨o',es',ep',ho',r'⟩:=hm
  rw [ho] at ho';cases ho'
  exact ⟨_,es',ep',hL,r'⟩) hok hg
theorem Inv.turned {t':Nat} {it:Addr} (I:Inv X pins σ H s) (k:∀ b o,b≠it->s.heap.get? b=some o->h'.get? b=some o) (hn:H it=none) (hL:it≠X.env.locals)
  (h1:it∈X.ex\/X.s₀.heap.objs.size<=it) (h2:∀ x c,X.env.cells.lookup x=some c->c≠it) (h3:∀ p∈X.pn++pins,p.1≠it):Inv X pins σ H { s with heap:=h',toks:=t' }:=by
 have nit:∀ b u,H b=some u->b≠it:=λb u e z=>by rw [z,hn] at e;cases e
 refine I.step (g':=s.gens) (d':=s.drawn) (ch:=[it]) (λb hb=>?_) (λb o _ _ hc e _=>k b o (λz=>hc (by simp [z])) e) (λb o _ _ hc e _=>⟨o.slots,k b o (λz=>hc (by simp [z])) e⟩) (λ_ _ _ _ n=>n)
  (λb o hc e=>⟨o,k b o (λz=>hc (by simp [z])) e⟩) (λ_ _ e=>e) (λ_ _ _ e=>e) (λb ps e=>⟨#[],by rw [e];simp⟩) (λm hm=>?_) (λb u e=>?_) I.bare
 ·have e:b=it:=by simpa using hb
  subst e
  exact ⟨h1,hL,h2,h3⟩
 ·obtain ⟨o,es,ep,ho,r⟩:=hm
  exact ⟨o,es,ep,k _ o (Ne.symm hL) ho,r⟩
 ·refine (I.hok b u e).stay (λc v hc q=>k c v ?_ q) (λ_ q=>q) λ_ _ q=>q
  rcases hc with z | z
  ·rw [z];exact nit b u e
  ·exact nit c _ z
theorem Inv.tok (I:Inv X pins σ H s) (t:Nat):Inv X pins σ H { s with toks:=t }:=I.un (h':=s.heap) (t':=t) Un.refl I.hok
theorem Inv.kept {t':Nat} (I:Inv X pins σ H s) (k:∀ b u,s.heap.get? b=some u->h'.get? b=some u):Inv X pins σ H { s with heap:=h',toks:=t' }:=I.un (Un.kept k) (I.hok.kept k)
theorem Inv.laid {a:Addr} {o:HO} {t':Nat} (I:Inv X pins σ H s) (k:∀ b u,s.heap.get? b=some u->h'.get? b=some u) (hp:s.heap.objs.size<=a) (new:zb0 X.prog X.w (upd H a o) h' a o) :
  Inv X pins σ (upd H a o) { s with heap:=h',toks:=t' }:=I.un (Un.laid k hp (I.hok.fresh hp)) (I.hok.laid k hp new)
theorem Inv.write {x e:Addr} {o:HO} {t':Nat} (I:Inv X pins σ H s) (mu:Mut (H x)) (he:e=x\/H e=some (.own x)) (k:∀ b u,b≠e->s.heap.get? b=some u->h'.get? b=some u) (heo:∃ u,h'.get? e=some u)
  (new:zb0 X.prog X.w (upd H x o) h' x o):Inv X pins σ (upd H x o) { s with heap:=h',toks:=t' }:=I.un (Un.write mu he k heo) (I.hok.write mu he k heo new)
theorem Inv.pins_of {pins':List (Addr×Obj)} (I:Inv X pins σ H s) (h:∀ p∈pins',s.heap.get? p.1=some p.2/\H p.1=none/\p.1≠X.env.locals/\p.1 ∉ X.fs/\∀ v,p.2.data≠.cell v):Inv X pins' σ H s:=
 ⟨I.ok,I.os,I.bare,I.base,I.loc,I.cell,I.free,I.freeC,λp hp=>(List.mem_append.mp hp).elim (λz=>I.pin p (List.mem_append_left _ z)) (h p),I.hok,I.len⟩
theorem zhm {N:List Str} (hN:N.Nodup) {i j:Nat} {x:Str} (a:N[i]?=some x) (b:N[j]?=some x):i=j:=by
 obtain ⟨h1,e1⟩:=List.getElem?_eq_some_iff.mp a
 obtain ⟨h2,e2⟩:=List.getElem?_eq_some_iff.mp b
 exact (List.getElem_inj hN).mp (e1.trans e2.symm)
theorem ziU {M:Model} {A:Around} {E:Value->Shared->Prop} {i:Nat} {x:Str} {v:V} {u:Value} {Q:Unit->Shared->Prop} (I:Inv X pins σ H s) (hN:X.N.Nodup) (hi:X.N[i]?=some x) (hx:Loc X.env.scope x) (r:RelV v u)
    (h:∀ s',Inv X pins (σ.set i (some v)) H s'->(∃ a,Heap.SameBut a s.heap s'.heap/\(a=X.env.locals\/X.env.cells.lookup x=some a))->Q () s') (hf:X.fn x=true\/X.env.scope.names.lookup x=some .local:=by first | exact .inl rfl | exact .inr rfl | assumption):wpAny M A (storeName X.env x u) Q E s:=by
  obtain ⟨m,hn,hl⟩:=id I.loc
  have hcls:(X.env.scope.kind==.class||(X.env.scope.kind==.module&&X.env.locals != X.env.globals))=false:=by rw [I.ok.kind];rfl
  have hiσ:i<σ.length:=by rw [I.len];exact (List.getElem?_eq_some_iff.mp hi).1
  have cne:=I.cne
  have tracked:∀ {a:Addr} {h':Heap},(∃ o,s.heap.get? a=some o/\H a=none)->Heap.SameBut a s.heap h'->HOk X.prog X.w H h':=λ{a h'} ha hs b ob e=>by
    obtain ⟨_,_,hfree⟩:=ha
    refine (I.hok b ob e).stay (λc w' hc q=>(hs.2 c ?_).trans q) (λ_ q=>q) λ_ _ q=>q
    rintro rfl
    rcases hc with rfl | hc
    · rw [hfree] at e;cases e
    · rw [hfree] at hc;cases hc
  rcases hx with hk | hk
  · refine wpAny_storeName_local hk hn (λh' hn' hs=>?_) hcls
    obtain ⟨oL,_,_,hoL,_⟩:=id hn
    refine h _ ⟨I.ok,I.os,I.bare,⟨λb o e n hb hx=>?_,λb o e n hb hx=>?_,I.base.free,λb o e hx=>?_,I.base.tups,I.base.frzs,I.base.tbls⟩,⟨_,hn',λj y v' e1 e2 e3=>?_⟩,λy c e=>?_,I.free,I.freeC,λp hp=>?_,tracked ⟨oL,hoL,I.free⟩ hs,by simpa using I.len⟩ ⟨_,hs,.inl rfl⟩
    · exact (hs.2 b (Nat.ne_of_lt (Nat.lt_of_lt_of_le (Heap.lt_size e) I.ok.above))).trans (I.base.keep b o e n hb hx)
    · obtain ⟨sl,e1⟩:=I.base.slot b o e n hb hx
      exact ⟨sl,(hs.2 b (Nat.ne_of_lt (Nat.lt_of_lt_of_le (Heap.lt_size e) I.ok.above))).trans e1⟩
    · obtain ⟨o',e1⟩:=I.base.there b o e hx
      exact ⟨o',(hs.2 b (Nat.ne_of_lt (Nat.lt_of_lt_of_le (Heap.lt_size e) I.ok.above))).trans e1⟩
    · by_cases hj:j=i
      · subst hj
        rw [hi] at e1;cases e1
        rw [List.getElem?_set_self hiσ] at e2
        cases e2
        exact ⟨u,r,.inl ⟨hk,by simp⟩⟩
      · rw [List.getElem?_set_ne (Ne.symm hj)] at e2
        obtain ⟨u',r',q⟩:=hl j y v' e1 e2 e3
        refine ⟨u',r',?_⟩
        rcases q with ⟨k,e⟩ | ⟨k,c,e,z⟩
        · refine .inl ⟨k,?_⟩
          have:y≠x:=λe=>hj (zhm hN e1 (e▸hi))
          simp [this,e]
        · exact .inr ⟨k,c,e,z.sameBut hs (cne y c e)⟩
    · obtain ⟨w',z⟩:=I.cell y c e
      exact ⟨w',z.sameBut hs (cne y c e)⟩
    · obtain ⟨e,n,ne,nf,d⟩:=I.pin p hp
      exact ⟨(hs.2 p.1 ne).trans e,n,ne,nf,d⟩
  · have hfn:X.fn x=true:=by
      rcases hf with z | z
      · exact z
      · rw [z] at hk;cases hk
    obtain ⟨c,hc⟩:=I.ok.has x (.inl hk)
    obtain ⟨w',z⟩:=I.cell x c hc
    refine wpAny_storeName_cell I.ok.kind hk hc z (λh' hc' hs=>?_)
    obtain ⟨oc,hoc,hocd⟩:=id z
    refine h { s with heap:=h' } ⟨I.ok,I.os,I.bare,⟨λb o e n hb hx=>?_,λb o e n hb hx=>?_,I.base.free,λb o e hx=>?_,I.base.tups,I.base.frzs,I.base.tbls⟩,⟨m,hn.sameBut hs (Ne.symm (cne x c hc)),λj y v' e1 e2 e3=>?_⟩,λy c' e=>?_,I.free,I.freeC,λp hp=>?_,tracked ⟨oc,hoc,I.freeC x c hc⟩ hs,by simpa using I.len⟩ ⟨c,hs,.inr hc⟩
    · exact (hs.2 b (Nat.ne_of_lt (Nat.lt_of_lt_of_le (Heap.lt_size e) (I.ok.cab x c hfn hc)))).trans (I.base.keep b o e n hb hx)
    · obtain ⟨sl,e1⟩:=I.base.slot b o e n hb hx
      exact ⟨sl,(hs.2 b (Nat.ne_of_lt (Nat.lt_of_lt_of_le (Heap.lt_size e) (I.ok.cab x c hfn hc)))).trans e1⟩
    · obtain ⟨o',e1⟩:=I.base.there b o e hx
      exact ⟨o',(hs.2 b (Nat.ne_of_lt (Nat.lt_of_lt_of_le (Heap.lt_size e) (I.ok.cab x c hfn hc)))).trans e1⟩
    · by_cases hj:j=i
      · subst hj
        rw [hi] at e1;cases e1
        rw [List.getElem?_set_self hiσ] at e2
        cases e2
        exact ⟨u,r,.inr ⟨.inl hk,c,hc,hc'⟩⟩
      · rw [List.getElem?_set_ne (Ne.symm hj)] at e2
        obtain ⟨u',r',q⟩:=hl j y v' e1 e2 e3
        refine ⟨u',r',?_⟩
        rcases q with q | ⟨k,c',e,z'⟩
        · exact .inl q
        · refine .inr ⟨k,c',e,z'.sameBut hs ?_⟩
          rintro rfl
          exact hj (zhm hN e1 (I.ok.inj _ _ _ e hc▸hi))
    · by_cases hcc:c'=c
      · subst hcc;exact ⟨_,hc'⟩
      · obtain ⟨w2,z2⟩:=I.cell y c' e
        exact ⟨w2,z2.sameBut hs hcc⟩
    · obtain ⟨e,n,ne,nf,d⟩:=I.pin p hp
      refine ⟨(hs.2 p.1 ?_).trans e,n,ne,nf,d⟩
      intro q
      rw [q,hoc] at e
      have q':oc=p.2:=Option.some.inj e
      exact d w' (by rw [<-q'];exact hocd)
theorem zli {M:Model} {A:Around} {E:Value->Shared->Prop} {i:Nat} {x:Str} {v:V} {u:Value} {Q:Unit->Shared->Prop} (I:Inv X pins σ H s) (hN:X.N.Nodup) (hi:X.N[i]?=some x) (hx:Loc X.env.scope x) (r:RelV v u)
  (h:∀ s',Inv X pins (σ.set i (some v)) H s'->Q () s') (hf:X.fn x=true\/X.env.scope.names.lookup x=some .local:=by first | exact .inl rfl | exact .inr rfl | assumption):wpAny M A (storeName X.env x u) Q E s:=
 ziU I hN hi hx r (λs' I' _=>h s' I') hf
theorem Inv.call' {s':Shared} {ch:List Addr} (I:Inv X pins σ H s) (ho:s'.os=s.os) (u:Un (frs X.stack) ch H H' s.heap s'.heap) (hok:HOk X.prog X.w H' s'.heap) (hg:AllBare s'.gens)
  (hch:∀ b∈ch,(b∈X.ex\/X.s₀.heap.objs.size<=b)/\b≠X.env.locals/\(∀ x c,X.env.cells.lookup x=some c->c≠b)/\∀ p∈X.pn++pins,p.1≠b):Inv X pins σ H' s':=by
 obtain ⟨h',g',d',t',o'⟩:=s'
 have e:o'=s.os:=ho
 subst e
 exact I.call (g':=g') (t':=t') (d':=d') u hok hg hch
end
noncomputable abbrev XK:=Value->Option Addr->Hp->Prop
noncomputable abbrev St:=List (Option V)
noncomputable abbrev VK:=V->Hp->Prop
noncomputable abbrev TE:=St->Hp->VK->Prop
noncomputable abbrev TT:=St->Hp->(Bool->Hp->Prop)->Prop
noncomputable abbrev TA:=St->Hp->(List V->Hp->Prop)->Prop
structure Ends where
 nx:St->Hp->Prop
 rt:VK
 bk:St->Hp->Prop:=λ_ _=>False
 ct:St->Hp->Prop:=λ_ _=>False
noncomputable abbrev TS:=Ends->St->Hp->Prop
inductive EP (X:Cx) (pins:List (Addr×Obj)) (σ:St) (Q:VK) (u:Value) (s':Shared):Prop where
 | mk (v:V) (H':Hp) (I:Inv X pins σ H' s') (r:RelV v u) (q:Q v H')
inductive TP (X:Cx) (pins:List (Addr×Obj)) (σ:St) (Q:Bool->Hp->Prop) (b:Bool) (s':Shared):Prop where
 | mk (H':Hp) (I:Inv X pins σ H' s') (q:Q b H')
inductive AP (X:Cx) (pins:List (Addr×Obj)) (σ:St) (Q:List V->Hp->Prop) (us:List Value) (s':Shared):Prop where
 | mk (vs:List V) (H':Hp) (I:Inv X pins σ H' s') (r:Vals vs us) (q:Q vs H')
noncomputable def SP (X:Cx) (pins:List (Addr×Obj)) (D:Ends) (f:Flow) (s':Shared):Prop:=
 match f with
 | .next=>∃ σ' H',Inv X pins σ' H' s'/\D.nx σ' H'
 | .brk=>∃ σ' H',Inv X pins σ' H' s'/\D.bk σ' H'
 | .cont=>∃ σ' H',Inv X pins σ' H' s'/\D.ct σ' H'
 | .ret u=>∃ v σ' H',Inv X pins σ' H' s'/\RelV v u/\D.rt v H'
noncomputable def PE (X:Cx) (e:Expr) (t:TE):Prop:=
 ∀ (pins:List (Addr×Obj)) (s:Shared) (σ:St) (H:Hp) (Q:VK),Inv X pins σ H s->t σ H Q->wpAny (model X.prog X.w) X.A (eval e X.env) (EP X pins σ Q) X.xe s
noncomputable def PT (X:Cx) (e:Expr) (t:TT):Prop:=
 ∀ (pins:List (Addr×Obj)) (s:Shared) (σ:St) (H:Hp) (Q:Bool->Hp->Prop),Inv X pins σ H s->t σ H Q->wpAny (model X.prog X.w) X.A (isTrue e X.env (eval e X.env)) (TP X pins σ Q) X.xe s
noncomputable def PW (X:Cx) (e:Expr) (t:TT):Prop:=
 ∀ (whole:Sem Value) (pins:List (Addr×Obj)) (s:Shared) (σ:St) (H:Hp) (Q:Bool->Hp->Prop),Inv X pins σ H s->t σ H Q->wpAny (model X.prog X.w) X.A (isTrue e X.env whole) (TP X pins σ Q) X.xe s
theorem PW.pt {X:Cx} {e:Expr} {t:TT} (h:PW X e t):PT X e t:=h _
noncomputable def PA (X:Cx) (es:List Expr) (t:TA):Prop:=
 ∀ (pos:Pos) (pins:List (Addr×Obj)) (s:Shared) (σ:St) (H:Hp) (Q:List V->Hp->Prop),Inv X pins σ H s->t σ H Q->wpAny (model X.prog X.w) X.A (spliced (backTo pos (starEach es X.env))) (AP X pins σ Q) X.xe s
noncomputable def PS (X:Cx) (st:Stmt) (t:TS):Prop:=
 ∀ (pins:List (Addr×Obj)) (s:Shared) (σ:St) (H:Hp) (D:Ends),Inv X pins σ H s->t D σ H->wpAny (model X.prog X.w) X.A (exec st X.env) (SP X pins D) X.xe s
noncomputable def PSs (X:Cx) (st:List Stmt) (t:TS):Prop:=
 ∀ (pins:List (Addr×Obj)) (s:Shared) (σ:St) (H:Hp) (D:Ends),Inv X pins σ H s->t D σ H->wpAny (model X.prog X.w) X.A (execs st X.env) (SP X pins D) X.xe s
theorem thn {α:Type} {t:Sem α} {Q Q':α->Shared->Prop} {M:Model} {A:Around} {E:Value->Shared->Prop} {s:Shared} (h:wpAny M A t Q E s) (hQ:∀ a s,Q a s->Q' a s):wpAny M A t Q' E s:=wpAny_mono h hQ λ_ _ x=>x
end L2
namespace L2
open PySem PySem.Spec PyProof.Rows
section
variable {X:Cx}
theorem bin {a b:Expr} {ta tb:TE} (ha:PE X a ta) (hb:PE X b tb) {pins:List (Addr×Obj)} {s:Shared} {σ:St} {H:Hp} {R:V->V->Hp->Prop} (I:Inv X pins σ H s) (h:ta σ H λx H1=>tb σ H1 λy H2=>R x y H2)
  {α:Type} {Q:α->Shared->Prop} {f:Value->Value->Sem α}
  (hf:∀ v u s2 x y H2,Inv X pins σ H2 s2->RelV x v->RelV y u->R x y H2->wpAny (model X.prog X.w) X.A (f v u) Q X.xe s2) :
  wpAny (model X.prog X.w) X.A (eval a X.env) (λv s₁=>wpAny (model X.prog X.w) X.A (eval b X.env) (λu s₂=>wpAny (model X.prog X.w) X.A (f v u) Q X.xe s₂) X.xe s₁) X.xe s:=by
 refine thn (ha pins s σ H _ I h) λv s1 ⟨x,H1,I1,r1,q1⟩=>?_
 refine thn (hb pins s1 σ H1 _ I1 q1) λu s2 ⟨y,H2,I2,r2,q2⟩=>?_
 exact hf v u s2 x y H2 I2 r1 r2 q2
noncomputable def tVar (i:Nat):TE:=λσ H Q=>∃ v,σ[i]?=some (some v)/\Q v H
noncomputable def tC (v:V):TE:=λ_ H Q=>Q v H
theorem zpp {i:Nat} {x:Str} {pos:Pos} (hN:X.N[i]?=some x) (hv:Vis X.env.scope x) (hd:(x==("__debug__":Str))=false:=by decide) (hcd:(x==("__classdict__":Str))=false:=by decide):PE X (.Name x pos) (tVar i):=by
 intro pins s σ H Q I h
 obtain ⟨v,e,h⟩:=h
 obtain ⟨m,hn,hl⟩:=I.loc
 obtain ⟨u,r,l⟩:=hl i x v hN e hv
 have fin:EP X pins σ Q u s:=⟨v,H,I,r,h⟩
 rcases l with ⟨hk,hm⟩ | ⟨hk,c,hc,hcell⟩
 ·exact wpAny_Name (wpAny_loadName_local I.ok.kind hk hn hm fin) hd
 ·rcases hk with hk | hk
  ·exact wpAny_Name (wpAny_loadName_cell I.ok.kind hk hc hcell fin) hd
  ·exact wpAny_Name (wpAny_loadName_free I.ok.kind hk hc hcell fin hcd) hd
theorem zpe {i j pos}:PE X (.Constant (.int i) j pos) (tC (.int i)):=λ_ _ _ H _ I h=>wpAny_Constant_int ⟨.int i,H,I.tok _,⟨_,rfl⟩,h⟩
theorem zrN {b j pos}:PE X (.Constant (.bool b) j pos) (tC (.bl b)):=λ_ _ _ H _ I h=>Constant_bool ⟨.bl b,H,I,rfl,h⟩
theorem zpL {j pos}:PE X (.Constant .none j pos) (tC .non):=λ_ _ _ H _ I h=>Constant_none ⟨.non,H,I,rfl,h⟩
theorem zqg {x j pos}:PE X (.Constant (.str x) j pos) (tC (.str x)):=λ_ _ _ H _ I h=>Calls.Constant_str ⟨.str x,H,I.tok _,⟨_,rfl⟩,h⟩
noncomputable def Gl (X:Cx) (x:Str):Prop:=X.env.kindOf x=some .globalImplicit
theorem zj0 {E:Value->Shared->Prop} {pins:List (Addr×Obj)} {s:Shared} {σ:St} {H:Hp} {x:Str} {u:Value} {pos:Pos} {Q:Value->Shared->Prop} (I:Inv X pins σ H s) (hg:Gl X x) (hm:X.mg x=some u) (h:Q u s)
  (hd:(x==("__debug__":Str))=false:=by decide):wpAny (model X.prog X.w) X.A (eval (.Name x pos) X.env) Q E s:=
 Calls.Name_function_global I.ok.kind hg (Calls.loadGlobal_global (by rw [I.ok.glob];exact I.mod.glob.keeps I.bk) hm h) hd
theorem zfQ {E:Value->Shared->Prop} {pins:List (Addr×Obj)} {s:Shared} {σ:St} {H:Hp} {x:Str} {u:Value} {pos:Pos} {Q:Value->Shared->Prop} (I:Inv X pins σ H s) (hg:Gl X x) (hm:X.mg x=none) (hv:bootBuiltins x=some u) (h:Q u s)
  (hn:x ≠ "__name__":=by decide) (hd:(x==("__debug__":Str))=false:=by decide):wpAny (model X.prog X.w) X.A (eval (.Name x pos) X.env) Q E s:=by
 obtain ⟨mb,h1,h2⟩:=I.mod.blt
 exact Calls.Name_function_global I.ok.kind hg (Calls.loadGlobal_builtin (by rw [I.ok.glob];exact I.mod.glob.keeps I.bk) hm (by rw [I.ok.blt];exact h1.keeps I.bk) ((h2 x hn).trans hv) h) hd
theorem znm {x:Str} {v:V} {u:Value} {pos:Pos} (hg:Gl X x) (hm:X.mg x=some u) (r:RelV v u) (hd:(x==("__debug__":Str))=false:=by decide):PE X (.Name x pos) (tC v):=
 fun _ _ _ H _ I h=>zj0 I hg hm ⟨v,H,I,r,h⟩ hd
theorem zog {x:Str} {v:V} {u:Value} {pos:Pos} (hg:Gl X x) (hm:X.mg x=none) (hv:bootBuiltins x=some u) (r:RelV v u) (hn:x ≠ "__name__":=by decide) (hd:(x==("__debug__":Str))=false:=by decide):PE X (.Name x pos) (tC v):=
 fun _ _ _ H _ I h=>zfQ I hg hm hv ⟨v,H,I,r,h⟩ hn hd
noncomputable def t2I (ta tb:TE) (k:Int->Int->Hp->Prop):St->Hp->Prop:=λσ H=>ta σ H λx H1=>tb σ H1 λy H2=>∃ i j,x=.int i/\y=.int j/\k i j H2
variable {a b:Expr} {ta tb:TE} {pos:Pos}
noncomputable def tCmp (p:Int->Int->Bool) (ta tb:TE):TE:=λσ H Q=>t2I ta tb (λi j H2=>Q (.bl (p i j)) H2) σ H
noncomputable abbrev tGe:TE->TE->TE:=tCmp λi j=>decide (j<=i)
variable {tA tB':TT} {rest:List Expr}
noncomputable def tAnd (t u:TT):TT:=λσ H Q=>t σ H λc H1=>if c=true then u σ H1 Q else Q false H1
noncomputable def tOr (t u:TT):TT:=λσ H Q=>t σ H λc H1=>if c=true then Q true H1 else u σ H1 Q
noncomputable def tNot (t:TT):TT:=λσ H Q=>t σ H λc H1=>Q (!c) H1
theorem znw (ha:PT X a tA):PW X (.BoolOp .And [a] pos) tA:=by
 intro wh pins s σ H Q I h
 refine isTrue_and (thn (ha pins s σ H Q I h) λc s1 e=>?_)
 cases c with
 | true=>exact isTrue_and_nil e
 | false=>exact e
theorem zp1 (ha:PT X a tA):PW X (.BoolOp .Or [a] pos) tA:=by
 intro wh pins s σ H Q I h
 refine isTrue_or (thn (ha pins s σ H Q I h) λc s1 e=>?_)
 cases c with
 | false=>exact isTrue_or_nil e
 | true=>exact e
theorem zpa (ha:PT X a tA) (hb:PW X (.BoolOp .And (b::rest) pos) tB'):PW X (.BoolOp .And (a::b::rest) pos) (tAnd tA tB'):=by
 intro wh pins s σ H Q I h
 refine isTrue_and (thn (ha pins s σ H _ I h) λc s1 ⟨H1,I1,q1⟩=>?_)
 cases c with
 | true=>exact hb wh pins s1 σ H1 Q I1 q1
 | false=>exact ⟨H1,I1,q1⟩
theorem zrD (ha:PT X a tA) (hb:PW X (.BoolOp .Or (b::rest) pos) tB'):PW X (.BoolOp .Or (a::b::rest) pos) (tOr tA tB'):=by
 intro wh pins s σ H Q I h
 refine isTrue_or (thn (ha pins s σ H _ I h) λc s1 ⟨H1,I1,q1⟩=>?_)
 cases c with
 | true=>exact ⟨H1,I1,q1⟩
 | false=>exact hb wh pins s1 σ H1 Q I1 q1
theorem zqt (ha:PT X a tA):PT X (.UnaryOp .Not a pos) (tNot tA):=by
 intro pins s σ H Q I h
 exact isTrue_not (thn (ha pins s σ H (λc H1=>Q (!c) H1) I h) λ_ _ ⟨H1,I1,q1⟩=>⟨H1,I1,q1⟩)
noncomputable def zro (ta tb:TE):TE:=λσ H Q=>ta σ H λx H1=>∃ c,x=.bl c/\if c=true then tb σ H1 Q else Q (.bl false) H1
noncomputable def tOrV (ta tb:TE):TE:=λσ H Q=>ta σ H λx H1=>∃ c,x=.bl c/\if c=true then Q (.bl true) H1 else tb σ H1 Q
theorem zl6 {op} {t:TE} (h:PE X a t):PE X (.BoolOp op [a] pos) t:=λpins s σ H Q I hw=>BoolOp_one (h pins s σ H Q I hw)
theorem zpy (ha:PE X a ta) (hb:PE X (.BoolOp .And (b::rest) pos) tb):PE X (.BoolOp .And (a::b::rest) pos) (zro ta tb):=by
 intro pins s σ H Q I h
 refine BoolOp_and (thn (ha pins s σ H _ I h) λv s1 ⟨x,H1,I1,r1,q1⟩=>?_)
 obtain ⟨c,rfl,q1⟩:=q1
 cases r1
 refine wpAny_truthy_bool ?_
 cases c with
 | true=>exact hb pins s1 σ H1 Q I1 q1
 | false=>exact ⟨.bl false,H1,I1,rfl,q1⟩
theorem zqX (ha:PE X a ta) (hb:PE X (.BoolOp .Or (b::rest) pos) tb):PE X (.BoolOp .Or (a::b::rest) pos) (tOrV ta tb):=by
 intro pins s σ H Q I h
 refine BoolOp_or (thn (ha pins s σ H _ I h) λv s1 ⟨x,H1,I1,r1,q1⟩=>?_)
 obtain ⟨c,rfl,q1⟩:=q1
 cases r1
 refine wpAny_truthy_bool ?_
 cases c with
 | false=>exact hb pins s1 σ H1 Q I1 q1
 | true=>exact ⟨.bl true,H1,I1,rfl,q1⟩
noncomputable def tIf (t:TT) (ta tb:TE):TE:=λσ H Q=>t σ H λc H1=>if c=true then ta σ H1 Q else tb σ H1 Q
theorem zld {c:Expr} (hc:PT X c tA) (ha:PE X a ta) (hb:PE X b tb):PE X (.IfExp c a b pos) (tIf tA ta tb):=by
 intro pins s σ H Q I h
 refine wpAny_IfExp (thn (hc pins s σ H _ I h) λd s1 ⟨H1,I1,q1⟩=>?_)
 cases d with
 | true=>exact ha pins s1 σ H1 Q I1 q1
 | false=>exact hb pins s1 σ H1 Q I1 q1
end
end L2
namespace L2
open PySem PySem.Spec PyProof.Rows
noncomputable def SqL (K:PySem.W.Frag) (H:Hp) (a:Addr) (xs:List V):Prop:=
 Rd H a (.lst xs) ∨
  ∃ (o:Obj) (its:Array Value) (n:Nat),K.lookup a=some o/\o.cls=.type "list"/\o.dict=none/\o.data=.seq its n/\its.size<=sizeLine/\Vals xs its.toList
noncomputable def SqT (K:PySem.W.Frag) (H:Hp) (a:Addr) (xs:List V):Prop:=
 Rd H a (.tup xs) ∨
  ∃ (o:Obj) (its:Array Value) (n:Nat),K.lookup a=some o/\o.cls=.type "tuple"/\o.dict=none/\o.data=.seq its n/\its.size<=sizeLine/\Vals xs its.toList
noncomputable def absV:Value->Option V
 | .none=>some .non
 | .bool b=>some (.bl b)
 | .int i _=>some (.int i)
 | .str x _=>some (.str x)
 | .bytes b _=>some (.byt b)
 | .float b _=>some (.flt b)
 | .ref a=>some (.ref a)
 | .type n=>some (.ty n)
 | _=>none
theorem RelV.abs {x:V} {u:Value} (r:RelV x u):absV u=some x:=by
 cases x with
 | non=>cases r;rfl
 | bl _=>cases r;rfl
 | int _=>obtain ⟨t,rfl⟩:=r;rfl
 | str _=>obtain ⟨t,rfl⟩:=r;rfl
 | byt _=>obtain ⟨t,rfl⟩:=r;rfl
 | flt _=>obtain ⟨t,rfl⟩:=r;rfl
 | ref _=>cases r;rfl
 | ty _=>cases r;rfl
theorem RelV.inj {x y:V} {u:Value} (r:RelV x u) (q:RelV y u):x=y:=Option.some.inj (r.abs.symm.trans q.abs)
theorem Vals.inj:∀ {xs ys:List V} {us:List Value},Vals xs us->Vals ys us->xs=ys
 | _,_,_,.nil,.nil=>rfl
 | _,_,_,.cons r t,.cons r' t'=>by rw [r.inj r',Vals.inj t t']
section
variable {X:Cx} {pins:List (Addr×Obj)} {σ:St} {H:Hp} {s:Shared} {a:Addr} {xs ys:List V}
theorem SqL.of {K:PySem.W.Frag} (h:H a=some (.lst xs)):SqL K H a xs:=.inl (.inl h)
theorem SqT.of {K:PySem.W.Frag} (h:H a=some (.tup xs)):SqT K H a xs:=.inl (.inl h)
theorem Inv.list (I:Inv X pins σ H s) (h:SqL X.K H a xs):∃ its:List Value,Vals xs its/\PlainL s.heap a its.toArray/\xs.length<=sizeLine:=by
 rcases h with h | ⟨o,its,n,hk,hc,hd,hs,hz,r⟩
 ·obtain ⟨z,its,n,r,e⟩:=h.ok I.hok
  exact ⟨its,r,⟨_,n,e,rfl,rfl,rfl⟩,z⟩
 ·refine ⟨its.toList,r,⟨o,n,I.kIn a o hk,hc,hd,by simpa using hs⟩,?_⟩
  have e:=r.length
  simp only [Array.length_toList] at e
  omega
theorem Inv.tuple (I:Inv X pins σ H s) (h:SqT X.K H a xs):∃ its:List Value,Vals xs its/\IsTup s.heap a its.toArray/\xs.length<=sizeLine:=by
 rcases h with h | ⟨o,its,n,hk,hc,_,hs,hz,r⟩
 ·obtain ⟨z,its,r,p⟩:=h.ok I.hok
  exact ⟨its,r,p.1,z⟩
 ·refine ⟨its.toList,r,⟨o,I.kIn a o hk,hc,n,by simpa using hs⟩,?_⟩
  have e:=r.length
  simp only [Array.length_toList] at e
  omega
theorem Inv.tupleB (I:Inv X pins σ H s) (h:SqT X.K H a xs):∀ o,s.heap.get? a=some o->o.dict=none:=by
 rcases h with h | ⟨o,its,n,hk,hc,hd,hs,hz,r⟩
 ·obtain ⟨z,its,r,p⟩:=h.ok I.hok
  exact p.2
 ·intro o2 e2
  rw [I.kIn a o hk] at e2
  cases e2
  exact hd
theorem Inv.list_inj (I:Inv X pins σ H s) (h:SqL X.K H a xs) (h':SqL X.K H a ys):xs=ys:=by
 obtain ⟨its,r,⟨o,n,e,_,_,d⟩,_⟩:=I.list h
 obtain ⟨its',r',⟨o',n',e',_,_,d'⟩,_⟩:=I.list h'
 rw [e] at e';cases e'
 rw [d] at d'
 injection d' with d1 _
 have:its=its':=by simpa using congrArg Array.toList d1
 subst this
 exact r.inj r'
theorem Inv.tuple_inj (I:Inv X pins σ H s) (h:SqT X.K H a xs) (h':SqT X.K H a ys):xs=ys:=by
 obtain ⟨its,r,⟨o,e,_,n,d⟩,_⟩:=I.tuple h
 obtain ⟨its',r',⟨o',e',_,n',d'⟩,_⟩:=I.tuple h'
 rw [e] at e';cases e'
 rw [d] at d'
 injection d' with d1 _
 have:its=its':=by simpa using congrArg Array.toList d1
 subst this
 exact r.inj r'
end
noncomputable abbrev Cx.wish (X:Cx) (E:Value->Shared->Prop):Cx:={ X with xe:=E }
noncomputable abbrev Cx.nox (X:Cx):Cx:=X.wish λ_ _=>False
theorem Cx.Ok.wish {X:Cx} (ok:X.Ok) (E:Value->Shared->Prop):(X.wish E).Ok:=
 ⟨ok.mod,ok.kind,ok.glob,ok.blt,ok.above,ok.inj,ok.has,ok.cab,ok.hd,ok.frames,ok.stk,ok.exf,ok.bs,ok.bsz,ok.noex,ok.exfs,ok.funs,ok.frf⟩
theorem Cx.Ok.unwish {X:Cx} {E:Value->Shared->Prop} (ok:(X.wish E).Ok):X.Ok:=
 ⟨ok.mod,ok.kind,ok.glob,ok.blt,ok.above,ok.inj,ok.has,ok.cab,ok.hd,ok.frames,ok.stk,ok.exf,ok.bs,ok.bsz,ok.noex,ok.exfs,ok.funs,ok.frf⟩
section
variable {X:Cx} {pins:List (Addr×Obj)} {σ:St} {H:Hp} {s:Shared} {E:Value->Shared->Prop}
theorem Inv.wish (I:Inv X pins σ H s) (E:Value->Shared->Prop):Inv (X.wish E) pins σ H s:=⟨I.ok.wish E,I.os,I.bare,I.base,I.loc,I.cell,I.free,I.freeC,I.pin,I.hok,I.len⟩
theorem Inv.unwish (I:Inv (X.wish E) pins σ H s):Inv X pins σ H s:=⟨I.ok.unwish,I.os,I.bare,I.base,I.loc,I.cell,I.free,I.freeC,I.pin,I.hok,I.len⟩
theorem SP.unwish {D:Ends} {f:Flow} {s':Shared} (h:SP (X.wish E) pins D f s'):SP X pins D f s':=by
 cases f with
 | next=>obtain ⟨σ',H',I,q⟩:=h;exact ⟨σ',H',I.unwish,q⟩
 | brk=>obtain ⟨σ',H',I,q⟩:=h;exact ⟨σ',H',I.unwish,q⟩
 | cont=>obtain ⟨σ',H',I,q⟩:=h;exact ⟨σ',H',I.unwish,q⟩
 | ret u=>obtain ⟨v,σ',H',I,r,q⟩:=h;exact ⟨v,σ',H',I.unwish,r,q⟩
theorem PE.nox {e:Expr} {t:TE} (h:PE X.nox e t):PE X e t:=λpins s σ H Q I hw=>
 wpAny_mono (h pins s σ H Q (I.wish _) hw) (λ_ _ ⟨v,H',I',r,q⟩=>⟨v,H',I'.unwish,r,q⟩) λ_ _ z=>False.elim z
theorem PT.nox {e:Expr} {t:TT} (h:PT X.nox e t):PT X e t:=λpins s σ H Q I hw=>
 wpAny_mono (h pins s σ H Q (I.wish _) hw) (λ_ _ ⟨H',I',q⟩=>⟨H',I'.unwish,q⟩) λ_ _ z=>False.elim z
theorem PSs.nox {st:List Stmt} {t:TS} (h:PSs X.nox st t):PSs X st t:=λpins s σ H D I hw=>
 wpAny_mono (h pins s σ H D (I.wish _) hw) (λ_ _ q=>q.unwish) λ_ _ z=>False.elim z
end
section
variable {X:Cx} {st:Stmt} {rest:List Stmt} {t u:TS} {e:Expr} {te:TE} {pos:Pos}
noncomputable def zqY:TS:=λD σ H=>D.nx σ H
noncomputable def tSeq (t u:TS):TS:=λD σ H=>t { D with nx:=u D } σ H
theorem zof:PSs X [] zqY:=λ_ _ σ H _ I h=>wpAny_execs_nil ⟨σ,H,I,h⟩
theorem zkB (h1:PS X st t) (h2:PSs X rest u):PSs X (st::rest) (tSeq t u):=by
 intro pins s σ H D I h
 refine wpAny_execs_cons (thn (h1 pins s σ H { D with nx:=u D } I h) λf s1 q=>?_)
 cases f with
 | next=>
  obtain ⟨σ',H',I',q⟩:=q
  exact h2 pins s1 σ' H' D I' q
 | ret v=>exact q
 | brk=>exact q
 | cont=>exact q
theorem Inv.quiet {pins:List (Addr×Obj)} {σ:St} {H:Hp} {s:Shared} (I:Inv X pins σ H s):interactive X.env=false:=by simp [interactive,I.ok.kind]
noncomputable def zre (te:TE):TS:=λD σ H=>te σ H λ_ H1=>D.nx σ H1
theorem znz (he:PE X e te) (hs:swapsWith e none pos.line X.env=pure false:=by rfl):PS X (.Expr e pos) (zre te):=by
 intro pins s σ H D I h
 exact wpAny_Expr_any (thn (he pins s σ H _ I h) λv s1 ⟨x,H1,I1,r1,q1⟩=>⟨σ,H1,I1,q1⟩) I.quiet hs
noncomputable def tRet (te:TE):TS:=λD σ H=>te σ H D.rt
theorem zoP (he:PE X e te):PS X (.Return (some e) pos) (tRet te):=by
 intro pins s σ H D I h
 exact wpAny_Return_some (thn (he pins s σ H _ I h) λv s1 ⟨x,H1,I1,r1,q1⟩=>⟨x,σ,H1,I1,r1,q1⟩)
noncomputable def tIfS (c:TT) (t u:TS):TS:=λD σ H=>c σ H λb H1=>if b=true then t D σ H1 else u D σ H1
theorem zrW {c:Expr} {a b:List Stmt} {tc:TT} (hc:PT X c tc) (ha:PSs X a t) (hb:PSs X b u):PS X (.If c a b pos) (tIfS tc t u):=by
 intro pins s σ H D I h
 refine wpAny_If (thn (hc pins s σ H _ I h) λd s1 ⟨H1,I1,q1⟩=>?_)
 cases d with
 | true=>exact ha pins s1 σ H1 D I1 q1
 | false=>exact hb pins s1 σ H1 D I1 q1
end
noncomputable abbrev TG:=V->St->Hp->(St->Hp->Prop)->Prop
noncomputable abbrev TGs:=List V->St->Hp->(St->Hp->Prop)->Prop
noncomputable def PG (X:Cx) (target:Expr) (t:TG):Prop:=
 ∀ (pins:List (Addr×Obj)) (s:Shared) (σ:St) (H:Hp) (v:V) (u:Value) (Q:St->Hp->Prop),Inv X pins σ H s->RelV v u->t v σ H Q →
  wpAny (model X.prog X.w) X.A (assign target X.env u) (λ_ s'=>∃ σ' H',Inv X pins σ' H' s'/\Q σ' H') X.xe s
noncomputable def PGs (X:Cx) (ts:List Expr) (t:TGs):Prop:=
 ∀ (pins:List (Addr×Obj)) (s:Shared) (σ:St) (H:Hp) (vs:List V) (us:List Value) (Q:St->Hp->Prop),Inv X pins σ H s->Vals vs us->t vs σ H Q →
  wpAny (model X.prog X.w) X.A (assignInOrder ((assignEach ts X.env).map (·.2)) us) (λ_ s'=>∃ σ' H',Inv X pins σ' H' s'/\Q σ' H') X.xe s
noncomputable abbrev TSet:=V->V->V->Hp->(Hp->Prop)->Prop
noncomputable def PSet (X:Cx) (t:TSet):Prop:=
 ∀ (pins:List (Addr×Obj)) (s:Shared) (σ:St) (H:Hp) (o i v:V) (ov iv u:Value) (Q:Hp->Prop),Inv X pins σ H s->RelV o ov->RelV i iv->RelV v u->t o i v H Q →
  wpAny (model X.prog X.w) X.A (setItem ov iv u) (λ_ s'=>∃ H',Inv X pins σ H' s'/\Q H') X.xe s
section
variable {X:Cx} {pos:Pos}
noncomputable def zlO (i:Nat):TG:=λv σ H Q=>Q (σ.set i (some v)) H
theorem zkl {i:Nat} {x:Str} (hN:X.N.Nodup) (hi:X.N[i]?=some x) (hx:Loc X.env.scope x) (hf:X.fn x=true\/X.env.scope.names.lookup x=some .local:=by first | exact .inl rfl | exact .inr rfl | assumption):PG X (.Name x pos) (zlO i):=by
 intro pins s σ H v u Q I r h
 exact wpAny_assign_Name (zli I hN hi hx r (λs' I'=>⟨_,H,I',h⟩) hf)
noncomputable def gNil:TGs:=λvs σ H Q=>vs=[]/\Q σ H
noncomputable def zrn (t:TG) (u:TGs):TGs:=λvs σ H Q=>∃ v r,vs=v::r/\t v σ H λσ' H'=>u r σ' H' Q
theorem zjd:PGs X [] gNil:=by
 intro pins s σ H vs us Q I r h
 obtain ⟨e,h⟩:=h
 subst e
 cases r
 exact assignInOrder_nil ⟨σ,H,I,h⟩
theorem ze6 {e:Expr} {es:List Expr} {t:TG} {u:TGs} (h1:PG X e t) (h2:PGs X es u)
  (hs:(assignEach (e::es) X.env).map (·.2)=assign e X.env::(assignEach es X.env).map (·.2):=by rfl):PGs X (e::es) (zrn t u):=by
 intro pins s σ H vs us Q I r h
 obtain ⟨v,vr,e1,h⟩:=h
 subst e1
 cases r with
 | cons r rr=>
  rw [hs]
  refine assignInOrder_cons (thn (h1 pins s σ H _ _ _ I r h) λ_ s1 ⟨σ1,H1,I1,q1⟩=>?_)
  exact h2 pins s1 σ1 H1 _ _ Q I1 rr q1
noncomputable def gTup (K:PySem.W.Frag) (n:Nat) (t:TGs):TG:=λv σ H Q=>∃ a xs,v=.ref a/\SqT K H a xs/\xs.length=n/\t xs σ H Q
theorem zl4 {es:List Expr} {k:Nat} {t:TGs} {n:Nat} (hc:X.calm=true) (h:PGs X es t)
  (hn:(assignEach es X.env).length=n:=by rfl) (hst:(assignEach es X.env).findIdx? (·.1)=none:=by rfl):PG X (.Tuple es k pos) (gTup X.K n t):=by
 intro pins s σ H v u Q I r hw
 obtain ⟨a,xs,e1,hq,hl,hw⟩:=hw
 subst e1
 cases r
 obtain ⟨its,rv,ht,hz⟩:=I.tuple hq
 refine assign_Tuple_tuple (I.ok.hd hc) ht (by simp [hn,<-hl,rv.length]) hst λh' hx=>?_
 have I1:Inv X pins σ H { s with heap:=h' }:=I.kept (t':=s.toks) λb o e=>hx b o (Nat.ne_of_lt (Heap.lt_size e)) e
 exact h pins _ σ H xs _ Q I1 (by simpa using rv) hw
noncomputable def gSub (to ti:TE) (t:TSet):TG:=λv σ H Q=>to σ H λo H1=>ti σ H1 λi H2=>t o i v H2 λH3=>Q σ H3
theorem zmk {o i:Expr} {to ti:TE} {t:TSet} (ho:PE X o to) (hi:PE X i ti) (hs:PSet X t)
  (ha:∀ v,assign (.Subscript o i pos) X.env v=(do
   let ov<-holding [v] (eval o X.env)
   let iv<-holding [v,ov] (eval i X.env)
   standAt pos
   holding [v,ov,iv] (setItem ov iv v)
   release [v,ov,iv] []):=by intro _;rfl):PG X (.Subscript o i pos) (gSub to ti t):=by
 intro pins s σ H v u Q I r h
 rw [ha]
 refine wpAny_bind (wpAny_holding (thn (ho pins s σ H _ I h) λov s1 ⟨x,H1,I1,r1,q1⟩=>?_))
 refine wpAny_bind (wpAny_holding (thn (hi pins s1 σ H1 _ I1 q1) λiv s2 ⟨y,H2,I2,r2,q2⟩=>?_))
 refine wpAny_bind (wpAny_standAt (wpAny_bind (wpAny_holding (thn (hs pins s2 σ H2 x y v ov iv u _ I2 r1 r2 r q2) λ_ s3 ⟨H3,I3,q3⟩=>?_))))
 exact wpAny_release ⟨σ,H3,I3,q3⟩
noncomputable def tAsg (te:TE) (g:TG):TS:=λD σ H=>te σ H λx H1=>g x σ H1 D.nx
theorem zji {tg e:Expr} {te:TE} {g:TG} (he:PE X e te) (hg:PG X tg g) (hs:swapsWithSole [tg] e pos.line X.env=pure false:=by rfl) (hw:swappedStores [tg] e X.env=pure none:=by rfl)
  (h1:(assignEach [tg] X.env).map (·.2)=[assign tg X.env]:=by rfl):PS X (.Assign [tg] e pos) (tAsg te g):=by
 intro pins s σ H D I h
 refine wpAny_Assign_stores (thn (he pins s σ H _ I h) λv s1 ⟨x,H1,I1,r1,q1⟩=>?_) hs hw
 rw [h1]
 exact thn (hg pins s1 σ H1 x v _ I1 r1 q1) λ_ s2 q=>q
end
section
variable {X:Cx} {pos:Pos}
end
structure It where
 go:Nat->Hp->Prop
 yld:Nat->Hp->V->Hp->Prop
 stop:Nat->Hp->Prop
noncomputable def FpOk (X:Cx) (pins:List (Addr×Obj)) (H:Hp) (b:Addr):Prop:=
 H b=none/\b≠X.env.locals/\b ∉ X.fs/\(b∈X.ex\/X.s₀.heap.objs.size<=b)/\(∀ x c,X.env.cells.lookup x=some c->c≠b)/\∀ p∈X.pn++pins,p.1≠b
theorem Inv.fpOk {X:Cx} {pins:List (Addr×Obj)} {σ:St} {H H':Hp} {s:Shared} {b:Addr} (I:Inv X pins σ H s) (hb:s.heap.objs.size<=b) (hn:H' b=none):FpOk X pins H' b:=by
 refine ⟨hn,Nat.ne_of_gt (Nat.lt_of_lt_of_le I.lt hb),I.nofs hb,.inr (Nat.le_trans I.sz hb),λx c e z=>?_,λp hp z=>?_⟩
 ·obtain ⟨v,q⟩:=I.cell x c e
  exact absurd (Nat.lt_of_lt_of_le q.lt (by rw [z];exact hb)) (Nat.lt_irrefl _)
 ·exact absurd (Nat.lt_of_lt_of_le (Heap.lt_size (I.pin p hp).1) (by rw [z];exact hb)) (Nat.lt_irrefl _)
structure Turn (P:Program) (w:World) (K:PySem.W.Frag) (tg:Expr) (J:It) (fp:List Addr) (it:Addr) (tn:Nat->Heap->Prop):Prop where
 mem:it∈fp
 obj:∀ i h,tn i h->∀ b∈fp,∃ o,h.get? b=some o/\∀ v,o.data≠.cell v
 keep:∀ i h h',tn i h->(∀ b∈fp,∀ o,h.get? b=some o->h'.get? b=some o)->tn i h'
 item:∀ (X:Cx),X.prog=P->X.w=w->X.K=K->X.calm=true->∀ (i:Nat) (pins:List (Addr×Obj)) (s:Shared) (σ:St) (H:Hp) (E:Value->Shared->Prop),Inv X pins σ H s->(∀ b∈fp,FpOk X pins H b)->tn i s.heap->J.go i H →
  wpAny (model P w) X.A (pyNext (.ref it)) (λr s1=>∃ u,r=some u ∧
   wpAny (model P w) X.A (letOwnedTupleGo tg (.ref it) u) (λ_ s2=>∃ x H',Inv X pins σ H' s2/\RelV x u/\J.yld i H x H'/\tn (i+1) s2.heap/\∀ b∈fp,H' b=none) E s1) E s
 done:∀ (X:Cx),X.prog=P->X.w=w->X.K=K->X.calm=true->∀ (i:Nat) (pins:List (Addr×Obj)) (s:Shared) (σ:St) (H:Hp) (E:Value->Shared->Prop),Inv X pins σ H s->(∀ b∈fp,FpOk X pins H b)->tn i s.heap->J.stop i H →
  wpAny (model P w) X.A (pyNext (.ref it)) (λr s1=>r=none/\Inv X pins σ H s1) E s
 self:∀ (A:Around) (i:Nat) (s:Shared) (Q:Value->Shared->Prop) (E:Value->Shared->Prop),tn i s.heap->Q (.ref it) s->wpAny (model P w) A (pyIter (.ref it)) Q E s
noncomputable abbrev TI:=St->Hp->(It->Hp->Prop)->Prop
noncomputable def PIE (X:Cx) (pins:List (Addr×Obj)) (σ:St) (tg:Expr) (R:It->Hp->Prop) (itv:Value) (s2:Shared):Prop:=
 ∃ (it:Addr) (fp:List Addr) (tn:Nat->Heap->Prop) (J:It) (H':Hp),itv=.ref it/\Inv X pins σ H' s2/\Turn X.prog X.w X.K tg J fp it tn/\tn 0 s2.heap/\(∀ b∈fp,FpOk X pins H' b)/\R J H'
noncomputable def PI (X:Cx) (tg iter:Expr) (wi:TI):Prop:=
 ∀ (pins:List (Addr×Obj)) (s:Shared) (σ:St) (H:Hp) (R:It->Hp->Prop),Inv X pins σ H s->wi σ H R →
  wpAny (model X.prog X.w) X.A (eval iter X.env) (λv s1=>wpAny (model X.prog X.w) X.A (pyIter v) (PIE X pins σ tg R) X.xe s1) X.xe s
theorem zjF {M:Model} {A:Around} {E:Value->Shared->Prop} {s:Shared} {tg:Expr} {it:Addr} {u:Value} {o:Obj} {n:String} {vs:Array Value} {Q:Unit->Shared->Prop} (ho:s.heap.get? it=some o) (hc:o.cls=.type n) (hd:o.data=.fields vs)
    (hn:["enumerate", "zip", "dict_itemiterator", "dict_reverseitemiterator", "odict_iterator", "itertools.zip_longest", "itertools.pairwise"].contains n=false) (hQ:Q () s):wpAny M A (letOwnedTupleGo tg (.ref it) u) Q E s:=by
  unfold letOwnedTupleGo
  cases tg <;> first
    | exact wpAny_pure hQ
    | (cases u<;>first
        | exact wpAny_pure hQ
        | (refine wpAny_bind (wpAny_load ho ?_)
           rw [hc,hd]
           show wpAny M A (if (["enumerate", "zip", "dict_itemiterator", "dict_reverseitemiterator", "odict_iterator", "itertools.zip_longest", "itertools.pairwise"].contains n&&vs[0]?==some (rawInt _))=true then _ else _) Q E s
           rw [if_neg (by intro h;rw [hn,Bool.false_and] at h;cases h)]
           exact wpAny_pure hQ))
noncomputable def Itl (K:PySem.W.Frag) (a:Addr):It:=
 ⟨λi H=>∃ xs x,SqL K H a xs/\xs[i]?=some x,λi H x H'=>H'=H/\∀ xs,SqL K H a xs->xs[i]?=some x,λi H=>∃ xs,SqL K H a xs/\xs.length<=i⟩
noncomputable def Itt (K:PySem.W.Frag) (a:Addr):It:=
 ⟨λi H=>∃ xs x,SqT K H a xs/\xs[i]?=some x,λi H x H'=>H'=H/\∀ xs,SqT K H a xs->xs[i]?=some x,λi H=>∃ xs,SqT K H a xs/\xs.length<=i⟩
noncomputable def Itr (lo:Int) (n:Nat):It:=⟨λi _=>i<n,λi H x H'=>H'=H/\x=.int (lo+i),λi _=>n<=i⟩
theorem zko {P:Program} {w:World} {K:PySem.W.Frag} {tg:Expr} (a it:Addr):Turn P w K tg (Itl K a) [it] it (λi h=>h.IsListIter it a i) where
 mem:=by simp
 obj:=λi h st b hb=>by
  have e:b=it:=by simpa using hb
  subst e
  obtain ⟨o,e,c,d⟩:=st
  exact ⟨o,e,λv z=>by rw [d] at z;cases z⟩
 keep:=λi h h' st k=>st.at λo e=>k it (by simp) o e
 item:=by
  intro X hP hw hK hc i pins s σ H E I hf st hg
  subst hP hw hK
  obtain ⟨xs,x,hq,hx⟩:=hg
  obtain ⟨its,rv,p,hz⟩:=I.list hq
  obtain ⟨u,hu,ru⟩:=rv.get hx
  obtain ⟨f0,f1,f2,f3,f4,f5⟩:=hf it (by simp)
  refine wpAny_pyNext_list_item st p.isList (x:=u) (by simpa using hu) λh' st' sb=>?_
  have I1:Inv X pins σ H { s with heap:=h' }:=I.turned (t':=s.toks) (λb o hb e=>(sb.2 b hb).trans e) f0 f1 f3 f4 f5
  obtain ⟨o,e,c,d⟩:=id st'
  exact ⟨u,rfl,zjF (s:={ s with heap:=h' }) e c d (by decide) ⟨x,H,I1,ru,⟨rfl,λys hy=>by rw [I.list_inj hy hq];exact hx⟩,st',λb hb=>(hf b hb).1⟩⟩
 done:=by
  intro X hP hw hK hc i pins s σ H E I hf st hg
  subst hP hw hK
  obtain ⟨xs,hq,hx⟩:=hg
  obtain ⟨its,rv,p,hz⟩:=I.list hq
  obtain ⟨f0,f1,f2,f3,f4,f5⟩:=hf it (by simp)
  have hl:=rv.length
  exact wpAny_pyNext_list_end (I.ok.hd hc) st p.isList (by simp;omega) λh' eb=>⟨rfl,I.turned (t':=s.toks) (λb o hb e=>eb b o hb e) f0 f1 f3 f4 f5⟩
 self:=λ_ _ _ _ _ st h=>wpAny_pyIter_listiter st h
theorem zh2 {P:Program} {w:World} {K:PySem.W.Frag} {tg:Expr} (a it:Addr):Turn P w K tg (Itt K a) [it] it (λi h=>h.IsTupleIter it a i) where
 mem:=by simp
 obj:=λi h st b hb=>by
  have e:b=it:=by simpa using hb
  subst e
  obtain ⟨o,e,c,d⟩:=st
  exact ⟨o,e,λv z=>by rw [d] at z;cases z⟩
 keep:=λi h h' st k=>st.at λo e=>k it (by simp) o e
 item:=by
  intro X hP hw hK hc i pins s σ H E I hf st hg
  subst hP hw hK
  obtain ⟨xs,x,hq,hx⟩:=hg
  obtain ⟨its,rv,p,hz⟩:=I.tuple hq
  obtain ⟨u,hu,ru⟩:=rv.get hx
  obtain ⟨f0,f1,f2,f3,f4,f5⟩:=hf it (by simp)
  refine wpAny_pyNext_tuple_item st (show s.heap.IsTuple a its.toArray from p) (x:=u) (by simpa using hu) λh' st' sb=>?_
  have I1:Inv X pins σ H { s with heap:=h' }:=I.turned (t':=s.toks) (λb o hb e=>(sb.2 b hb).trans e) f0 f1 f3 f4 f5
  obtain ⟨o,e,c,d⟩:=id st'
  exact ⟨u,rfl,zjF (s:={ s with heap:=h' }) e c d (by decide) ⟨x,H,I1,ru,⟨rfl,λys hy=>by rw [I.tuple_inj hy hq];exact hx⟩,st',λb hb=>(hf b hb).1⟩⟩
 done:=by
  intro X hP hw hK hc i pins s σ H E I hf st hg
  subst hP hw hK
  obtain ⟨xs,hq,hx⟩:=hg
  obtain ⟨its,rv,p,hz⟩:=I.tuple hq
  obtain ⟨f0,f1,f2,f3,f4,f5⟩:=hf it (by simp)
  have hl:=rv.length
  exact wpAny_pyNext_tuple_end (I.ok.hd hc) st (show s.heap.IsTuple a its.toArray from p) (by simp;omega) λh' eb=>⟨rfl,I.turned (t':=s.toks) (λb o hb e=>eb b o hb e) f0 f1 f3 f4 f5⟩
 self:=λ_ _ _ _ _ st h=>wpAny_pyIter_tupleiter st h
theorem zir {P:Program} {w:World} {K:PySem.W.Frag} {tg:Expr} (it:Addr) (lo:Int) (n:Nat):Turn P w K tg (Itr lo n) [it] it (λi h=>IsRangeIter h it (lo+(i:Nat)*1) ((n:Int)-(i:Nat)) 1) where
 mem:=by simp
 obj:=λi h st b hb=>by
  have e:b=it:=by simpa using hb
  subst e
  exact ⟨_,st,λv z=>by
   have z':Data.fields _=Data.cell v:=z
   cases z'⟩
 keep:=λi h h' st k=>k it (by simp) _ st
 item:=by
  intro X hP hw hK hc i pins s σ H E I hf st hg
  subst hP hw hK
  obtain ⟨f0,f1,f2,f3,f4,f5⟩:=hf it (by simp)
  have W:=Walks.range (prog:=X.prog) (w:=X.w) (I.ok.hd hc) it lo 1 n
  refine W.item i s _ _ hg st λv h' tk hv st' kk=>?_
  obtain ⟨t,rfl⟩:=hv
  have I1:Inv X pins σ H { s with heap:=h',toks:=tk }:=I.turned (λb o hb e=>kk b o (by simpa using hb) e) f0 f1 f3 f4 f5
  refine ⟨_,rfl,zjF (s:={ s with heap:=h',toks:=tk }) (n:="range_iterator") st' rfl rfl (by decide) ⟨.int (lo+i),H,I1,⟨t,?_⟩,⟨rfl,rfl⟩,st',λb hb=>(hf b hb).1⟩⟩
  rw [Int.mul_one]
 done:=by
  intro X hP hw hK hc i pins s σ H E I hf st hg
  subst hP hw hK
  obtain ⟨f0,f1,f2,f3,f4,f5⟩:=hf it (by simp)
  exact wpAny_pyNext_range_end (I.ok.hd hc) st (by have:n<=i:=hg;omega) λh' eb=>⟨rfl,I.turned (t':=s.toks) (λb o hb e=>eb b o hb e) f0 f1 f3 f4 f5⟩
 self:=λ_ _ _ _ _ st h=>wpAny_pyIter_rangeiter st h
end L2
namespace L2
open PySem PySem.Spec PyProof.Rows
section
variable {X:Cx} {tg:Expr}
theorem zkC {pins:List (Addr×Obj)} {σ:St} {H:Hp} {s:Shared} {R:It->Hp->Prop} {E:Value->Shared->Prop} {lo hi:Int} {t u v:Tok} {tk:Nat} (I:Inv X pins σ H s) (h1:-(2 ^ 62)<=lo) (h2:lo<2 ^ 62) (h3:-(2 ^ 62)<=hi) (h4:hi<2 ^ 62)
  (q:R (Itr lo (hi-lo).toNat) H):wpAny (model X.prog X.w) X.A (pyIter (.ref s.heap.objs.size)) (PIE X pins σ tg R) E { s with heap:=s.heap.push { cls:=.type "range",data:=.fields #[.int lo t,.int hi u,.int 1 v] },toks:=tk }:=by
 refine wpAny_pyIter_range (IsRange.new ..) (small_one h1 h2 h3 h4) ?_
 have I1:Inv X pins σ H { s with heap:=s.heap.push { cls:=.type "range",data:=.fields #[.int lo t,.int hi u,.int 1 v] },toks:=tk }:=I.kept λb o e=>Heap.get?_push_of_some _ e
 refine ⟨(s.heap.push { cls:=.type "range",data:=.fields #[.int lo t,.int hi u,.int 1 v] }).objs.size,[(s.heap.push { cls:=.type "range",data:=.fields #[.int lo t,.int hi u,.int 1 v] }).objs.size],_,_,H,rfl,
  I1.kept (t':=tk) λb o e=>Heap.get?_push_of_some _ e,zir _ lo (hi-lo).toNat,?_,λb hb=>?_,q⟩
 ·have e1:lo+((0:Nat):Int)*1=lo:=by simp
  have e2:(((hi-lo).toNat:Nat):Int)-((0:Nat):Int)=Builtin.Range.rangeSize lo hi 1:=by rw [rangeSize_one];split<;>omega
  show IsRangeIter _ _ (lo+((0:Nat):Int)*1) ((((hi-lo).toNat:Nat):Int)-((0:Nat):Int)) 1
  rw [e1,e2]
  exact Heap.get?_push_size _ rfl
 ·have e:b=(s.heap.push { cls:=.type "range",data:=.fields #[.int lo t,.int hi u,.int 1 v] }).objs.size:=by simpa using hb
  subst e
  exact I1.fpOk (Nat.le_refl _) (I1.hok.fresh (Nat.le_refl _))
noncomputable def zrI (ta:TA):TI:=λσ H R=>ta σ H λvs H1=>∃ j:Int,vs=[.int j]/\-(2 ^ 62)<=j/\j<2 ^ 62/\R (Itr 0 j.toNat) H1
theorem zjs {a:Expr} {ta:TA} {p pos:Pos} (hg:Gl X "range") (hm:X.mg "range"=none) (ha:PA X [a] ta) (hs:starEach [a] X.env=[(false,eval a X.env)]:=by rfl):PI X tg (.Call (.Name "range" p) [a] [] pos) (zrI ta):=by
 intro pins s σ H R I h
 refine Call_ (zfQ I hg hm boot_range (PyProof.Rows.callWith_type1 (thn (ha pos pins s σ H _ I h) λus s1 ⟨vs,H1,I1,r1,q1⟩=>?_) hs rfl))
 obtain ⟨j,e,q1,q2,q⟩:=q1
 subst e
 cases r1 with
 | cons r rr=>
  cases rr
  obtain ⟨t,rfl⟩:=r
  exact call_range_1 (zkC I1 (by omega) (by omega) q1 q2 (by simpa using q))
noncomputable def tFor (wi:TI) (g:TG) (tb:TS):TS:=λD σ H=>wi σ H λJ H1=>∃ W:Nat->Nat->St->Hp->Prop,(∃ m,W 0 m σ H1)/\∀ i m σ H,W i m σ H →
 (J.stop i H/\D.nx σ H)\/(J.go i H/\∃ N:St->Hp->Prop,(∀ σ' H',N σ' H'->∃ m',m'<m/\W (i+1) m' σ' H')/\∀ x H',J.yld i H x H'->g x σ H' λσ2 H2=>tb { D with nx:=N,ct:=N,bk:=D.nx } σ2 H2)
noncomputable def zfY (fp:List Addr) (h:Heap):List (Addr×Obj):=fp.filterMap λb=>(h.get? b).map λo=>(b,o)
theorem zcn {fp:List Addr} {h:Heap} {b:Addr} {o:Obj} (hb:b∈fp) (e:h.get? b=some o):(b,o)∈zfY fp h:=List.mem_filterMap.mpr ⟨b,hb,by rw [e];rfl⟩
theorem zjT {fp:List Addr} {h:Heap} {p:Addr×Obj} (hp:p∈zfY fp h):p.1∈fp/\h.get? p.1=some p.2:=by
 obtain ⟨b,hb,e⟩:=List.mem_filterMap.mp hp
 cases q:h.get? b with
 | none=>rw [q] at e;cases e
 | some o=>
  rw [q] at e
  have e':(b,o)=p:=Option.some.inj e
  subst e'
  exact ⟨hb,q⟩
theorem Inv.pinned {pins:List (Addr×Obj)} {σ:St} {H:Hp} {s:Shared} {fp:List Addr} (I:Inv X pins σ H s) (hf:∀ b∈fp,FpOk X pins H b) (ho:∀ b∈fp,∃ o,s.heap.get? b=some o/\∀ v,o.data≠.cell v):Inv X (pins++zfY fp s.heap) σ H s:=
 I.pins_of λp hp=>(List.mem_append.mp hp).elim (λz=>I.pin p (List.mem_append_right _ z)) λz=>by
  obtain ⟨hb,e⟩:=zjT z
  obtain ⟨f0,f1,f2,_⟩:=hf p.1 hb
  obtain ⟨o,e',d⟩:=ho p.1 hb
  rw [e] at e';cases e'
  exact ⟨e,f0,f1,f2,d⟩
theorem Inv.unpinned {pins pl:List (Addr×Obj)} {σ:St} {H:Hp} {s:Shared} (I:Inv X (pins++pl) σ H s):Inv X pins σ H s:=I.pins_of λp hp=>I.pin p (List.mem_append_right _ (List.mem_append_left _ hp))
theorem zoN {iter:Expr} {body:List Stmt} {wi:TI} {g:TG} {tb:TS} {pos:Pos} (hp:PassesOwn (model X.prog X.w) X.A X.env X.xe) (hc:X.calm=true) (hi:PI X tg iter wi) (hg:PG X tg g) (hb:PSs X body tb)
  (hs:∀ x,foldedSetIterable iter X.env x=pure x:=by intro _;rfl):PS X (.For tg iter body [] pos) (tFor wi g tb):=by
 intro pins s σ H D I h
 refine wpAny_For (thn (hi pins s σ H _ I h) λv s1 h1=>thn h1 λitv s2 h2=>?_) hs
 obtain ⟨it,fp,tn,J,H2,e,I2,T,st2,f2,W,⟨m0,w0⟩,turn⟩:=h2
 subst e
 have stat:∀ {H':Hp},(∀ b∈fp,H' b=none)->∀ b∈fp,FpOk X pins H' b:=λhn b hb=>⟨hn b hb,(f2 b hb).2⟩
 refine codeAny_forLoop_any (λn s'=>∃ i σ' H',Inv X pins σ' H' s'/\tn i s'.heap/\(∀ b∈fp,H' b=none)/\W i n σ' H') ?_ m0 ⟨0,σ,H2,I2,st2,λb hb=>(f2 b hb).1,w0⟩
 rintro n s3 ⟨i,σ3,H3,I3,st3,fr3,w3⟩
 rcases turn i n σ3 H3 w3 with ⟨stop,qn⟩ | ⟨go,N,hN,step⟩
 ·refine wpAny_passesOwn hp (thn (T.done X rfl rfl rfl hc i pins s3 σ3 H3 X.xe I3 (stat fr3) st3 stop) λr s4 ⟨hr,I4⟩=>?_)
  subst hr
  exact wpAny_execs_nil ⟨σ3,H3,I4,qn⟩
 ·refine wpAny_passesOwn hp (thn (T.item X rfl rfl rfl hc i pins s3 σ3 H3 X.xe I3 (stat fr3) st3 go) λr s4 ⟨u,hr,h4⟩=>?_)
  subst hr
  refine wpAny_passesOwn hp (thn h4 λ_ s5 ⟨x,H5,I5,r5,y5,st5,fr5⟩=>?_)
  have I5':=I5.pinned (stat fr5) (T.obj _ _ st5)
  refine wpAny_passesOwn hp (thn (hg _ s5 σ3 H5 x u _ I5' r5 (step x H5 y5)) λ_ s6 ⟨σ6,H6,I6,q6⟩=>?_)
  refine wpAny_passesOwn hp (thn (hb _ s6 σ6 H6 _ I6 q6) λf s7 q7=>?_)
  have again:∀ {σ7:St} {H7:Hp},Inv X (pins++zfY fp s5.heap) σ7 H7 s7->N σ7 H7->∃ m,m<n/\∃ i σ' H',Inv X pins σ' H' s7/\tn i s7.heap/\(∀ b∈fp,H' b=none)/\W i m σ' H':=λ{σ7 H7} I7 n7=>by
   obtain ⟨m',hm,w7⟩:=hN σ7 H7 n7
   refine ⟨m',hm,i+1,σ7,H7,I7.unpinned,T.keep _ _ _ st5 λb hb o e=>(I7.pin (b,o) (List.mem_append_right _ (List.mem_append_right _ (zcn hb e)))).1,λb hb=>?_,w7⟩
   obtain ⟨o,e,d⟩:=T.obj _ _ st5 b hb
   exact (I7.pin (b,o) (List.mem_append_right _ (List.mem_append_right _ (zcn hb e)))).2.1
  cases f with
  | next=>obtain ⟨σ7,H7,I7,n7⟩:=q7;exact again I7 n7
  | cont=>obtain ⟨σ7,H7,I7,n7⟩:=q7;exact again I7 n7
  | brk=>obtain ⟨σ7,H7,I7,q7⟩:=q7;exact ⟨σ7,H7,I7.unpinned,q7⟩
  | ret v=>obtain ⟨x7,σ7,H7,I7,r7,q7⟩:=q7;exact ⟨x7,σ7,H7,I7.unpinned,r7,q7⟩
end
end L2
namespace L2
open PySem PySem.Spec PyProof.Rows
noncomputable abbrev R2:=V->V->Hp->VK->Prop
noncomputable def OpR (X:Cx) (f:Value->Value->Sem Value) (r:R2):Prop:=
 ∀ (pins:List (Addr×Obj)) (s:Shared) (σ:St) (H:Hp) (x y:V) (v u:Value) (Q:VK),Inv X pins σ H s->RelV x v->RelV y u->r x y H Q →
  wpAny (model X.prog X.w) X.A (f v u) (EP X pins σ Q) X.xe s
noncomputable def UnR (X:Cx) (f:Value->Sem Value) (r:V->Hp->VK->Prop):Prop:=
 ∀ (pins:List (Addr×Obj)) (s:Shared) (σ:St) (H:Hp) (x:V) (v:Value) (Q:VK),Inv X pins σ H s->RelV x v->r x H Q →
  wpAny (model X.prog X.w) X.A (f v) (EP X pins σ Q) X.xe s
noncomputable def zdH (X:Cx) (f:Value) (r:List V->Hp->VK->Prop):Prop:=
 ∀ (pins:List (Addr×Obj)) (s:Shared) (σ:St) (H:Hp) (xs:List V) (us:List Value) (Q:VK),Inv X pins σ H s->Vals xs us->r xs H Q →
  wpAny (model X.prog X.w) X.A (call f us) (EP X pins σ Q) X.xe s
noncomputable def TruR (X:Cx) (r:V->Hp->(Bool->Hp->Prop)->Prop):Prop:=
 ∀ (pins:List (Addr×Obj)) (s:Shared) (σ:St) (H:Hp) (x:V) (v:Value) (Q:Bool->Hp->Prop),Inv X pins σ H s->RelV x v->r x H Q →
  wpAny (model X.prog X.w) X.A (truthy v) (TP X pins σ Q) X.xe s
noncomputable def tOp (r:R2) (ta tb:TE):TE:=λσ H Q=>ta σ H λx H1=>tb σ H1 λy H2=>r x y H2 Q
noncomputable def tUn (r:V->Hp->VK->Prop) (ta:TE):TE:=λσ H Q=>ta σ H λx H1=>r x H1 Q
noncomputable def rI (C:Int->Int->Prop) (g:Int->Int->V):R2:=λx y H Q=>∃ i j,x=.int i/\y=.int j/\C i j/\Q (g i j) H
noncomputable def rI0 (g:Int->Int->V):R2:=λx y H Q=>∃ i j,x=.int i/\y=.int j/\Q (g i j) H
noncomputable def rU (g:Int->V):V->Hp->VK->Prop:=λx H Q=>∃ i,x=.int i/\Q (g i) H
section
variable {X:Cx} {a b c:Expr} {ta tb tc:TE} {pos:Pos}
theorem binT (ha:PE X a ta) (hb:PE X b tb) {pins:List (Addr×Obj)} {s:Shared} {σ:St} {H:Hp} {R:V->V->Hp->Prop} (I:Inv X pins σ H s)
  (h:ta σ H λx H1=>tb σ H1 λy H2=>R x y H2) {Q:Value->Shared->Prop} {f:Value->Value->Sem Value}
  (hf:∀ v u s2 x y H2,Inv X pins σ H2 s2->RelV x v->RelV y u->R x y H2->wpAny (model X.prog X.w) X.A (f v u) Q X.xe s2) :
  wpAny (model X.prog X.w) X.A (eval a X.env) (λv s₁=>wpAny (model X.prog X.w) X.A (eval b X.env) (λu s₂=>wpAny (model X.prog X.w) X.A (f v u) Q X.xe s₂) X.xe s₁) X.xe s:=by
 refine thn (ha pins s σ H _ I h) λv s1 ⟨x,H1,I1,r1,q1⟩=>?_
 refine thn (hb pins s1 σ H1 _ I1 q1) λu s2 ⟨y,H2,I2,r2,q2⟩=>?_
 exact hf v u s2 x y H2 I2 r1 r2 q2
theorem zrQ {op:Operator} {r:R2} (ho:OpR X (binaryOp op) r) (ha:PE X a ta) (hb:PE X b tb):PE X (.BinOp a op b pos) (tOp r ta tb):=by
 intro pins s σ H Q I h
 exact wpAny_BinOp (binT ha hb I h λv u s2 x y H2 I2 rx ry q=>ho pins s2 σ H2 x y v u Q I2 rx ry q)
theorem zrv {op:UnaryOp} {r:V->Hp->VK->Prop} (ho:UnR X (unaryOp op) r) (ha:PE X a ta):PE X (.UnaryOp op a pos) (tUn r ta):=by
 intro pins s σ H Q I h
 exact UnaryOp_ (thn (ha pins s σ H _ I h) λv s1 ⟨x,H1,I1,r1,q1⟩=>ho pins s1 σ H1 x v Q I1 r1 q1)
theorem opI {f:Value->Value->Sem Value} {C:Int->Int->Prop} {g:Int->Int->Int}
  (rule:∀ (i j:Int) (t u:Tok) (s:Shared) (Q:Value->Shared->Prop) (E:Value->Shared->Prop),C i j->Q (.int (g i j) s.toks) { s with toks:=s.toks+1 }->wpAny (model X.prog X.w) X.A (f (.int i t) (.int j u)) Q E s) :
  OpR X f (rI C λi j=>.int (g i j)):=by
 intro pins s σ H x y v u Q I rx ry h
 obtain ⟨i,j,rfl,rfl,hc,q⟩:=h
 obtain ⟨t,rfl⟩:=rx
 obtain ⟨t',rfl⟩:=ry
 exact rule i j t t' s _ _ hc ⟨.int (g i j),H,I.tok _,⟨_,rfl⟩,q⟩
theorem opI0 {f:Value->Value->Sem Value} {g:Int->Int->Int}
  (rule:∀ (i j:Int) (t u:Tok) (s:Shared) (Q:Value->Shared->Prop) (E:Value->Shared->Prop),Q (.int (g i j) s.toks) { s with toks:=s.toks+1 }->wpAny (model X.prog X.w) X.A (f (.int i t) (.int j u)) Q E s) :
  OpR X f (rI0 λi j=>.int (g i j)):=by
 intro pins s σ H x y v u Q I rx ry h
 obtain ⟨i,j,rfl,rfl,q⟩:=h
 obtain ⟨t,rfl⟩:=rx
 obtain ⟨t',rfl⟩:=ry
 exact rule i j t t' s _ _ ⟨.int (g i j),H,I.tok _,⟨_,rfl⟩,q⟩
theorem opB0 {f:Value->Value->Sem Value} {g:Int->Int->Bool}
  (rule:∀ (i j:Int) (t u:Tok) (s:Shared) (Q:Value->Shared->Prop) (E:Value->Shared->Prop),Q (.bool (g i j)) s->wpAny (model X.prog X.w) X.A (f (.int i t) (.int j u)) Q E s) :
  OpR X f (rI0 λi j=>.bl (g i j)):=by
 intro pins s σ H x y v u Q I rx ry h
 obtain ⟨i,j,rfl,rfl,q⟩:=h
 obtain ⟨t,rfl⟩:=rx
 obtain ⟨t',rfl⟩:=ry
 exact rule i j t t' s _ _ ⟨.bl (g i j),H,I,rfl,q⟩
noncomputable def CPow (i j:Int):Prop:=0<=j/\j<=1000000/\i.natAbs<2 ^ 64
noncomputable def CMul (i j:Int):Prop:=(-(2 ^ 64)<i/\i<2 ^ 64)\/(-(2 ^ 64)<j/\j<2 ^ 64)
theorem CMul.ok {i j:Int} (h:CMul i j):IntMulOk i j:=by
 rcases h with ⟨h1,h2⟩ | ⟨h1,h2⟩
 ·exact .of_left (intBits_le_64 h1 h2)
 ·exact .of_right (intBits_le_64 h1 h2)
theorem zqe:OpR X (binaryOp .Add) (rI0 λi j=>.int (i+j)):=opI0 λ_ _ _ _ _ _ _ q=>add_int q
theorem zpi:OpR X (binaryOp .Sub) (rI0 λi j=>.int (i-j)):=opI0 λ_ _ _ _ _ _ _ q=>sub_int q
theorem zol:OpR X (binaryOp .Mult) (rI CMul λi j=>.int (i*j)):=opI λ_ _ _ _ _ _ _ hc q=>mul_int q hc.ok
theorem zpS:OpR X (binaryOp .Mod) (rI (λ_ j=>0<j) λi j=>.int (i % j)):=opI λi j _ _ _ _ _ hc q=>by
 have h1:(0:Int)<j:=hc
 exact mod_int' (by omega) (by rw [Int.fmod_eq_emod_of_nonneg i (by omega)];exact q)
theorem zp5:OpR X (binaryOp .Pow) (rI CPow λi j=>.int (i ^ j.toNat)):=opI λ_ _ _ _ _ _ _ hc q=>pow_int_small hc.1 hc.2.1 hc.2.2 q
theorem zpV:OpR X (binaryOp .BitAnd) (rI0 λi j=>.int (Builtin.bitAnd i j)):=opI0 λ_ _ _ _ _ _ _ q=>and_int q
theorem zrg:OpR X (binaryOp .BitOr) (rI0 λi j=>.int (Builtin.bitOr i j)):=opI0 λ_ _ _ _ _ _ _ q=>or_int q
theorem unI {f:Value->Sem Value} {g:Int->Int}
  (rule:∀ (i:Int) (t:Tok) (s:Shared) (Q:Value->Shared->Prop) (E:Value->Shared->Prop),Q (.int (g i) s.toks) { s with toks:=s.toks+1 }->wpAny (model X.prog X.w) X.A (f (.int i t)) Q E s) :
  UnR X f (rU λi=>.int (g i)):=by
 intro pins s σ H x v Q I rx h
 obtain ⟨i,rfl,q⟩:=h
 obtain ⟨t,rfl⟩:=rx
 exact rule i t s _ _ ⟨.int (g i),H,I.tok _,⟨_,rfl⟩,q⟩
theorem zpb:UnR X (unaryOp .USub) (rU λi=>.int (-i)):=unI λ_ _ _ _ _ q=>neg_int q
end
section
variable {X:Cx} {a b c:Expr} {ta tb tc:TE} {pos:Pos}
theorem zhs {pins:List (Addr×Obj)} {σ:St} {H:Hp} {s:Shared} {Q:VK} {k k':Bool} (I:Inv X pins σ H s) (q:Q (.bl k) H) (e:k=k'):EP X pins σ Q (.bool k') s:=by
 subst e
 exact ⟨.bl k,H,I,rfl,q⟩
theorem zrz:OpR X (compareOp .Lt) (rI0 λi j=>.bl (decide (i<j))):=opB0 λ_ _ _ _ _ _ _ q=>lt_int q
theorem zqK:OpR X (compareOp .LtE) (rI0 λi j=>.bl (decide (i<=j))):=opB0 λ_ _ _ _ _ _ _ q=>le_int q
theorem zqZ:OpR X (compareOp .Gt) (rI0 λi j=>.bl (decide (j<i))):=opB0 λ_ _ _ _ _ _ _ q=>gt_int q
theorem zqJ:OpR X (compareOp .GtE) (rI0 λi j=>.bl (decide (j<=i))):=opB0 λ_ _ _ _ _ _ _ q=>ge_int q
theorem zjB:OpR X (compareOp .In) (λx y H Q=>∃ i j,x=.str i/\y=.str j/\Q (.bl (!(Builtin.Str.occurrences j i 0 j.length 1).isEmpty)) H):=by
 intro pins s σ H x y v u Q I rx ry h
 obtain ⟨i,j,rfl,rfl,q⟩:=h
 obtain ⟨t,rfl⟩:=rx
 obtain ⟨t',rfl⟩:=ry
 exact in_str (zhs I q rfl)
theorem zos:OpR X (compareOp .Is) (λx y H Q=>y=.non/\Q (.bl (decide (x=.non))) H):=by
 intro pins s σ H x y v u Q I rx ry h
 obtain ⟨rfl,q⟩:=h
 cases ry
 refine is_none_gen (zhs I q ?_)
 cases x<;>first
  | (cases rx;rfl)
  | (obtain ⟨t,rfl⟩:=rx;rfl)
theorem znR:OpR X (compareOp .IsNot) (λx y H Q=>y=.non/\Q (.bl (!decide (x=.non))) H):=by
 intro pins s σ H x y v u Q I rx ry h
 obtain ⟨rfl,q⟩:=h
 cases ry
 refine isnot_none_gen (zhs I q ?_)
 cases x<;>first
  | (cases rx;rfl)
  | (obtain ⟨t,rfl⟩:=rx;rfl)
theorem zgg:OpR X (compareOp .NotIn) (λx y H Q=>∃ i j,x=.str i/\y=.str j/\Q (.bl (!(!(Builtin.Str.occurrences j i 0 j.length 1).isEmpty))) H):=by
 intro pins s σ H x y v u Q I rx ry h
 obtain ⟨i,j,rfl,rfl,q⟩:=h
 obtain ⟨t,rfl⟩:=rx
 obtain ⟨t',rfl⟩:=ry
 exact notIn_str (zhs I q rfl)
theorem OpR.or {f:Value->Value->Sem Value} {r r':R2} (h:OpR X f r) (h':OpR X f r'):OpR X f (λx y H Q=>r x y H Q\/r' x y H Q):=by
 intro pins s σ H x y v u Q I rx ry q
 rcases q with q | q
 ·exact h pins s σ H x y v u Q I rx ry q
 ·exact h' pins s σ H x y v u Q I rx ry q
theorem zr3 (b:Expr) {op:CmpOp} (h:op≠.In:=by decide) (h2:op≠.NotIn:=by decide):behindInMarks op b=false:=by
 have e1:(op==CmpOp.In)=false:=by cases op<;>first | rfl | exact absurd rfl h
 have e2:(op==CmpOp.NotIn)=false:=by cases op<;>first | rfl | exact absurd rfl h2
 cases b<;>simp [behindInMarks,e1,e2]
theorem zmt {op:CmpOp} {r:R2} (ho:OpR X (compareOp op) r) (ha:PE X a ta) (hb:PE X b tb) (hm:behindInMarks op b=false):PE X (.Compare a [op] [b] pos) (tOp r ta tb):=by
 intro pins s σ H Q I h
 exact wpAny_Compare1 (binT ha hb I h λv u s2 x y H2 I2 rx ry q=>ho pins s2 σ H2 x y v u Q I2 rx ry q) hm
noncomputable def zrE (t:TE):TT:=λσ H Q=>t σ H λx H'=>∃ k,x=.bl k/\Q k H'
theorem znx {op:CmpOp} {r:R2} (ho:OpR X (compareOp op) r) (ha:PE X a ta) (hb:PE X b tb) (hm:behindInMarks op b=false):PT X (.Compare a [op] [b] pos) (zrE (tOp r ta tb)):=by
 intro pins s σ H Q I h
 refine wpAny_isTrue_Compare1 (thn (ha pins s σ H _ I h) λv s1 ⟨x,H1,I1,r1,q1⟩=>thn (hb pins s1 σ H1 _ I1 q1) λu s2 ⟨y,H2,I2,r2,q2⟩=>
  thn (ho pins s2 σ H2 x y v u _ I2 r1 r2 q2) λc s3 ⟨z,H3,I3,r3,k,e,q3⟩=>?_) hm
 subst e
 cases r3
 exact wpAny_truthy_bool ⟨H3,I3,q3⟩
noncomputable def TruV (K:PySem.W.Frag) (x:V) (H:Hp) (k:Bool):Prop:=
 match x with
 | .non=>k=false
 | .bl b=>k=b
 | .int i=>k=(i != 0)
 | .str y=>y.length<=sizeLine/\k=((y.length:Int) != 0)
 | .byt y=>y.size<=sizeLine/\k=((y.size:Int) != 0)
 | .ref p=>(∃ xs,SqL K H p xs/\k=!xs.isEmpty)\/(∃ xs,SqT K H p xs/\k=!xs.isEmpty)\/∃ kvs,H p=some (.dK kvs)/\k=!kvs.isEmpty
 | _=>False
theorem zhQ {κ:Type} {kvs:List (κ×V)} {vs:List (κ×Value)} (r:KV kvs vs):(!vs.isEmpty)=!kvs.isEmpty:=by
 cases r<;>rfl
theorem zcq {xs:List V} {its:List Value} (r:Vals xs its):(!its.toArray.isEmpty)=!xs.isEmpty:=by
 cases r<;>simp
theorem zed:(sizeLine:Nat)<2 ^ 63:=by rw [sizeLine_eq];decide
theorem zpz:TruR X (λx H Q=>∃ k,TruV X.K x H k/\Q k H):=by
 intro pins s σ H x v Q I rx h
 obtain ⟨k,e,q⟩:=h
 have hl:=zed
 have hs:sizeLine=16777216:=sizeLine_eq
 cases x with
 | non=>
  cases rx
  have e':k=false:=e
  subst e'
  exact truthy_none ⟨H,I,q⟩
 | bl b=>
  cases rx
  have e':k=b:=e
  subst e'
  exact wpAny_truthy_bool ⟨H,I,q⟩
 | int i=>
  obtain ⟨t,rfl⟩:=rx
  have e':k=(i != 0):=e
  subst e'
  exact PySem.P.truthy_int ⟨H,I,q⟩
 | str y=>
  obtain ⟨t,rfl⟩:=rx
  obtain ⟨hy,e'⟩:y.length<=sizeLine/\k=((y.length:Int) != 0):=e
  subst e'
  exact PySem.P.truthy_str (by omega) ⟨H,I.tok _,q⟩
 | byt y=>
  obtain ⟨t,rfl⟩:=rx
  obtain ⟨hy,e'⟩:y.size<=sizeLine/\k=((y.size:Int) != 0):=e
  subst e'
  exact PySem.W.truthy_bytes (by omega) ⟨H,I.tok _,q⟩
 | ref p=>
  cases rx
  have e':(∃ xs,SqL X.K H p xs/\k=!xs.isEmpty)\/(∃ xs,SqT X.K H p xs/\k=!xs.isEmpty)\/∃ kvs,H p=some (.dK kvs)/\k=!kvs.isEmpty:=e
  rcases e' with ⟨xs,hx,e'⟩ | ⟨xs,hx,e'⟩ | ⟨kvs,hx,e'⟩
  ·subst e'
   obtain ⟨its,r,pl,hz⟩:=I.list hx
   have hlen:=r.length
   exact wpAny_truthy_list pl.isList (by simp only [List.size_toArray];omega) ⟨H,I.tok _,by rw [zcq r];exact q⟩
  ·subst e'
   obtain ⟨its,r,pl,hz⟩:=I.tuple hx
   have hlen:=r.length
   exact truthy_tuple pl (by simp only [List.size_toArray];omega) ⟨H,I.tok _,by rw [zcq r];exact q⟩
  ·subst e'
   obtain ⟨hz,hS,vs,r,m⟩:kvs.length<=sizeLine/\(p==sysModules)=false/\∃ vs,KV kvs vs/\s.heap.DictOf (zjl X.prog X.w) p vs:=I.hok p _ hx
   have hlen:kvs.length=vs.length:=Paired.length r
   exact wpAny_truthy_dict hS m (by omega) ⟨H,I.tok _,by rw [zhQ r];exact q⟩
 | _=>exact (show False from e).elim
theorem zlT (ha:PE X a ta) (he:∀ whole,isTrue a X.env whole=(do let v<-whole;standAt a.pos;holding [v] (truthy v))) :
  PT X a (λσ H Q=>ta σ H λx H'=>∃ k,TruV X.K x H' k/\Q k H'):=by
 intro pins s σ H Q I h
 exact isTrue_plain (thn (ha pins s σ H _ I h) λv s1 ⟨x,H1,I1,r1,q1⟩=>zpz pins s1 σ H1 x v Q I1 r1 q1) (he _)
theorem zim:OpR X (binaryOp .Add) (λx y H Q=>∃ i j,x=.str i/\y=.str j/\i.length+j.length<=sizeLine/\Q (.str (i++j)) H):=by
 intro pins s σ H x y v u Q I rx ry h
 obtain ⟨i,j,rfl,rfl,hz,q⟩:=h
 obtain ⟨t,rfl⟩:=rx
 obtain ⟨t',rfl⟩:=ry
 exact add_str (λt' tk=>⟨.str (i++j),H,I.tok _,⟨_,rfl⟩,q⟩) hz
theorem zkQ {x:V} {us:List Value} (r:Vals [x] us):∃ u,us=[u]/\RelV x u:=by
 cases r with
 | cons r1 r2=>cases r2;exact ⟨_,rfl,r1⟩
noncomputable def LenV (K:PySem.W.Frag) (x:V) (H:Hp) (n:Nat):Prop:=
 match x with
 | .str y=>y.length<=sizeLine/\n=y.length
 | .byt y=>y.size<=sizeLine/\n=y.size
 | .ref p=>(∃ xs,SqL K H p xs/\n=xs.length)\/∃ xs,SqT K H p xs/\n=xs.length
 | _=>False
theorem zfC:zdH X (.builtin "len") (λxs H Q=>∃ x n,xs=[x]/\LenV X.K x H n/\Q (.int n) H):=by
 intro pins s σ H xs us Q I r h
 obtain ⟨x,n,rfl,e,q⟩:=h
 obtain ⟨u,rfl,rx⟩:=zkQ r
 have hl:=zed
 have hs:sizeLine=16777216:=sizeLine_eq
 cases x with
 | str y=>
  obtain ⟨t,rfl⟩:=rx
  obtain ⟨hy,e'⟩:y.length<=sizeLine/\n=y.length:=e
  subst e'
  exact len_str (by omega) ⟨.int _,H,I.tok _,⟨_,rfl⟩,q⟩
 | byt y=>
  obtain ⟨t,rfl⟩:=rx
  obtain ⟨hy,e'⟩:y.size<=sizeLine/\n=y.size:=e
  subst e'
  exact PySem.W.len_bytes (by omega) ⟨.int _,H,I.tok _,⟨_,rfl⟩,q⟩
 | ref p=>
  cases rx
  have e':(∃ xs,SqL X.K H p xs/\n=xs.length)\/∃ xs,SqT X.K H p xs/\n=xs.length:=e
  rcases e' with ⟨xs,hx,e'⟩ | ⟨xs,hx,e'⟩
  ·subst e'
   obtain ⟨its,r',pl,hz⟩:=I.list hx
   have hlen:=r'.length
   exact Calls.call_len_list pl.isList (by simp only [List.size_toArray];omega) ⟨.int xs.length,H,I.tok _,⟨_,by simp only [List.size_toArray];rw [hlen]⟩,q⟩
  ·subst e'
   obtain ⟨its,r',pl,hz⟩:=I.tuple hx
   have hlen:=r'.length
   exact len_tuple pl (by simp only [List.size_toArray];omega) ⟨.int xs.length,H,I.tok _,⟨_,by simp only [List.size_toArray];rw [hlen]⟩,q⟩
 | _=>exact (show False from e).elim
end
end L2
namespace L2
open PySem PySem.Spec PyProof.Rows
structure ObjM (h:Heap) (x dx C:Addr) (mA:Str->Option Value):Prop where
 obj:h.get? x=some (PySem.W.instObj C dx)
 ns:h.Ns1 dx mA
 ne:dx≠x
theorem zi8 {h:Heap} {dx:Addr} {mA:Str->Option Value} (n:h.Ns1 dx mA):∃ od,h.get? dx=some od/\∀ name,PySem.W.lookIn name od=some (mA name):=by
 obtain ⟨o,es,ep,ho,hd,hk,_,hm⟩:=n
 refine ⟨o,ho,λname=>?_⟩
 have e:=hm name
 unfold nsFind findBy at e
 rw [<-Array.find?_toList] at e
 unfold PySem.W.lookIn
 rw [hd]
 dsimp only
 split
 ·rename_i y q
  rw [q] at e
  exact congrArg some e
 ·rename_i q
  rw [q] at e
  have a:es.toList.any (·.refKey)=false:=by
   rw [List.any_eq_false]
   intro y hy
   obtain ⟨z,t,hkey⟩:=hk y (Array.mem_toList_iff.mp hy)
   simp [DictEntry.refKey,hkey]
  have a':¬ es.toList.any (·.refKey)=true:=by rw [a];exact Bool.false_ne_true
  rw [if_neg a']
  exact congrArg some e
theorem ObjM.look {h:Heap} {x dx C:Addr} {mA:Str->Option Value} (I:ObjM h x dx C mA):∃ od,PySem.W.InstAt h x (PySem.W.instObj C dx) C (some od)/\∀ name,PySem.W.lookIn name od=some (mA name):=
 let ⟨od,ho,hl⟩:=zi8 I.ns
 ⟨od,⟨I.obj,rfl,rfl,ho⟩,hl⟩
section
variable {prog:Program} {w:World} {A:Around} {E:Value->Shared->Prop} {s:Shared} {K:PySem.W.Frag} {x dx C f:Addr} {mA:Str->Option Value} {name:Str} {v:Value}
theorem get_map {expr:Bool} {Q:Value->Shared->Prop} (X:K.In s.heap) (I:ObjM s.heap x dx C mA) (hg:PySem.W.plainGet K C name=true) (hh:PySem.W.hasDictIn K C=true)
  (ha:PySem.W.findIn K (.ref C) name=some none) (hv:mA name=some v) (hv':PySem.W.handedIn v=true) (h:Q v { s with toks:=s.toks+1 }) :
  wpAny (model prog w) A (getAttr (.ref x) name expr) Q E s:=by
 obtain ⟨od,J,hl⟩:=I.look
 exact PySem.W.get_value X J (PySem.W.plainGet_of hg).1 (PySem.W.findObj_own hh ha rfl (by rw [hl,hv])) hv' h
end
section
variable {P:Program} {w:World} {H H':Hp} {h h':Heap} {a C dx:Addr} {fs fs':List (Str×V)}
end
structure Cls (K:PySem.W.Frag) (C:Addr):Prop where
 pg:PySem.W.plainGet K C Str.empty=true
 hd:PySem.W.hasDictIn K C=true
 po:PySem.W.plainOver K C=true
 sa:PySem.W.findIn K (.ref C) "__setattr__"=some (some (.builtin "object.__setattr__"))
theorem Cls.get {K:PySem.W.Frag} {C:Addr} (c:Cls K C) (f:Str):PySem.W.plainGet K C f=true:=c.pg
noncomputable def zka (K:PySem.W.Frag) (C:Addr) (f:Str):Prop:=PySem.W.findIn K (.ref C) f=some none
structure Con (K:PySem.W.Frag) (C:Addr) (f:Str) (v:V) (u:Value):Prop where
 at_:PySem.W.findIn K (.ref C) f=some (some u)
 rel:RelV v u
 get:PySem.W.specialIn K u "__get__"=some none
 cp:PySem.W.copiedNames.contains f=false
structure Meth (K:PySem.W.Frag) (C:Addr) (m:Str) (f:Addr):Prop where
 at_:PySem.W.findIn K (.ref C) m=some (some (.ref f))
 fn:PySem.W.isFn K (.ref f)=true
 kp:PySem.W.keepIn K (.ref f)=true
section
variable {X:Cx} {pins:List (Addr×Obj)} {σ:St} {H:Hp} {s:Shared} {a C dx:Addr} {fs:List (Str×V)} {f:Str} {v:V} {A:Around} {E:Value->Shared->Prop}
theorem Inv.made (I:Inv X pins σ H s):Inv X pins σ (upd (upd H s.heap.objs.size (.own (s.heap.objs.size+1))) (s.heap.objs.size+1) (.ins C s.heap.objs.size []))
  { s with heap:=(s.heap.push PySem.W.emptyDict).push (PySem.W.instObj C s.heap.objs.size) }:=by
 have e1:(s.heap.push PySem.W.emptyDict).get? s.heap.objs.size=some PySem.W.emptyDict:=Heap.get?_push_size s.heap rfl
 have e2:((s.heap.push PySem.W.emptyDict).push (PySem.W.instObj C s.heap.objs.size)).get? (s.heap.objs.size+1)=some (PySem.W.instObj C s.heap.objs.size):=by
  have:=Heap.get?_push_size (s.heap.push PySem.W.emptyDict) (o:=PySem.W.instObj C s.heap.objs.size) rfl
  rwa [Heap.size_push] at this
 have e3:(s.heap.push PySem.W.emptyDict).Ns s.heap.objs.size (λ_=>none):=⟨PySem.W.emptyDict,#[],_,e1,rfl,(λe he=>absurd he (by simp)),λ_=>rfl⟩
 have I1:=I.laid (a:=s.heap.objs.size) (o:=.own (s.heap.objs.size+1)) (h':=s.heap.push PySem.W.emptyDict) (t':=s.toks) (λb u q=>Heap.get?_push_of_some _ q) (Nat.le_refl _) ⟨_,e1⟩
 refine I1.laid (a:=s.heap.objs.size+1) (o:=.ins C s.heap.objs.size []) (t':=s.toks) (λb u q=>Heap.get?_push_of_some _ q) (Nat.le_of_eq (Heap.size_push _ _)) ?_
 have ne:s.heap.objs.size≠s.heap.objs.size+1:=Nat.ne_of_lt (Nat.lt_succ_self _)
 refine ⟨by rw [zaF ne,zaD],Nat.zero_le _,ne,e2,λ_=>none,(Heap.Ns1.of_empty e3).at λo q=>Heap.get?_push_of_some _ q,λ_=>True.intro,λy hy=>absurd rfl hy⟩
end
section
variable {X:Cx} {o e value:Expr} {f:Str} {pos pos' tpos:Pos} {ta tv:TE}
end
section
variable {X:Cx} {pins:List (Addr×Obj)} {σ:St} {H:Hp} {s:Shared} {A:Around} {E:Value->Shared->Prop} {Q:Value->Shared->Prop} {c:Value} {b:Bool}
inductive TyOf (K:PySem.W.Frag) (H:Hp):V->Value->Prop where
 | non:TyOf K H .non (.type "NoneType")
 | bl (x:Bool):TyOf K H (.bl x) (.type "bool")
 | int (i:Int):TyOf K H (.int i) (.type "int")
 | str (x:Str):TyOf K H (.str x) (.type "str")
 | flt (x:UInt64):TyOf K H (.flt x) (.type "float")
 | lst {a:Addr} {xs:List V} (e:H a=some (.lst xs)):TyOf K H (.ref a) (.type "list")
 | frz {a:Addr} {o:Obj} {xs:List V} (e:H a=some (.frz o (.lst xs))):TyOf K H (.ref a) (.type "list")
 | tup {a:Addr} {xs:List V} (e:H a=some (.tup xs)):TyOf K H (.ref a) (.type "tuple")
 | dK {a:Addr} {kvs:List (Key×V)} (e:H a=some (.dK kvs)):TyOf K H (.ref a) (.type "dict")
 | dT {a:Addr} {kvs:List (IT.D×Addr×V)} (e:H a=some (.dT kvs)):TyOf K H (.ref a) (.type "dict")
 | ins {a C dx:Addr} {fs:List (Str×V)} (e:H a=some (.ins C dx fs)) (cl:Cls K C) (ha:PySem.W.findIn K (.ref C) "__class__"=some (some (.builtin "object.__class__")))
   (hn:PySem.W.specialIn K (.builtin "object.__class__") "__get__"=some (some (.builtin "getset_descriptor.__get__"))) (htk:PySem.W.takesIn K (.builtin "object.__class__")=some true)
   (hm:PySem.W.mroIn K C (.type "object")=some true):TyOf K H (.ref a) (.ref C)
end
end L2
namespace L2
open PySem PySem.Spec PyProof.Rows
structure Room (k:Nat) (A:Around):Prop where
 hd:A.handled=none
 dp:A.depth+3*k+5<recursionLimit
 un:A.units+16*k+200<cLine
theorem Room.mono {j k:Nat} {A:Around} (r:Room k A) (h:j<=k):Room j A:=⟨r.hd,by have:=r.dp;omega,by have:=r.un;omega⟩
theorem Room.deeper {k:Nat} {A:Around} (r:Room (k+1) A) (env:Env):Room k (A.deeper env):=
 ⟨r.hd,by have:=r.dp;show A.depth+1+3*k+5<_;omega,by have:=r.un;show A.units+3+16*k+200<_;omega⟩
theorem Room.in1 {k:Nat} {A:Around} (r:Room (k+1) A):Room k A.in1:=
 ⟨r.hd,by have:=r.dp;show A.depth+3*k+5<_;omega,by have:=r.un;show A.units+1+16*k+200<_;omega⟩
theorem Room.depth {k:Nat} {A:Around} (r:Room k A):A.depth<recursionLimit:=by have:=r.dp;omega
theorem Room.units {k:Nat} {A:Around} (r:Room k A):A.units+64<cLine:=by have:=r.un;omega
noncomputable def tNil:TA:=λ_ H Q=>Q [] H
noncomputable def zrq (ta:TE) (tr:TA):TA:=λσ H Q=>ta σ H λx H1=>tr σ H1 λxs H2=>Q (x::xs) H2
section
variable {X:Cx} {e:Expr} {es:List Expr} {te:TE} {t:TA} {pos:Pos}
theorem zc9:PA X [] tNil:=λ_ _ _ _ H Q I h=>Calls.spliced_nil ⟨[],H,I,.nil,h⟩
theorem zby (ha:PE X e te) (hr:PA X es t) (hs:starEach (e::es) X.env=(false,eval e X.env)::starEach es X.env:=by rfl):PA X (e::es) (zrq te t):=by
 intro pos pins s σ H Q I h
 rw [hs]
 show wpAny _ _ (spliced ((false,eval e X.env)::backTo pos (starEach es X.env))) _ _ s
 refine Calls.spliced_cons (thn (ha pins s σ H _ I h) λu s1 ⟨x,H1,I1,r1,q1⟩=>?_)
 exact thn (hr pos pins s1 σ H1 _ I1 q1) λus s2 ⟨xs,H2,I2,r2,q2⟩=>⟨x::xs,H2,I2,.cons r1 r2,q2⟩
noncomputable def tTup (t:TA):TE:=λσ H Q=>t σ H λxs H1=>xs.length<=sizeLine/\∀ p,H1 p=none->Q (.ref p) (upd H1 p (.tup xs))
noncomputable def tLst (t:TA):TE:=λσ H Q=>t σ H λxs H1=>xs.length<=sizeLine/\∀ p,H1 p=none->Q (.ref p) (upd H1 p (.lst xs))
theorem zpB {x1} (h:PA X es t):PE X (.Tuple es x1 pos) (tTup t):=by
 intro pins s σ H Q I hq
 refine wpAny_Tuple_spliced (thn (h pos pins s σ H _ I hq) λus s1 ⟨xs,H1,I1,r,z,q⟩=>⟨by rw [<-r.length];exact z,?_⟩)
 have hf:H1 s1.heap.objs.size=none:=I1.hok.fresh (Nat.le_refl _)
 refine ⟨.ref s1.heap.objs.size,upd H1 s1.heap.objs.size (.tup xs),I1.laid (t':=s1.toks) (λb u e=>Heap.get?_push_of_some _ e) (Nat.le_refl _) ?_,rfl,q _ hf⟩
 exact ⟨z,us,r,zb8.new _ _⟩
theorem zp0 (h:PA X es t):PE X (.List es pos) (tLst t):=by
 intro pins s σ H Q I hq
 refine wpAny_List_spliced (thn (h pos pins s σ H _ I hq) λus s1 ⟨xs,H1,I1,r,z,q⟩=>⟨by rw [<-r.length];exact z,?_⟩)
 have hf:H1 s1.heap.objs.size=none:=I1.hok.fresh (Nat.le_refl _)
 refine ⟨.ref s1.heap.objs.size,upd H1 s1.heap.objs.size (.lst xs),I1.laid (t':=s1.toks) (λb u e=>Heap.get?_push_of_some _ e) (Nat.le_refl _) ?_,rfl,q _ hf⟩
 exact ⟨z,us,0,r,Heap.get?_push_size _ rfl⟩
end
noncomputable abbrev Sp:=List V->Hp->VK->XK->Prop
noncomputable abbrev CXT:=List Env->Hp->Shared->XK->Value->Shared->Prop
structure Env0 (P:Program) (w:World) (K:PySem.W.Frag) (mg:Str->Option Value) (base:Heap) (A:Around) (outer:List Env) (s:Shared) (H:Hp):Prop where
 frames:A.frames=some outer
 mod:Mod K mg base
 bs:∀ b o,base.get? b=some o->s.heap.get? b=some o/\H b=none
 bsz:base.objs.size<=s.heap.objs.size
 funs:s.heap.FunFrames base outer
 frf:∀ b∈frs outer,H b=none
 hok:HOk P w H s.heap
 bare:AllBare s.gens
noncomputable def CE (outer:List Env) (P:Program) (w:World) (H:Hp) (s:Shared) (Q:VK) (u:Value) (s':Shared):Prop:=
 ∃ v H',s'.os=s.os/\AllBare s'.gens/\Un (frs outer) [] H H' s.heap s'.heap/\HOk P w H' s'.heap/\RelV v u/\Q v H'
noncomputable def CR (CX:CXT) (outer:List Env) (P:Program) (w:World) (H:Hp) (s:Shared) (Q:VK) (E:XK) (r:Result) (s':Shared):Prop:=
 match r with
 | .ok (.ret u)=>CE outer P w H s Q u s'
 | .ok _=>False
 | .error e=>CX outer H s E e s'
structure FnOk (P:Program) (w:World) (K:PySem.W.Frag) (mg:Str->Option Value) (base:Heap) (CX:CXT) (k:Nat) (f:Addr) (fd:FuncData) (ps:List Str) (sp:Sp):Prop where
 len:∀ vs H Q E,sp vs H Q E->vs.length=ps.length
 run:∀ (A:Around) (outer:List Env) (s:Shared) (H:Hp) (args:Args) (us:List Value) (vs:List V) (Q:VK) (E:XK),Room k A->Env0 P w K mg base A outer s H->BindsTo s fd args (ps.zip us)->Vals vs us->sp vs H Q E →
  codeAny (model P w) A (.call (.ref f) args) (CR CX outer P w H s Q E) s
theorem FnOk.mono {P:Program} {w:World} {K:PySem.W.Frag} {mg:Str->Option Value} {base:Heap} {CX:CXT} {j k:Nat} {f:Addr} {fd:FuncData} {ps:List Str} {sp:Sp} (F:FnOk P w K mg base CX j f fd ps sp) (h:j<=k) :
  FnOk P w K mg base CX k f fd ps sp:=⟨F.len,λA outer s H args us vs Q E hr=>F.run A outer s H args us vs Q E (hr.mono h)⟩
theorem FnOk.imp {P:Program} {w:World} {K:PySem.W.Frag} {mg:Str->Option Value} {base:Heap} {CX:CXT} {k:Nat} {f:Addr} {fd:FuncData} {ps:List Str} {sp sp':Sp} (F:FnOk P w K mg base CX k f fd ps sp)
  (h:∀ vs H Q E,sp' vs H Q E->sp vs H Q E):FnOk P w K mg base CX k f fd ps sp':=
 ⟨λvs H Q E q=>F.len vs H Q E (h _ _ _ _ q),λA outer s H args us vs Q E hr he hb hv hs=>F.run A outer s H args us vs Q E hr he hb hv (h _ _ _ _ hs)⟩
theorem Env0.in1 {P:Program} {w:World} {K:PySem.W.Frag} {mg:Str->Option Value} {base:Heap} {A:Around} {outer:List Env} {s:Shared} {H:Hp} (e:Env0 P w K mg base A outer s H) :
  Env0 P w K mg base A.in1 outer s H:=⟨e.frames,e.mod,e.bs,e.bsz,e.funs,e.frf,e.hok,e.bare⟩
section
variable {X:Cx} {pins:List (Addr×Obj)} {σ:St} {H:Hp} {s s':Shared}
theorem Inv.env0 (I:Inv X pins σ H s):Env0 X.prog X.w X.K X.mg X.base X.A X.stack s H:=
 ⟨I.ok.frames,I.ok.mod,I.bs,Nat.le_trans I.ok.bsz I.sz,I.stack,I.stkFree,I.hok,I.bare⟩
theorem Inv.after {Q:VK} {u:Value} (I:Inv X pins σ H s) (h:CE X.stack X.prog X.w H s Q u s'):EP X pins σ Q u s':=by
 obtain ⟨v,H',os,bare,un,hok,r,q⟩:=h
 obtain ⟨hh,g,d,t,os'⟩:=s'
 obtain rfl:os'=s.os:=os
 exact ⟨v,H',I.call (h':=hh) (g':=g) (d':=d) (t':=t) (ch:=[]) un hok bare (λb z=>absurd z (by simp)),r,q⟩
end
noncomputable def zrG (sp:Sp) (dvs:List V) (E:XK) (t:TA):TE:=λσ H Q=>t σ H λvs H1=>sp (vs++dvs) H1 Q E
noncomputable def zaV (K:PySem.W.Frag) (fd:FuncData) (ps:List Str) (ds:List Value):Prop:=
 ∀ (s:Shared) (us:List Value),K.In s.heap->(us++ds).length=ps.length->BindsTo s fd ⟨us,[]⟩ (ps.zip (us++ds))
theorem zaV.all {K:PySem.W.Frag} {fd:FuncData} {ps:List Str} (h:∀ us:List Value,us.length=ps.length->bindArgs fd ⟨us,[]⟩=pure (ps.zip us)):zaV K fd ps []:=λs us _ hl=>by
 rw [List.append_nil] at hl ⊢
 exact .of_eq (h us hl)
noncomputable def zkz (CX:CXT) (X:Cx) (E:XK):Prop:=∀ (pins:List (Addr×Obj)) (σ:St) (H:Hp) (s:Shared) (e:Value) (s':Shared),Inv X pins σ H s->CX X.stack H s E e s'->X.xe e s'
section
variable {X:Cx} {CX:CXT} {k:Nat} {f C:Addr} {fd:FuncData} {ps:List Str} {sp:Sp} {dvs:List V} {ds:List Value} {E:XK} {x m:Str} {p pos apos:Pos} {e o:Expr} {es:List Expr} {ta:TE} {t:TA}
theorem zoZ {pins:List (Addr×Obj)} {σ:St} {H:Hp} {s:Shared} {Q:VK} {us:List Value} {vs:List V} (F:FnOk X.prog X.w X.K X.mg X.base CX k f fd ps sp) (hr:Room k X.A) (hb:zaV X.K fd ps ds) (hd:Vals dvs ds) (hx:zkz CX X E)
  (I:Inv X pins σ H s) (r:Vals vs us) (h:sp (vs++dvs) H Q E):wpAny (model X.prog X.w) X.A (call (.ref f) us) (EP X pins σ Q) X.xe s:=by
 have r2:Vals (vs++dvs) (us++ds):=r.append hd
 have hl:(us++ds).length=ps.length:=by rw [<-r2.length];exact F.len _ _ _ _ h
 refine wpAny_call (codeAny_mono (F.run X.A X.stack s H ⟨us,[]⟩ (us++ds) (vs++dvs) Q E hr I.env0 (hb s us I.kIn hl) r2 h) λr s' hq=>?_)
 cases r with
 | error e=>exact hx pins σ H s e s' I hq
 | ok fl=>
  cases fl with
  | ret u=>exact I.after hq
  | next=>exact False.elim hq
  | brk=>exact False.elim hq
  | cont=>exact False.elim hq
theorem zjY (F:FnOk X.prog X.w X.K X.mg X.base CX k f fd ps sp) (hr:Room k X.A) (hg:Gl X x) (hm:X.mg x=some (.ref f)) (hk:PySem.W.keepIn X.K (.ref f)=true) (hb:zaV X.K fd ps ds) (hd:Vals dvs ds) (hx:zkz CX X E)
  (ha:PA X (e::es) t) (hdb:(x==("__debug__":Str))=false:=by decide) (he:starEach (e::es) X.env=(false,eval e X.env)::starEach es X.env:=by rfl) (hpl:(backTo pos (starEach es X.env)).any (·.1)=false:=by rfl) :
  PE X (.Call (.Name x p) (e::es) [] pos) (zrG sp dvs E t):=by
 intro pins s σ H Q I h
 refine wpAny_Call_Name_kw (zj0 I hg hm ?_ hdb)
 refine PySem.W.callWith_K (h₀:=X.base) I.ok.mod.kin hk (thn (ha pos pins s σ H _ I h) λus s1 ⟨vs,H1,I1,r,q⟩=>⟨I1.kIn,?_⟩) he hpl
 exact zoZ F hr hb hd hx I1 r q
structure Mk (K:PySem.W.Frag) (C f:Addr):Prop where
 makes:PySem.W.makesIn K C=true
 init:PySem.W.findIn K (.ref C) "__init__"=some (some (.ref f))
 fn:PySem.W.isFn K (.ref f)=true
 kp:PySem.W.keepIn K (.ref C)=true
end
section
variable {X:Cx} {CX:CXT} {k:Nat} {f C:Addr} {fd:FuncData} {ps ks:List Str} {sp:Sp} {E:XK} {x m:Str} {p pos apos kpos:Pos} {e o:Expr} {es:List Expr} {kws:List Keyword} {te ta:TE} {t tk:TA} {nm:Option Str}
structure zr4 (K:PySem.W.Frag) (fd:FuncData) (ps ks:List Str) (g:List Value->List Value->List Value) (gV:List V->List V->List V):Prop where
 to:∀ (s:Shared) (us ws:List Value),K.In s.heap->(g us ws).length=ps.length->BindsTo s fd ⟨us,ks.zip ws⟩ (ps.zip (g us ws))
 rel:∀ {vs:List V} {us:List Value} {zs:List V} {ws:List Value},Vals vs us->Vals zs ws->Vals (gV vs zs) (g us ws)
variable {g:List Value->List Value->List Value} {gV:List V->List V->List V}
end
structure zam (N P:List Str) (sc:Scope):Prop where
 kind:sc.kind=.function
 co:sc.isCoroutine=false
 gen:sc.isGenerator=false
 nd:N.Nodup
 pre:N.take P.length=P
 par:∀ x∈P,sc.names.lookup x=some .local\/sc.names.lookup x=some .cell
 nofree:∀ y∈sc.names,y.2≠.free
theorem zfJ {kindOf:Str->Option NameKind} {x:Str}:∀ {binds:List (Str×Value)} {m:Str->Option Value},(∀ v,(x,v) ∉ binds)->bindL kindOf binds m x=m x
  | [],_,_=>rfl
  | (n, v)::r,m,h=>by
    unfold bindL
    rw [zfJ λw hw=>h w (List.mem_cons_of_mem _ hw)]
    split
    · have:x≠n:=by rintro rfl;exact h v List.mem_cons_self
      simp [this]
    · rfl
theorem zgA {kindOf:Str->Option NameKind} {x:Str}:∀ {binds:List (Str×Value)} {m:Str->Option Value},(∀ v,(x,v) ∉ binds)->bindC kindOf binds m x=m x
  | [],_,_=>rfl
  | (n, v)::r,m,h=>by
    unfold bindC
    rw [zgA λw hw=>h w (List.mem_cons_of_mem _ hw)]
    split
    · rfl
    · have:x≠n:=by rintro rfl;exact h v List.mem_cons_self
      simp [this]
theorem zf0 {kindOf:Str->Option NameKind} {x:Str} {v:Value}:∀ {P:List Str} {vs:List Value} {i:Nat} {m:Str->Option Value},P.Nodup->P[i]?=some x->vs[i]?=some v->kindOf x=some .local →
  bindL kindOf (P.zip vs) m x=some v
 | [],_,_,_,_,h,_,_=>by simp at h
 | _::_,[],_,_,_,_,h,_=>by simp at h
 | p::P,w::vs,0,m,nd,h1,h2,hk=>by
  simp at h1 h2;subst h1;subst h2
  show bindL kindOf ((p,w)::P.zip vs) m p=_
  unfold bindL
  rw [zfJ λv hv=>(List.nodup_cons.mp nd).1 (List.of_mem_zip hv).1,if_pos hk]
  simp
 | p::P,w::vs,i+1,m,nd,h1,h2,hk=>by
  show bindL kindOf ((p,w)::P.zip vs) m x=_
  unfold bindL
  exact zf0 (i:=i) (List.nodup_cons.mp nd).2 (by simpa using h1) (by simpa using h2) hk
theorem zf8 {kindOf:Str->Option NameKind} {x:Str} {v:Value}:∀ {P:List Str} {vs:List Value} {i:Nat} {m:Str->Option Value},P.Nodup->P[i]?=some x->vs[i]?=some v->kindOf x≠some .local →
  bindC kindOf (P.zip vs) m x=some v
 | [],_,_,_,_,h,_,_=>by simp at h
 | _::_,[],_,_,_,_,h,_=>by simp at h
 | p::P,w::vs,0,m,nd,h1,h2,hk=>by
  simp at h1 h2;subst h1;subst h2
  show bindC kindOf ((p,w)::P.zip vs) m p=_
  unfold bindC
  rw [zgA λv hv=>(List.nodup_cons.mp nd).1 (List.of_mem_zip hv).1,if_neg hk]
  simp
 | p::P,w::vs,i+1,m,nd,h1,h2,hk=>by
  show bindC kindOf ((p,w)::P.zip vs) m x=_
  unfold bindC
  exact zf8 (i:=i) (List.nodup_cons.mp nd).2 (by simpa using h1) (by simpa using h2) hk
noncomputable def start (N:List Str) (vs:List V):St:=vs.map some++List.replicate (N.length-vs.length) none
noncomputable def cxOf (CX:CXT) (P:Program) (w:World) (K:PySem.W.Frag) (mg:Str->Option Value) (base:Heap) (N:List Str) (qual:Str) (scope:Scope) (f:Addr) (cd:Value) (A:Around) (outer:List Env) (s:Shared) (H:Hp) (E:XK):Cx where
 prog:=P
 w:=w
 K:=K
 mg:=mg
 base:=base
 A:=A.deeper (envOfC qual scope s.heap.objs.size f cd)
 N:=N
 s₀:=s
 H₀:=H
 env:=envOfC qual scope s.heap.objs.size f cd
 outer:=outer
 stack:=envOfC qual scope s.heap.objs.size f cd::outer
 ex:=[]
 calm:=true
 fn:=λ_=>true
 pn:=[]
 xe:=λe s'=>wpAny (model P w) (A.deeper (envOfC qual scope s.heap.objs.size f cd)) (leaving (envOfC qual scope s.heap.objs.size f cd) e) (λ_ s''=>CX outer H s E e s'') (λe' s''=>CX outer H s E e' s'') s'
theorem zhj {sc:Scope} {n:Nat} {x:Str} (h:sc.names.lookup x=some .cell):∃ c,(cellsFrom n sc.names []).lookup x=some c:=by
 have q:=PySem.W.cellsFrom_some sc.names n [] (.inl h)
 exact Option.isSome_iff_exists.mp q
theorem zkt {CX:CXT} {P:Program} {w:World} {K:PySem.W.Frag} {mg:Str->Option Value} {base:Heap} {N ps:List Str} {qual:Str} {scope:Scope} {f:Addr} {cd:Value} {A:Around} {outer:List Env} {s s1:Shared} {H:Hp} {E:XK} {us:List Value} {vs:List V}
  (S:zam N ps scope) (hd:A.handled=none) (e0:Env0 P w K mg base A outer s H) (hl:vs.length=ps.length) (r:Vals vs us)
  (x:InCallC s s.heap.objs.size (bindL (envOfC qual scope s.heap.objs.size f cd).kindOf (ps.zip us) λ_=>none) (cellsFrom (s.heap.objs.size+1) scope.names []) (bindC (envOfC qual scope s.heap.objs.size f cd).kindOf (ps.zip us) λ_=>none) s1) :
  Inv (cxOf CX P w K mg base N qual scope f cd A outer s H E) [] (start N vs) H s1:=by
 have hpl:ps.length<=N.length:=by have:=congrArg List.length S.pre;rw [List.length_take] at this;omega
 obtain ⟨h1,tk,rfl,hk⟩:=x.done
 have noA:∀ b:Addr,b ∉ (cxOf CX P w K mg base N qual scope f cd A outer s H E).ex:=λb z=>absurd (show b∈([]:List Addr) from z) (by simp)
 refine ⟨⟨e0.mod,S.kind,rfl,rfl,Nat.le_refl _,λy z c h1 h2=>?_,λy hy=>?_,λy c _ h=>?_,λ_=>hd,Around.frames_deeper e0.frames,.inr ⟨rfl,rfl⟩,λb z=>absurd z (noA b),e0.bs,e0.bsz,λb _ _=>noA b,λb z=>absurd z (noA b),e0.funs,e0.frf⟩,
  rfl,e0.bare,Un.kept hk,⟨_,x.toInCall.ns,λi y v h1 h2 h3=>?_⟩,λy c h=>⟨_,x.cell y c h⟩,e0.hok.fresh (Nat.le_refl _),λy c h=>?_,λp hp=>absurd (show p∈([]:List (Addr×Obj)) from hp) (by simp),e0.hok.kept hk,?_⟩
 ·exact name_of_addr x.apart (PySem.mem_of_lookup h1) (PySem.mem_of_lookup h2)
 ·have hy:scope.names.lookup y=some .cell\/scope.names.lookup y=some .free:=hy
  rcases hy with hy | hy
  ·exact zhj hy
  ·exact absurd rfl (S.nofree _ (PySem.mem_of_lookup hy))
 ·exact Nat.le_of_lt (x.above y c (PySem.mem_of_lookup h))
 ·have hi:i<vs.length:=by
   unfold start at h2
   by_cases hi:i<vs.length
   ·exact hi
   ·rw [List.getElem?_append_right (by simpa using hi)] at h2
    rw [List.getElem?_replicate] at h2
    split at h2<;>cases h2
  have ha:vs[i]?=some v:=by
   unfold start at h2
   rw [List.getElem?_append_left (by simpa using hi),List.getElem?_map] at h2
   cases e:vs[i]? with
   | none=>rw [e] at h2;cases h2
   | some a=>rw [e] at h2;cases h2;rfl
  obtain ⟨u,hu,rv⟩:=r.get ha
  have hp:ps[i]?=some y:=by
   rw [<-S.pre,List.getElem?_take_of_lt (by omega)];exact h1
  have ndP:ps.Nodup:=by rw [<-S.pre];exact S.nd.sublist (List.take_sublist _ _)
  refine ⟨u,rv,?_⟩
  rcases S.par y (List.mem_of_getElem? hp) with k | k
  ·exact .inl ⟨k,zf0 ndP hp hu k⟩
  ·obtain ⟨c,e⟩:=zhj (n:=s.heap.objs.size+1) k
   refine .inr ⟨.inl k,c,e,?_⟩
   have q:=x.cell y c e
   rw [zf8 ndP hp hu (by show scope.names.lookup y≠_;rw [k];decide)] at q
   exact q
 ·exact e0.hok.fresh (Nat.le_of_lt (x.above y c (PySem.mem_of_lookup h)))
 ·unfold start
  show _=N.length
  rw [List.length_append,List.length_map,List.length_replicate]
  omega
theorem zoD {CX:CXT} {P:Program} {w:World} {K:PySem.W.Frag} {mg:Str->Option Value} {base:Heap} {k:Nat} {f:Addr} {name qual:Str} {params:Arguments} {body:List Stmt} {scope:Scope} {dV kV doc pm cdv ct oc:Value} {an od:Option Addr}
  {osl:Array (Option Value)} {N ps:List Str} {sp:Sp} (lk:K.lookup f=some ⟨oc,od,.func (PySem.W.fnOf name qual params body scope dV kV doc pm an cdv ct),osl⟩) (hcd:PySem.W.codeIn K cdv qual=true) (S:zam N ps scope)
  (len:∀ vs H Q E,sp vs H Q E->vs.length=ps.length)
  (hbody:∀ (A:Around) (outer:List Env) (s:Shared) (H:Hp) (vs:List V) (Q:VK) (E:XK),Room k (A.deeper (envOfC qual scope s.heap.objs.size f cdv))->sp vs H Q E →
   ∃ t,PSs (cxOf CX P w K mg base N qual scope f cdv A outer s H E) body t/\t { nx:=λ_ H'=>Q .non H',rt:=Q } (start N vs) H) :
  FnOk P w K mg base CX (k+1) f (PySem.W.fnOf name qual params body scope dV kV doc pm an cdv ct) ps sp:=by
 refine ⟨len,λA outer s H args us vs Q E hr e0 hb r hsp=>?_⟩
 have hl:=len _ _ _ _ hsp
 have KX:K.In s.heap:=e0.mod.kin.keeps λb o e=>(e0.bs b o e).1
 have lim:s.heap.NoLimit:=e0.mod.nolimit.keeps λb o e=>(e0.bs b o e).1
 have hkind:∀ y∈ps.zip us,scope.names.lookup y.1=some .local\/(scope.names.lookup y.1=some .cell/\((cellsFrom (s.heap.objs.size+1) scope.names []).lookup y.1).isSome=true):=λ⟨n,v⟩ hy=>by
  rcases S.par n (List.of_mem_zip hy).1 with q | q
  ·exact .inl q
  ·exact .inr ⟨q,PySem.W.cellsFrom_some _ _ _ (.inl q)⟩
 refine codeAny_call_function hr.depth (KX _ _ lk) rfl S.co S.gen rfl (PySem.W.codeRec_of KX hcd) (hb _ _ _ _ ?_)
 refine wpAny_newFunctionEnv_cells S.kind hkind λenv he s1 x=>?_
 subst he
 refine ⟨lim.keeps x.toInCall.keep,codeAny_func ?_⟩
 obtain ⟨t,ht,hq⟩:=hbody A outer s H vs Q E (hr.deeper _) hsp
 have I:Inv (cxOf CX P w K mg base N qual scope f cdv A outer s H E) [] (start N vs) H s1:=zkt S hr.hd e0 hl r x
 refine wpAny_mono (ht [] s1 (start N vs) H _ I hq) (λfl s' hs=>?_) λe s' hs=>hs
 have fin:∀ {σ':St} {H':Hp} {v:V} {u:Value},Inv (cxOf CX P w K mg base N qual scope f cdv A outer s H E) [] σ' H' s'->RelV v u->Q v H'->CE outer P w H s Q u s':=
  fun {σ' H' v u} J rv q=>⟨v,H',J.os,J.bare,J.base,J.hok,rv,q⟩
 cases fl with
 | ret u=>
  obtain ⟨v,σ',H',J,rv,q⟩:=hs
  exact fin J rv q
 | next=>
  obtain ⟨σ',H',J,q⟩:=hs
  exact fin (v:=V.non) (u:=Value.none) J rfl q
 | brk=>
  obtain ⟨_,_,_,q⟩:=hs
  exact False.elim q
 | cont=>
  obtain ⟨_,_,_,q⟩:=hs
  exact False.elim q
end L2
namespace L2
open PySem PySem.Spec PyProof.Rows
section
variable {X:Cx} {x:Str} {p pos:Pos} {e:Expr} {es:List Expr} {t:TA} {id T:String} {r:List V->Hp->VK->Prop}
noncomputable def tCB (r:List V->Hp->VK->Prop) (t:TA):TE:=λσ H Q=>t σ H λvs H1=>r vs H1 Q
theorem zcR (hc:zdH X (.builtin id) r) (hg:Gl X x) (hm:X.mg x=none) (hv:bootBuiltins x=some (.builtin id)) (ha:PA X (e::es) t) (hn:x ≠ "__name__":=by decide) (hdb:(x==("__debug__":Str))=false:=by decide)
  (he:starEach (e::es) X.env=(false,eval e X.env)::starEach es X.env:=by rfl) (hpl:(backTo pos (starEach es X.env)).any (·.1)=false:=by rfl):PE X (.Call (.Name x p) (e::es) [] pos) (tCB r t):=by
 intro pins s σ H Q I h
 refine wpAny_Call_Name_kw (zfQ I hg hm hv ?_ hn hdb)
 exact PyProof.Rows.callWith_builtin1 (thn (ha pos pins s σ H _ I h) λus s1 ⟨vs,H1,I1,r1,q1⟩=>hc pins s1 σ H1 vs us Q I1 r1 q1) he hpl
theorem zgk (hc:zdH X (.type T) r) (hg:Gl X x) (hm:X.mg x=none) (hv:bootBuiltins x=some (.type T)) (ha:PA X (e::es) t) (hn:x ≠ "__name__":=by decide) (hdb:(x==("__debug__":Str))=false:=by decide)
  (he:starEach (e::es) X.env=(false,eval e X.env)::starEach es X.env:=by rfl) (hpl:(backTo pos (starEach es X.env)).any (·.1)=false:=by rfl):PE X (.Call (.Name x p) (e::es) [] pos) (tCB r t):=by
 intro pins s σ H Q I h
 refine wpAny_Call_Name_kw (zfQ I hg hm hv ?_ hn hdb)
 exact PyProof.Rows.callWith_type1 (thn (ha pos pins s σ H _ I h) λus s1 ⟨vs,H1,I1,r1,q1⟩=>hc pins s1 σ H1 vs us Q I1 r1 q1) he hpl
end
end L2
namespace HT
open PySem PyProof.Rows
section
open PySem.SeqAt
open PySem.AutoSeq1 (wpAny_loadPart')
open PySem.MeetsSeq PySem.MeetsSeq2 PySem.MeetsSeq3
end
section
variable {prog:Program} {w:World} {A:Around} {E:Value->Shared->Prop} {s:Shared}
theorem cat_tup {t b:Addr} {vs ws:List Value} {Q:Value->Shared->Prop} (ht:IsTup s.heap t vs.toArray) (hb:IsTup s.heap b ws.toArray) (hv:vs≠[])
  (h1:ws=[]->Q (.ref t) s) (h2:ws≠[]->Q (.ref s.heap.objs.size) { s with heap:=s.heap.push { cls:=.type "tuple",data:=.seq (vs++ws).toArray } })
  (hsz:vs.length+ws.length<=sizeLine):wpAny (model prog w) A (binaryOp .Add (.ref t) (.ref b)) Q E s:=by
 obtain ⟨⟨cls,dd,data,sl⟩,ho,hc,n,hd⟩:=id ht
 obtain ⟨⟨cls2,dd2,data2,sl2⟩,ho2,hc2,n2,hd2⟩:=id hb
 simp only at hc hd hc2 hd2
 subst hc hd hc2 hd2
 have e:vs.toArray++ws.toArray=(vs++ws).toArray:=by simp
 by_cases hw:ws=[]
 ·exact concat_meets ⟨_,ho,rfl⟩ ⟨_,ho2,rfl⟩ noFill_tuple_add seq_tuple_add PySem.F.slot_tuple_add PySem.F.entry_tuple_add (PySem.F.args_tuple_add_2 _ _)
   (tuple_addW1 t b vs.toArray ws.toArray n n2 dd dd2 sl sl2 (by simpa using hv) (by simp [hw])) ⟨ho,ho2,h1 hw⟩
 ·refine concat_meets ⟨_,ho,rfl⟩ ⟨_,ho2,rfl⟩ noFill_tuple_add seq_tuple_add PySem.F.slot_tuple_add PySem.F.entry_tuple_add (PySem.F.args_tuple_add_2 _ _)
   (tuple_addW2 t b vs.toArray ws.toArray n n2 dd dd2 sl sl2 (by simpa using hv) (by simpa using hw) (by rw [List.size_toArray,List.size_toArray];exact hsz)) ⟨ho,ho2,?_⟩
  rw [e]
  exact h2 hw
noncomputable def sIx (n d:Nat):Option Int->Nat
 | none=>d
 | some v=>if v<0 then (v+(n:Int)).toNat else min v.toNat n
theorem sIx_le (n d:Nat) (hd:d<=n) (o:Option Int):sIx n d o<=n:=by
 cases o with
 | none=>exact hd
 | some v=>
  show (if v<0 then (v+(n:Int)).toNat else min v.toNat n)<=n
  by_cases hv:v<0
  ·rw [if_pos hv];omega
  ·rw [if_neg hv];exact Nat.min_le_right _ _
theorem zjR (v:Int) (n d:Nat):(if v<0 then max (v+(n:Int)) 0 else min v (n:Int))=((sIx n d (some v):Nat):Int):=by
 show (if v<0 then max (v+(n:Int)) 0 else min v (n:Int))=(((if v<0 then (v+(n:Int)).toNat else min v.toNat n):Nat):Int)
 by_cases hv:v<0
 ·simp only [if_pos hv];omega
 ·simp only [if_neg hv];omega
theorem zhO (lo hi:Option Int) (n:Nat):Builtin.Slice.sliceAdjust lo hi 1 (n:Int)=(((sIx n 0 lo:Nat):Int),((sIx n n hi:Nat):Int)):=by
 have h1:¬ ((1:Int)<0):=by omega
 unfold Builtin.Slice.sliceAdjust
 simp only [h1,if_false]
 refine Prod.ext ?_ ?_
 ·cases lo with
  | none=>rfl
  | some v=>exact zjR v n 0
 ·cases hi with
  | none=>rfl
  | some v=>exact zjR v n n
theorem zio (i j:Nat):Builtin.Slice.slicePlaces (i:Int) (j:Int) 1=j-i:=by
 unfold Builtin.Slice.slicePlaces
 have h1:(1:Int)>0:=by omega
 simp only [h1,if_true,Int.ediv_one]
 split<;>omega
theorem zeH {v:Value} {o:Option Int} {Q:Option Int->Shared->Prop} (p:IsPart v o) (h:Q o s):wpAny (model prog w) A (Builtin.Slice.slicePartIndex v) Q E s:=by
 cases p with
 | none=>exact slicePart_none h
 | int i t=>exact slicePart_int h
theorem zb3 {sl:Addr} {vl vu:Value} {lo hi:Option Int} {n:Nat} {Q:Int×Int×Nat->Shared->Prop} (hs:s.heap.IsSliceOf sl vl vu .none) (pl:IsPart vl lo) (pu:IsPart vu hi)
    (h:Q (((sIx n 0 lo:Nat):Int),1,sIx n n hi-sIx n 0 lo) s):wpAny (model prog w) A (Builtin.Slice.sliceApplied (.ref sl) (pure (n:Int))) Q E s:=by
  obtain ⟨os,hos,hcs,hds⟩:=id hs
  unfold Builtin.Slice.sliceApplied Builtin.Slice.sliceFields
  refine wpAny_bind (wpAny_bind (wpAny_field hos hds (x:=vl) rfl (wpAny_bind (wpAny_field hos hds (x:=vu) rfl (wpAny_bind (wpAny_field hos hds (x:=.none) rfl (wpAny_pure ?_)))))))
  refine wpAny_bind (slicePart_none ?_)
  show wpAny _ _ (if ((1:Int)==0)=true then _ else _) _ _ s
  rw [if_neg (by decide)]
  refine wpAny_bind (zeH pl (wpAny_bind (zeH pu (wpAny_bind (wpAny_pure ?_)))))
  show wpAny _ _ (match Builtin.Slice.sliceAdjust lo hi 1 (n:Int) with | (lo,hi)=>pure (lo,(1:Int),Builtin.Slice.slicePlaces lo hi 1)) _ _ s
  rw [zhO lo hi n]
  show wpAny _ _ (pure (((sIx n 0 lo:Nat):Int),(1:Int),Builtin.Slice.slicePlaces ((sIx n 0 lo:Nat):Int) ((sIx n n hi:Nat):Int) 1)) _ _ s
  rw [zio]
  exact wpAny_pure h
theorem zk6 (xs:Array Value) (i k:Nat):((List.range k).filterMap λ(m:Nat)=>xs[((i:Int)+(m:Int)*1).toNat]?).toArray=((xs.toList.drop i).take k).toArray:=by
 have e:(λ(m:Nat)=>xs[((i:Int)+(m:Int)*1).toNat]?)=λm=>xs[i+m]?:=by
  funext m
  have:((i:Int)+(m:Int)*1).toNat=i+m:=by omega
  rw [this]
 rw [e]
 have:=pick_run xs i k
 rw [List.filterMap_map] at this
 have e2:((λx=>xs[x]?)∘λx=>i+x)=λm=>xs[i+m]?:=rfl
 rw [e2] at this
 rw [this]
theorem getItem_tuple_cut {t sl:Addr} {items:Array Value} {vl vu:Value} {lo hi:Option Int} {Q:Value->Shared->Prop} (ht:IsTup s.heap t items) (hs:s.heap.IsSliceOf sl vl vu .none) (pl:IsPart vl lo) (pu:IsPart vu hi)
  (hw:¬ (sIx items.size 0 lo=0/\sIx items.size items.size hi=items.size))
  (h:Q (.ref s.heap.objs.size) { s with heap:=s.heap.push { cls:=.type "tuple",data:=.seq ((items.toList.drop (sIx items.size 0 lo)).take (sIx items.size items.size hi-sIx items.size 0 lo)).toArray } })
  (hsz:items.size<=sizeLine):wpAny (model prog w) A (getItem (.ref t) (.ref sl)) Q E s:=by
 have htake:sizeOk (.seq ((items.toList.drop (sIx items.size 0 lo)).take (sIx items.size items.size hi-sIx items.size 0 lo)).toArray):=by
  show ((items.toList.drop (sIx items.size 0 lo)).take (sIx items.size items.size hi-sIx items.size 0 lo)).toArray.size<=sizeLine
  rw [List.size_toArray,List.length_take,List.length_drop,Array.length_toList]
  omega
 have hj:sIx items.size items.size hi<=items.size:=sIx_le _ _ (Nat.le_refl _) hi
 obtain ⟨os,hos,hcs,hds⟩:=id hs
 have hTs:s.TypeIs (.ref sl) "slice":=⟨os,hos,hcs⟩
 unfold getItem
 try with_reducible refine wpAny_holding ?_
 first | refine wpAny_bind (wpAny_pure ?_) | skip
 refine wpAny_bind (wpAny_sequenceKey ht.typeIs (by decide) ?_)
 refine wpAny_bind (wpAny_callSpecial?_slot (name:=Str.ofString "__getitem__") ht.typeIs PyProof.Rows.slot_tuple_getitem
  (wpAny_call_entry PyProof.Rows.slot_tuple_getitem ht.typeIs entry_tuple_getitem ?_ (args_tuple_getitem _ _)))
 show wpAny _ _ (Builtin.Tuple.tupleItemsOf (.ref t) >>= _) _ _ s
 refine wpAny_bind (tupleItemsOf_ ht ?_)
 refine wpAny_bind (wpAny_typeOf hTs ?_)
 rw [if_pos (by decide)]
 refine wpAny_bind (zb3 hs pl pu ?_)
 have hno:¬ ((((sIx items.size 0 lo:Nat):Int)==0&&(1:Int)==1&&(sIx items.size items.size hi-sIx items.size 0 lo)==items.size)=true):=by
  intro q
  rw [Bool.and_eq_true,Bool.and_eq_true] at q
  have q1:((sIx items.size 0 lo:Nat):Int)=0:=eq_of_beq q.1.1
  have q2:sIx items.size items.size hi-sIx items.size 0 lo=items.size:=eq_of_beq q.2
  exact hw ⟨by omega,by omega⟩
 show wpAny _ _ (if (((sIx items.size 0 lo:Nat):Int)==0&&(1:Int)==1&&(sIx items.size items.size hi-sIx items.size 0 lo)==items.size)=true then _ else _) _ _ s
 rw [if_neg hno,zk6]
 first
  | exact wpAny_bind (m:=Builtin.Tuple.tupleExact _) (wpAny_newObj_type (wpAny_pure ⟨_,rfl,wpAny_pure h⟩) htake)
  | exact wpAny_bind (m:=Builtin.Tuple.tupleExact _) (wpAny_newObj_type (wpAny_bind (wpAny_pure (wpAny_pure ⟨_,rfl,wpAny_pure h⟩))) htake)
  | exact wpAny_bind (wpAny_bind (m:=Builtin.Tuple.tupleExact _) (wpAny_newObj_type (wpAny_pure (wpAny_pure ⟨_,rfl,wpAny_pure h⟩)) htake))
  | exact wpAny_bind (wpAny_bind (m:=Builtin.Tuple.tupleExact _) (wpAny_newObj_type (wpAny_pure ⟨_,rfl,wpAny_pure h⟩) htake))
end
end HT
namespace L2
open PySem PySem.Spec PyProof.Rows
noncomputable abbrev TO:=St->Hp->(Option Int->Hp->Prop)->Prop
noncomputable def PO (X:Cx) (e:Option Expr) (t:TO):Prop:=
 ∀ (pins:List (Addr×Obj)) (s:Shared) (σ:St) (H:Hp) (Q:Option Int->Hp->Prop),Inv X pins σ H s->t σ H Q →
  wpAny (model X.prog X.w) X.A (evalPart e X.env) (λu s'=>∃ o H',Inv X pins σ H' s'/\IsPart u o/\Q o H') X.xe s
noncomputable def znd:TO:=λ_ H Q=>Q none H
section
variable {X:Cx} {e:Expr} {te:TE} {lo hi:Option Expr} {tl th:TO} {pos p2:Pos}
theorem zm0:PO X none znd:=by
 intro pins s σ H Q I h
 rw [evalPart_none]
 exact wpAny_pure ⟨none,H,I,.none,h⟩
noncomputable def SlR (X:Cx) (r:V->Option Int->Option Int->Hp->VK->Prop):Prop:=
 ∀ (pins:List (Addr×Obj)) (s:Shared) (σ:St) (H:Hp) (x:V) (v vl vu:Value) (lo hi:Option Int) (sl:Addr) (Q:VK),Inv X pins σ H s->RelV x v->s.heap.IsSliceOf sl vl vu .none->IsPart vl lo->IsPart vu hi->r x lo hi H Q →
  ∃ T id,typeLookup (.type T) "__getitem__"=pure (some (.builtin id))/\s.TypeIs v T/\wpAny (model X.prog X.w) X.A (getItem v (.ref sl)) (EP X pins σ Q) X.xe s
theorem SlR.or {r r':V->Option Int->Option Int->Hp->VK->Prop} (h:SlR X r) (h':SlR X r'):SlR X (λx lo hi H Q=>r x lo hi H Q\/r' x lo hi H Q):=by
 intro pins s σ H x v vl vu lo hi sl Q I rx hs pl pu q
 rcases q with q | q
 ·exact h pins s σ H x v vl vu lo hi sl Q I rx hs pl pu q
 ·exact h' pins s σ H x v vl vu lo hi sl Q I rx hs pl pu q
noncomputable def tSl (r:V->Option Int->Option Int->Hp->VK->Prop) (te:TE) (tl th:TO):TE:=λσ H Q=>te σ H λx H1=>tl σ H1 λl H2=>th σ H2 λu H3=>r x l u H3 Q
theorem zkX {r:V->Option Int->Option Int->Hp->VK->Prop} (hr:SlR X r) (he:PE X e te) (hl:PO X lo tl) (hu:PO X hi th):PE X (.Subscript e (.Slice lo hi none p2) pos) (tSl r te tl th):=by
 intro pins s σ H Q I h
 refine Subscript_ (thn (he pins s σ H _ I h) λv s1 ⟨x,H1,I1,r1,q1⟩=>?_)
 refine wpAny_Slice (thn (hl pins s1 σ H1 _ I1 q1) λvl s2 ⟨l,H2,I2,pl,q2⟩=>thn (hu pins s2 σ H2 _ I2 q2) λvu s3 ⟨u,H3,I3,pu,q3⟩=>?_)
 rw [evalPart_none]
 refine wpAny_pure ?_
 have I4:Inv X pins σ H3 { s3 with heap:=s3.heap.push { cls:=.type "slice",data:=.fields #[vl,vu,.none] } }:=I3.kept (t':=s3.toks) λb ob q=>Heap.get?_push_of_some _ q
 obtain ⟨T,id,hT,ht,hg⟩:=hr pins { s3 with heap:=s3.heap.push { cls:=.type "slice",data:=.fields #[vl,vu,.none] } } σ H3 x v vl vu l u s3.heap.objs.size Q I4 r1 (Heap.IsSliceOf.new ..) pl pu q3
 show wpAny (model X.prog X.w) X.A (subscriptTail e (.Slice lo hi none p2) v (.ref s3.heap.objs.size)) (EP X pins σ Q) X.xe { s3 with heap:=s3.heap.push { cls:=.type "slice",data:=.fields #[vl,vu,.none] } }
 exact tail_any (ops:=[.ref s3.heap.objs.size,v]) ht hT hg (by with_unfolding_all rfl)
noncomputable def cutV (xs:List V) (lo hi:Option Int):List V:=(xs.drop (HT.sIx xs.length 0 lo)).take (HT.sIx xs.length xs.length hi-HT.sIx xs.length 0 lo)
theorem zd8 (xs:List V) (lo hi:Option Int):(cutV xs lo hi).length<=xs.length:=by
 unfold cutV
 rw [List.length_take,List.length_drop]
 omega
noncomputable def rSlT (K:PySem.W.Frag):V->Option Int->Option Int->Hp->VK->Prop:=λx lo hi H Q=>∃ a xs,x=.ref a/\SqT K H a xs ∧
 ¬ (HT.sIx xs.length 0 lo=0/\HT.sIx xs.length xs.length hi=xs.length)/\∀ p,H p=none->Q (.ref p) (upd H p (.tup (cutV xs lo hi)))
theorem zqA:SlR X (rSlT X.K):=by
 intro pins s σ H x v vl vu lo hi sl Q I rx hs pl pu h
 obtain ⟨a,xs,rfl,hx,hw,q⟩:=h
 cases rx
 obtain ⟨its,r,ht,hz⟩:=I.tuple hx
 have hlen:its.toArray.size=xs.length:=by rw [List.size_toArray];exact r.length.symm
 refine ⟨"tuple",_,PyProof.Rows.slot_tuple_getitem.lookup,ht.typeIs,?_⟩
 refine HT.getItem_tuple_cut ht hs pl pu (by rw [hlen];exact hw) ?_ (by rw [hlen];exact hz)
 rw [hlen]
 refine ⟨.ref s.heap.objs.size,_,I.laid (t':=s.toks) (o:=.tup (cutV xs lo hi)) (λb ob q=>Heap.get?_push_of_some _ q) (Nat.le_refl _) ?_,rfl,q _ (I.hok.fresh (Nat.le_refl _))⟩
 exact ⟨Nat.le_trans (zd8 xs lo hi) hz,_,(r.drop (HT.sIx xs.length 0 lo)).take (HT.sIx xs.length xs.length hi-HT.sIx xs.length 0 lo),zb8.new _ _⟩
noncomputable def zr2 (K:PySem.W.Frag):R2:=λx y H Q=>∃ a b xs ys,x=.ref a/\y=.ref b/\SqT K H a xs/\SqT K H b ys/\xs≠[]/\xs.length+ys.length<=sizeLine ∧
 (ys=[]->Q (.ref a) H)/\(ys≠[]->∀ p,H p=none->Q (.ref p) (upd H p (.tup (xs++ys))))
theorem Vals.nil_iff {xs:List V} {us:List Value} (r:Vals xs us):us=[]↔xs=[]:=by
 cases r with
 | nil=>simp
 | cons _ _=>simp
theorem zn6:OpR X (binaryOp .Add) (zr2 X.K):=by
 intro pins s σ H x y v u Q I rx ry h
 obtain ⟨a,b,xs,ys,rfl,rfl,ha,hb,hx,hz,q1,q2⟩:=h
 cases rx
 cases ry
 obtain ⟨its,r1,p1,_⟩:=I.tuple ha
 obtain ⟨its2,r2,p2,_⟩:=I.tuple hb
 refine HT.cat_tup p1 p2 (λz=>hx (r1.nil_iff.mp z)) (λz=>⟨.ref a,H,I,rfl,q1 (r2.nil_iff.mp z)⟩) (λz=>?_) (by rw [<-r1.length,<-r2.length];exact hz)
 refine ⟨.ref s.heap.objs.size,_,I.laid (t':=s.toks) (o:=.tup (xs++ys)) (λb ob q=>Heap.get?_push_of_some _ q) (Nat.le_refl _) ?_,rfl,q2 (λw=>z (r2.nil_iff.mpr w)) _ (I.hok.fresh (Nat.le_refl _))⟩
 exact ⟨by rw [List.length_append];exact hz,_,r1.append r2,zb8.new _ _⟩
end
end L2
namespace L2
open PySem PySem.Spec PyProof.Rows
noncomputable def ixN (n:Nat) (i:Int):Option Nat:=if 0<=i then (if i<n then some i.toNat else none) else if -(n:Int)<=i then some (i+n).toNat else none
noncomputable def atI {α:Type} (xs:List α) (i:Int):Option α:=(ixN xs.length i).bind λj=>xs[j]?
theorem zjE {n:Nat} {i:Int} {j:Nat} (h:ixN n i=some j):seqIndex? i n=some j/\j<n/\-(n:Int)<=i/\i<n:=by
 unfold ixN at h
 by_cases h0:0<=i
 ·rw [if_pos h0] at h
  by_cases h1:i<n
  ·rw [if_pos h1] at h
   have e:i.toNat=j:=Option.some.inj h
   exact ⟨by rw [seqIndex_of h0 h1,e],by omega,by omega,h1⟩
  ·rw [if_neg h1] at h;cases h
 ·rw [if_neg h0] at h
  by_cases h1:-(n:Int)<=i
  ·rw [if_pos h1] at h
   have e:(i+n).toNat=j:=Option.some.inj h
   exact ⟨by rw [seqIndex_neg (by omega) h1,e],by omega,h1,by omega⟩
  ·rw [if_neg h1] at h;cases h
theorem zgO {α:Type} {xs:List α} {i:Int} {v:α} (h:atI xs i=some v):∃ j,seqIndex? i xs.length=some j/\xs[j]?=some v/\j<xs.length/\-(xs.length:Int)<=i/\i<xs.length:=by
 unfold atI at h
 cases e:ixN xs.length i with
 | none=>rw [e] at h;cases h
 | some j=>
  rw [e] at h
  obtain ⟨h1,h2,h3,h4⟩:=zjE e
  exact ⟨j,h1,h,h2,h3,h4⟩
noncomputable def zgP (b:Expr):Prop:=∀ o i,subscripted b false o i=operate [o,i] (getItem o i)
noncomputable def IxR (X:Cx) (r:R2):Prop:=
 ∀ (value slice:Expr) (pins:List (Addr×Obj)) (s:Shared) (σ:St) (H:Hp) (x y:V) (v u:Value) (Q:VK),Inv X pins σ H s->RelV x v->RelV y u->r x y H Q →
  subscripted slice false v u=operate [v,u] (getItem v u)->wpAny (model X.prog X.w) X.A (subscriptTail value slice v u) (EP X pins σ Q) X.xe s
noncomputable def MtR (X:Cx) (id:String) (r:V->List V->Hp->VK->Prop):Prop:=
 ∀ (pins:List (Addr×Obj)) (s:Shared) (σ:St) (H:Hp) (x:V) (xs:List V) (v:Value) (us:List Value) (Q:VK),Inv X pins σ H s->RelV x v->Vals xs us->r x xs H Q →
  wpAny (model X.prog X.w) X.A (call (.builtin id) (v::us)) (EP X pins σ Q) X.xe s
section
variable {X:Cx} {a b:Expr} {ta tb:TE} {pos:Pos}
theorem IxR.or {r r':R2} (h:IxR X r) (h':IxR X r'):IxR X (λx y H Q=>r x y H Q\/r' x y H Q):=by
 intro value slice pins s σ H x y v u Q I rx ry q hs
 rcases q with q | q
 ·exact h value slice pins s σ H x y v u Q I rx ry q hs
 ·exact h' value slice pins s σ H x y v u Q I rx ry q hs
theorem MtR.or {id:String} {r r':V->List V->Hp->VK->Prop} (h:MtR X id r) (h':MtR X id r'):MtR X id (λx xs H Q=>r x xs H Q\/r' x xs H Q):=by
 intro pins s σ H x xs v us Q I rx rs q
 rcases q with q | q
 ·exact h pins s σ H x xs v us Q I rx rs q
 ·exact h' pins s σ H x xs v us Q I rx rs q
theorem zrB {r:R2} (hr:IxR X r) (ha:PE X a ta) (hb:PE X b tb) (hs:zgP b):PE X (.Subscript a b pos) (tOp r ta tb):=by
 intro pins s σ H Q I h
 exact Subscript_ (binT ha hb I h λv u s2 x y H2 I2 rx ry q=>hr a b pins s2 σ H2 x y v u Q I2 rx ry q (hs _ _))
noncomputable def rIxL (K:PySem.W.Frag):R2:=λx y H Q=>∃ p xs i v,x=.ref p/\y=.int i/\SqL K H p xs/\atI xs i=some v/\Q v H
noncomputable def rIxT (K:PySem.W.Frag):R2:=λx y H Q=>∃ p xs i v,x=.ref p/\y=.int i/\SqT K H p xs/\atI xs i=some v/\Q v H
noncomputable def rIxS:R2:=λx y H Q=>∃ z i c,x=.str z/\y=.int i/\z.length<=sizeLine/\atI z.cps.toList i=some c/\Q (.str ⟨#[c]⟩) H
theorem znG:IxR X (rIxL X.K):=by
 intro value slice pins s σ H x y v u Q I rx ry h hs
 obtain ⟨p,xs,i,z,rfl,rfl,hq,he,q⟩:=h
 cases rx
 obtain ⟨t,rfl⟩:=ry
 obtain ⟨its,r,pl,hz⟩:=I.list hq
 obtain ⟨j,h1,h2,h3,h4,h5⟩:=zgO he
 obtain ⟨w,ew,rw'⟩:=r.get h2
 have hl:=r.length
 have hn:=zed
 have fin:EP X pins σ Q w s:=⟨z,H,I,rw',q⟩
 by_cases h0:0<=i
 ·have hj:i.toNat=j:=by
   rw [seqIndex_of h0 h5] at h1
   exact Option.some.inj h1
  exact item_listR pl.isList h0 (by omega) (by rw [hj];simpa using ew) fin hs
 ·have hj:(i+(its.toArray.size:Int)).toNat=j:=by
   rw [seqIndex_neg (by omega) h4] at h1
   rw [List.size_toArray,<-hl]
   exact Option.some.inj h1
  exact subscriptTail_builtinR (x:=w) pl.isList.typeIs slot_list_getitem.lookup
   (wpAny_getItem_list_neg (Q:=λr s'=>r=w/\EP X pins σ Q r s') pl.isList (by omega) (by rw [List.size_toArray]<;>omega) (by omega) (by rw [hj];simpa using ew) ⟨rfl,fin⟩) hs
theorem zoX:IxR X (rIxT X.K):=by
 intro value slice pins s σ H x y v u Q I rx ry h hs
 obtain ⟨p,xs,i,z,rfl,rfl,hq,he,q⟩:=h
 cases rx
 obtain ⟨t,rfl⟩:=ry
 obtain ⟨its,r,pl,hz⟩:=I.tuple hq
 obtain ⟨j,h1,h2,h3,h4,h5⟩:=zgO he
 obtain ⟨w,ew,rw'⟩:=r.get h2
 have hl:=r.length
 have hn:=zed
 have fin:EP X pins σ Q w s:=⟨z,H,I,rw',q⟩
 exact subscriptTail_builtinR (x:=w) pl.typeIs slot_tuple_getitem.lookup
  (getItem_tuple (j:=j) (Q:=λr s'=>r=w/\EP X pins σ Q r s') pl (by omega) (by omega) (by rw [List.size_toArray,<-hl];exact h1) (by simpa using ew) ⟨rfl,fin⟩) hs
theorem zqk:IxR X rIxS:=by
 intro value slice pins s σ H x y v u Q I rx ry h hs
 obtain ⟨z,i,c,rfl,rfl,hz,he,q⟩:=h
 obtain ⟨t,rfl⟩:=rx
 obtain ⟨t',rfl⟩:=ry
 obtain ⟨j,h1,h2,h3,h4,h5⟩:=zgO he
 have hl:z.cps.toList.length=z.length:=by simp [Str.length]
 rw [hl] at h1 h4 h5
 have hn:=zed
 exact tail_any (typeIs_str s z t) slot_str_getitem.lookup (getItem_str (c:=c) (by
  have e1:decide (i < -(2 ^ 63:Int))=false:=decide_eq_false (by omega)
  have e2:decide (i ≥ 2 ^ 63)=false:=decide_eq_false (by omega)
  rw [e1,e2,Bool.or_false]) (by rw [h1];simpa using h2) ⟨.str ⟨#[c]⟩,H,I.tok _,⟨_,rfl⟩,q⟩) hs
theorem zhW (its:List Value) (n j:Nat) (u:Value):Obj.mapSeq (·.setIfInBounds j u) { cls:=.type "list",data:=.seq its.toArray n }={ cls:=.type "list",data:=.seq (its.set j u).toArray n }:=by
 simp [Obj.mapSeq]
theorem Inv.lst {pins:List (Addr×Obj)} {σ:St} {H:Hp} {s:Shared} {p:Addr} {xs:List V} (I:Inv X pins σ H s) (h:H p=some (.lst xs)) :
  ∃ (its:List Value) (n:Nat),Vals xs its/\s.heap.get? p=some { cls:=.type "list",data:=.seq its.toArray n }/\xs.length<=sizeLine:=by
 obtain ⟨z,its,n,r,e⟩:=I.hok p _ h
 exact ⟨its,n,r,e,z⟩
theorem Inv.lstUpd {pins:List (Addr×Obj)} {σ:St} {H:Hp} {s:Shared} {p:Addr} {xs ys:List V} {its its':List Value} {n n':Nat} {f:Obj->Obj} (I:Inv X pins σ H s) (h:H p=some (.lst xs))
  (ho:s.heap.get? p=some { cls:=.type "list",data:=.seq its.toArray n }) (hf:f { cls:=.type "list",data:=.seq its.toArray n }={ cls:=.type "list",data:=.seq its'.toArray n' }) (r:Vals ys its') (hz:ys.length<=sizeLine) (t:Nat) :
  Inv X pins σ (upd H p (.lst ys)) { s with heap:=s.heap.update p f,toks:=t }:=by
 have e:(s.heap.update p f).get? p=some { cls:=.type "list",data:=.seq its'.toArray n' }:=by
  rw [Heap.get?_update_self f ho (by rw [hf]<;>rfl),hf]
 refine I.write (x:=p) (e:=p) (by rw [h];trivial) (.inl rfl) (λb u hb q=>(Heap.get?_update_other _ _ (Ne.symm hb)).trans q) ⟨_,e⟩ ?_
 exact ⟨hz,its',n',r,e⟩
noncomputable def zrw:V->V->V->Hp->(Hp->Prop)->Prop:=λo i v H Q=>∃ p xs k j,o=.ref p/\i=.int k/\H p=some (.lst xs)/\ixN xs.length k=some j/\Q (upd H p (.lst (xs.set j v)))
theorem zlS:PSet X zrw:=by
 intro pins s σ H o i v ov iv u Q I ro ri rv h
 obtain ⟨p,xs,k,j,rfl,rfl,hp,hj,q⟩:=h
 cases ro
 obtain ⟨t,rfl⟩:=ri
 obtain ⟨its,n,r,ho,hz⟩:=I.lst hp
 obtain ⟨h1,h2,h3,h4⟩:=zjE hj
 have hl:=r.length
 have hn:=zed
 have I':Inv X pins σ (upd H p (.lst (xs.set j v))) { s with heap:=s.heap.update p (Obj.mapSeq (·.setIfInBounds j u)) }:=
  I.lstUpd hp ho (zhW its n j u) (r.set rv j) (by rw [List.length_set];exact hz) s.toks
 by_cases h0:0<=k
 ·have hk:k.toNat=j:=by
   rw [seqIndex_of h0 h4] at h1
   exact Option.some.inj h1
  exact PySem.W.ki_setAt ho h0 (by omega) (by rw [List.size_toArray,<-hl];exact h4) (by rw [hk];exact ⟨_,I',q⟩)
 ·have hk:(k+(its.toArray.size:Int)).toNat=j:=by
   rw [seqIndex_neg (by omega) h3] at h1
   rw [List.size_toArray,<-hl]
   exact Option.some.inj h1
  exact PySem.W.ki_setBack ho (by omega) (by rw [List.size_toArray,<-hl];exact h3) (by omega) (by rw [hk];exact ⟨_,I',q⟩)
theorem zf6 (lo hi:Option Int) (n:Nat):(sliceBounds lo hi none n).1=((HT.sIx n 0 lo:Nat):Int)/\(sliceBounds lo hi none n).2.1=((HT.sIx n n hi:Nat):Int)/\(sliceBounds lo hi none n).2.2=1:=by
 refine ⟨?_,?_,rfl⟩
 ·cases lo with
  | none=>simp [sliceBounds,HT.sIx]
  | some i=>
   simp only [sliceBounds,HT.sIx,Option.getD_none,show (1:Int)>0 by decide,if_true]
   by_cases h:i<0
   ·simp only [h,if_true]<;>omega
   ·simp only [h,if_false]<;>omega
 ·cases hi with
  | none=>simp [sliceBounds,HT.sIx]
  | some i=>
   simp only [sliceBounds,HT.sIx,Option.getD_none,show (1:Int)>0 by decide,if_true]
   by_cases h:i<0
   ·simp only [h,if_true]<;>omega
   ·simp only [h,if_false]<;>omega
theorem zfA (its:List Value) (lo hi:Option Int):slicePick its.toArray lo hi none=((its.drop (HT.sIx its.length 0 lo)).take (HT.sIx its.length its.length hi-HT.sIx its.length 0 lo)).toArray:=by
 obtain ⟨h1,h2,h3⟩:=zf6 lo hi its.toArray.size
 unfold slicePick
 rw [h1,h2,h3]
 simp only [sliceRange_one,pick_run,List.size_toArray]<;>rfl
noncomputable def rSlL (K:PySem.W.Frag):V->Option Int->Option Int->Hp->VK->Prop:=λx lo hi H Q=>∃ a xs,x=.ref a/\SqL K H a xs/\∀ p,H p=none->Q (.ref p) (upd H p (.lst (cutV xs lo hi)))
theorem zn2:SlR X (rSlL X.K):=by
 intro pins s σ H x v vl vu lo hi sl Q I rx hs pl pu h
 obtain ⟨a,xs,rfl,hx,q⟩:=h
 cases rx
 obtain ⟨its,r,ht,hz⟩:=I.list hx
 have hlen:=r.length
 refine ⟨"list",_,slot_list_getitem.lookup,ht.isList.typeIs,?_⟩
 refine wpAny_getItem_list_slice ht.isList hs pl pu .none (by simp) ?_ (by rw [List.size_toArray]<;>omega)
 rw [zfA,<-hlen]
 refine ⟨.ref s.heap.objs.size,_,I.laid (t':=s.toks) (o:=.lst (cutV xs lo hi)) (λb ob q=>Heap.get?_push_of_some _ q) (Nat.le_refl _) ?_,rfl,q _ (I.hok.fresh (Nat.le_refl _))⟩
 exact ⟨Nat.le_trans (zd8 xs lo hi) hz,_,0,(r.drop (HT.sIx xs.length 0 lo)).take (HT.sIx xs.length xs.length hi-HT.sIx xs.length 0 lo),Heap.get?_push_size _ rfl⟩
theorem zdH.or {f:Value} {r r':List V->Hp->VK->Prop} (h:zdH X f r) (h':zdH X f r'):zdH X f (λxs H Q=>r xs H Q\/r' xs H Q):=by
 intro pins s σ H xs us Q I rs q
 rcases q with q | q
 ·exact h pins s σ H xs us Q I rs q
 ·exact h' pins s σ H xs us Q I rs q
theorem zc1:zdH X (.type "tuple") (λxs H Q=>∃ p ys,xs=[.ref p]/\((SqL X.K H p ys/\∀ l,H l=none->Q (.ref l) (upd H l (.tup ys)))\/(SqT X.K H p ys/\Q (.ref p) H))):=by
 intro pins s σ H xs us Q I r h
 obtain ⟨p,ys,rfl,h⟩:=h
 obtain ⟨u,rfl,rx⟩:=zkQ r
 cases rx
 rcases h with ⟨hq,q⟩ | ⟨hq,q⟩
 ·obtain ⟨its,r',pl,hz⟩:=I.list hq
  have hlen:=r'.length
  refine call_tuple_list pl.isList (λh' kp=>?_) (by simp only [List.size_toArray]<;>omega)
  have I1:Inv X pins σ H { s with heap:=h' }:=I.kept (t':=s.toks) kp
  have I2:Inv X pins σ (upd H h'.objs.size (.tup ys)) { s with heap:=h'.push { cls:=.type "tuple",data:=.seq its.toArray } }:=
   I1.laid (t':=s.toks) (λb o e=>Heap.get?_push_of_some _ e) (Nat.le_refl _) (show zb0 X.prog X.w _ _ _ (.tup ys) from ⟨hz,its,r',zb8.new _ _⟩)
  exact ⟨.ref h'.objs.size,_,I2,rfl,q _ (I1.hok.fresh (Nat.le_refl _))⟩
 ·obtain ⟨its,r',pl,hz⟩:=I.tuple hq
  exact call_tuple_same pl ⟨.ref p,H,I,rfl,q⟩
noncomputable def tyV (K:PySem.W.Frag) (T:String) (x:V) (H:Hp):Prop:=match x with
 | .str _=>T="str"
 | .int _=>T="int"
 | .ref p=>(T="list"/\∃ xs,SqL K H p xs)\/(T="tuple"/\∃ xs,SqT K H p xs) ∨
   (T="dict"/\((∃ kvs,H p=some (.dK kvs))\/∃ kvs,Rd H p (.dT kvs)))\/(T="set"/\∃ S n,H p=some (.set S n))
 | _=>False
theorem zpO {pins:List (Addr×Obj)} {σ:St} {H:Hp} {s:Shared} {T:String} {x:V} {v:Value} (I:Inv X pins σ H s) (r:RelV x v) (ty:tyV X.K T x H) :
  s.TypeIs v T/\∀ a,v=.ref a->∃ ob,s.heap.get? a=some ob/\ob.dict=none:=by
 cases x with
 | str z=>
  obtain ⟨t,rfl⟩:=r
  cases (show T="str" from ty)
  exact ⟨typeIs_str s z t,λ_ e=>nomatch e⟩
 | int i=>
  obtain ⟨t,rfl⟩:=r
  cases (show T="int" from ty)
  exact ⟨typeIs_int s i t,λ_ e=>nomatch e⟩
 | ref p=>
  cases r
  rcases ty with ⟨rfl,xs,hq⟩ | ⟨rfl,xs,hq⟩ | ⟨rfl,hk⟩ | ⟨rfl,S,n,hk⟩
  ·obtain ⟨its,_,pl,_⟩:=I.list hq
   refine ⟨pl.isList.typeIs,λa e=>?_⟩
   cases e
   obtain ⟨o,n,e,c,hd,_⟩:=pl
   exact ⟨o,e,hd⟩
  ·obtain ⟨its,_,⟨o,e,c,_⟩,_⟩:=I.tuple hq
   refine ⟨⟨o,e,c⟩,λa e2=>?_⟩
   cases e2
   exact ⟨o,e,I.tupleB hq o e⟩
  ·have z:∃ o,s.heap.get? p=some o/\o.ExactDict:=by
    rcases hk with ⟨kvs,hk⟩ | ⟨kvs,hk⟩
    ·obtain ⟨_,_,_,_,o,_,_,e,ex,_⟩:=I.hok p _ hk
     exact ⟨o,e,ex⟩
    ·obtain ⟨_,_,_,_,o,_,_,e,ex,_⟩:=(show zb0 X.prog X.w H s.heap p (.dT kvs) from hk.ok I.hok)
     exact ⟨o,e,ex⟩
   obtain ⟨o,e,ex⟩:=z
   refine ⟨⟨o,e,ex.1⟩,λa e2=>?_⟩
   cases e2
   exact ⟨o,e,ex.2.1⟩
  ·obtain ⟨o,_,_,_,e,ex,_⟩:=I.hok p _ hk
   refine ⟨⟨o,e,ex.1⟩,λa e2=>?_⟩
   cases e2
   exact ⟨o,e,ex.2.1⟩
 | _=>exact False.elim ty
noncomputable def tBM (K:PySem.W.Frag) (T:String) (r:V->List V->Hp->VK->Prop) (to:TE) (t:TA):TE:=λσ H Q=>to σ H λx H1=>tyV K T x H1/\t σ H1 λxs H2=>r x xs H2 Q
variable {o e:Expr} {es:List Expr} {to:TE} {t:TA} {name:Str} {apos cpos:Pos} {T id:String} {r:V->List V->Hp->VK->Prop}
theorem zh6 (pa:PlainAttrs T) (slot:Slot T name id) (hty:typeOf (.builtin id)=pure (.type "method_descriptor")) (hm:MtR X id r) (ho:PE X o to) (ha:PA X (e::es) t)
  (hbase:attributeBase o name X.env (eval o X.env)=eval o X.env:=by rfl)
  (hfew:((backTo cpos (starEach (e::es) X.env)).all (λx=>!x.1)&&(backToKw cpos (keywordEach [] X.env)).all (λx=>x.1.isSome)
   && decide ((e::es).length+([]:List Keyword).length+(if ([]:List Keyword).isEmpty then 0 else 1)<30))=true:=by rfl)
  (hline:(apos.endLine==cpos.line)=true:=by rfl) (hs:starEach (e::es) X.env=(false,eval e X.env)::starEach es X.env:=by rfl) (hplain:(backTo cpos (starEach es X.env)).any (·.1)=false:=by rfl) :
  PE X (.Call (.Attribute o name apos) (e::es) [] cpos) (tBM X.K T r to t):=by
 intro pins s σ H Q I h
 refine wpAny_Call_method_late hbase hfew hline rfl (thn (ho pins s σ H _ I h) λv s1 ⟨x,H1,I1,r1,ty,q1⟩=>?_)
 obtain ⟨h1,h2⟩:=zpO I1 r1 ty
 refine ⟨T,id,pa,slot,hty,h1,h2,?_⟩
 have hA:=ha cpos pins s1 σ H1 _ I1 q1
 rw [hs] at hA ⊢
 refine Calls.callWith_builtin (by show (false||(backTo cpos (starEach es X.env)).any (·.1))=false;rw [hplain]<;>rfl) (Calls.evalArgs_plain ?_)
 exact thn hA λus s2 ⟨vs,H2,I2,r2,q2⟩=>hm pins s2 σ H2 x vs v us Q I2 r1 r2 q2
/- xs.append(e),list.index on a module's tuple .. are MtR facts of 06m -/
end
end L2
namespace L2
open PySem PySem.Spec PyProof.Rows
noncomputable def MtM (X:Cx) (id:String) (r:V->List V->Hp->VK->Prop):Prop:=
 ∀ (pins:List (Addr×Obj)) (s:Shared) (σ:St) (H:Hp) (x:V) (xs:List V) (v:Value) (us:List Value) (Q:VK),Inv X pins σ H s->RelV x v->Vals xs us->r x xs H Q →
  wpAny (model X.prog X.w) X.A (call (.builtin id) (v::us)) (EP X pins σ Q) X.xe s
theorem Vals.one:∀ {x:V} {us:List Value},Vals [x] us->∃ u,us=[u]/\RelV x u
 | _,_,.cons r .nil=>⟨_,rfl,r⟩
theorem Vals.two:∀ {x y:V} {us:List Value},Vals [x,y] us->∃ u v,us=[u,v]/\RelV x u/\RelV y v
 | _,_,_,.cons r (.cons q .nil)=>⟨_,_,rfl,r,q⟩
theorem Vals.zero:∀ {us:List Value},Vals [] us->us=[]
 | _,.nil=>rfl
theorem Vals.dropLast {xs:List V} {us:List Value} (h:Vals xs us):Vals xs.dropLast us.dropLast:=by
 induction h with
 | nil=>exact .nil
 | cons r t ih=>
  cases t with
  | nil=>exact .nil
  | cons q t'=>exact .cons r ih
theorem Vals.eraseIdx:∀ {xs:List V} {us:List Value} (i:Nat),Vals xs us->Vals (xs.eraseIdx i) (us.eraseIdx i)
 | _,_,_,.nil=>.nil
 | _,_,0,.cons _ t=>t
 | _,_,i+1,.cons r t=>.cons r (Vals.eraseIdx i t)
theorem Vals.rep {xs:List V} {us:List Value} (h:Vals xs us):∀ k:Nat,Vals (List.replicate k xs).flatten (List.replicate k us).flatten
 | 0=>.nil
 | k+1=>by
  rw [List.replicate_succ,List.replicate_succ,List.flatten_cons,List.flatten_cons]
  exact Vals.append h (Vals.rep h k)
section
variable {X:Cx} {pins:List (Addr×Obj)} {σ:St} {H:Hp} {s:Shared} {l b:Addr} {xs ys zs:List V}
theorem Inv.lset {its its':List Value} {n:Nat} {f:Array Value->Array Value} {t':Nat} (I:Inv X pins σ H s) (hH:H l=some (.lst xs))
  (e:s.heap.get? l=some { cls:=.type "list",data:=.seq its.toArray n }) (hf:f its.toArray=its'.toArray) (hv:Vals ys its') (hz:ys.length<=sizeLine) :
  Inv X pins σ (upd H l (.lst ys)) { s with heap:=s.heap.update l (Obj.mapSeq f),toks:=t' }:=by
 have q:=PySem.IsL.update e f
 rw [hf] at q
 refine I.write (x:=l) (e:=l) (by rw [hH];exact trivial) (.inl rfl) (λb' u hb hu=>(Heap.get?_update_other s.heap (Obj.mapSeq f) (Ne.symm hb)).trans hu) ⟨_,q⟩ ?_
 exact ⟨hz,its',_,hv,q⟩
theorem Inv.lnew {its:List Value} {t':Nat} (I:Inv X pins σ H s) (hv:Vals ys its) (hz:ys.length<=sizeLine) :
  Inv X pins σ (upd H s.heap.objs.size (.lst ys)) { s with heap:=s.heap.push { cls:=.type "list",data:=.seq its.toArray },toks:=t' }:=
 I.laid (λ_ _ q=>Heap.get?_push_of_some _ q) (Nat.le_refl _) ⟨hz,its,0,hv,Heap.get?_push_size _ rfl⟩
theorem Inv.fresh (I:Inv X pins σ H s):H s.heap.objs.size=none:=I.hok.fresh (Nat.le_refl _)
theorem Inv.lstM (I:Inv X pins σ H s) (hH:H l=some (.lst xs)):xs.length<=sizeLine/\∃ (its:List Value) (n:Nat),Vals xs its/\xs.length=its.length/\s.heap.get? l=some { cls:=.type "list",data:=.seq its.toArray n }:=by
 obtain ⟨z,its,n,r,e⟩:=I.hok l _ hH
 exact ⟨z,its,n,r,r.length,e⟩
theorem zkM {n:Nat} (h:n<=sizeLine):Builtin.List.listTooLong n=false:=by
 unfold Builtin.List.listTooLong
 exact decide_eq_false (by omega)
end
section
variable {X:Cx}
noncomputable def znB:V->List V->Hp->VK->Prop:=λx vs H Q=>∃ l xs y,x=.ref l/\vs=[y]/\H l=some (.lst xs)/\xs.length<sizeLine/\Q .non (upd H l (.lst (xs++[y])))
theorem zju:MtM X "list.append" znB:=by
 intro pins s σ H x vs v us Q I rx rv h
 obtain ⟨l,xs,y,rfl,rfl,hH,hz,q⟩:=h
 cases rx
 obtain ⟨u,rfl,ru⟩:=rv.one
 obtain ⟨z,its,n,r,hl,e⟩:=I.lstM hH
 refine call_meets F.slot_list_append ⟨_,e,rfl⟩ F.entry_list_append (F.args_list_append_2 _ _) (PySem.list_append l its.toArray n u (by rw [List.size_toArray];omega)) ⟨e,?_⟩
 refine ⟨.non,_,I.lset (its':=its++[u]) hH e (by simp) (r.append (.cons ru .nil)) ?_,rfl,q⟩
 rw [List.length_append,List.length_singleton]
 omega
end
section
variable {prog:Program} {w:World} {A:Around} {E:Value->Shared->Prop} {s:Shared}
end
section
variable {X:Cx}
end
end L2
namespace Att
open PySem PySem.W PySem.Calls PyProof.Rows
theorem zej {P:Params} {h:Heap}:∀ (ns:List Int) (vs:List Value),WellAll P h vs (ns.map WData.int)->IntsAre vs ns:=by
 intro ns
 induction ns with
 | nil=>
  intro vs w
  rw [List.map_nil] at w
  cases w
  exact .nil
 | cons n ns ih=>
  intro vs w
  rw [List.map_cons] at w
  cases w with
  | cons a b=>
   cases a
   exact .cons _ _ (ih _ b)
theorem zjq {l:OpenLaw} {n:Nat} (hn:l.most=some n) {P:Params} {h:Heap} {args:List WData} {vals:List Value}
  (hpre:l.row.toRowW.claim.pre args=true) (hwl:WellAll P h vals args) :
  ∃ a vs ns,vals=[Value.ref a]/\args=[WData.list (ns.map WData.int)]/\h.get? a=some { cls:=.type "list",data:=.seq vs.toArray }/\IntsAre vs ns/\ns.length<=n:=by
 have hsh:WShape.hasAll [] args [.list .int]=true:=(pre_splitW hpre).1
 have hc:l.pre.holds [] { args:=args }=true:=(pre_splitW hpre).2
 obtain ⟨d,r,rfl,h1,h2⟩:=hasAllW_cons hsh
 obtain rfl:=hasAllW_nil h2
 obtain ⟨xs,rfl,h3⟩:=hasW_list h1
 obtain ⟨ns,rfl⟩:=items_int h3
 have hlen:ns.length<=n:=by
  unfold OpenLaw.pre at hc
  have h4:(WTm.not (.lt (.lit (.int (n:Int))) (.len (.arg 0)))).holds [] { args:=[.list (ns.map .int)] }=true:=by
   have h4:=(holds_andW hc).1
   rw [hn] at h4
   exact h4
  have h5:=condW_of h4 (w_not (w_lt w_lit (w_len_list (w_arg rfl))))
  rw [List.length_map] at h5
  refine Nat.le_of_not_lt λq=>?_
  have q':(n:Int)<((ns.length:Nat):Int):=by omega
  first
   | (rw [decide_eq_true q'] at h5;exact absurd h5 (by decide))
   | (simp at h5;omega)
 cases hwl with
 | cons w1 w2=>
  cases w2
  cases w1 with
  | list ho hall=>exact ⟨_,_,ns,rfl,rfl,ho,zej ns _ hall,hlen⟩
theorem ziO (l:OpenLaw) (args:List WData):l.row.toRowW.claim.post args (.bool true) args=true:=
 postW_of (r:=l.row.toRowW) (X:=(true==true))
  (show WShape.has [] (.bool true) .bool=true by first | rfl | decide | simp [WShape.has,WShape.arms,WShape.armsAll])
  (show (WTm.eq .res (.lit (.bool true))).value [] { args:=args,res:=some (.bool true),after:=args }=some (.bool (true==true)) from w_eq_bool (w_res rfl) w_lit) rfl
theorem attach_call {l:OpenLaw} {n:Nat} {q:Program} {loose:List Str} {XP:(Str->Option Value)->Heap->Prop} {YP:World->Heap->Prop} {d:DefRec}
  (hn:l.most=some n) (hdf:d.params.defaults=[])
  (call:∀ (w:World) (s₀ s₁:Shared) (mg mb:Str->Option Value) (fa:Addr) (o:Obj) (pm cd doc:Value) (a:Addr) (vs:List Value) (ns:List Int),
   Ground q loose [] XP w s₀ mg mb s₁.heap->YP w s₁.heap →
   s₁.heap.get? fa=some o->o.data=.func (docDef d.name d.params d.body d.scope pm cd doc)->s₁.heap.CodeRec cd d.name->mg d.name=some (.ref fa) →
   s₁.heap.get? a=some { cls:=.type "list",data:=.seq vs.toArray }->IntsAre vs ns->ns.length<=n->s₁.gens=#[] →
   codeAny (model l.prog w) callerA (.call (.ref fa) ⟨[.ref a],[]⟩) (λr s'=>r=.ok (.ret (.bool true))/\OldK s₁.heap s'.heap/\s'.os=s₁.os/\AllBare s'.gens) s₁) :
  WalkO q loose XP YP l.row.toRowW d [] (λf vs=>PySem.call f vs):=by
 intro w s₀ s₁ mg mb G Y fa o pm cd doc dV kV ho hd hcd hD hmg hg args vals as hpre hlay hrd hwl hlo
 obtain rfl:dV=.none:=Dflts.none hD hdf
 obtain rfl:kV=.none:=Dflts.noKw hD
 obtain ⟨a,vs,ns,rfl,rfl,hobj,hints,hlen⟩:=zjq hn hpre hwl
 refine enter_call (codeAny_mono (call w s₀ s₁ mg mb fa o pm cd doc a vs ns G Y ho (fd_plain hd) hcd hmg hobj hints hlen hg) λr s' hq=>?_)
 obtain ⟨rfl,h2,h3,h4⟩:=hq
 exact ⟨.inl ⟨.bool true,.bool true,[],rfl,λ_=>rfl,.bool true,ziO l _,λ_=>⟨List.Pairwise.nil,λ_ hm=>(nomatch hm)⟩⟩,h2,h3,h4⟩
section
variable {prog:Program} {w:World} {A:Around} {E:Value->Shared->Prop} {s:Shared} {K:Frag}
noncomputable def zr5 (h:Heap) (L d:Addr):List (Addr×Obj):=(List.range h.objs.size).filterMap λa=>if a=L\/a=d then none else (h.get? a).map λo=>(a,o)
end
end Att
namespace L2
open PySem PySem.Spec PyProof.Rows
theorem zgi:∀ {vs:List Value} {ns:List Int},IntsAre vs ns->Vals (ns.map V.int) vs
 | _,_,.nil=>.nil
 | _,_,.cons n t h=>.cons ⟨t,rfl⟩ (zgi h)
noncomputable def Only (H:Hp):Prop:=∀ b,H b=none\/∃ o xs,H b=some (.frz o (.lst xs))
theorem law_call {P:Program} {w:World} {K:PySem.W.Frag} {mg mb:Str->Option Value} {CX:CXT} {k:Nat} {fa a:Addr} {fd:FuncData} {x:Str} {sp:Sp} {s₁:Shared} {vs:List Value} {ns:List Int}
  (KX:K.In s₁.heap) (hns:s₁.heap.Ns mainGlobals mg) (hb:s₁.heap.Ns builtinsNs mb) (hbb:∀ x:Str,x ≠ "__name__"->mb x=bootBuiltins x) (hlim:s₁.heap.NoLimit) (hg:s₁.gens=#[])
  (ha:s₁.heap.get? a=some { cls:=.type "list",data:=.seq vs.toArray }) (hi:IntsAre vs ns) (hl:ns.length<=sizeLine) (hr:Room k callerA)
  (F:∀ base:Heap,K.In base->base.Ns mainGlobals mg->FnOk P w K mg base CX k fa fd [x] sp) (hbind:∀ (s:Shared) (u:Value),BindsTo s fd ⟨[u],[]⟩ [(x,u)])
  (hsp:∀ H:Hp,Only H->SqL K H a (ns.map V.int)->sp [.ref a] H (λv _=>v=.bl true) λ_ _ _=>False)
  (hCX:∀ H e s',CX [] H s₁ (λ_ _ _=>False) e s'->False) :
  codeAny (model P w) callerA (.call (.ref fa) ⟨[.ref a],[]⟩) (λr s'=>r=.ok (.ret (.bool true))/\OldK s₁.heap s'.heap/\s'.os=s₁.os/\AllBare s'.gens) s₁:=by
 have rv:=zgi hi
 have lenV:=hi.length
 have core:∀ H:Hp,Only H->SqL K H a (ns.map V.int)->HOk P w H s₁.heap->(∀ b,H b≠none->b=a)->(H a≠none->K.lookup a=none) →
   codeAny (model P w) callerA (.call (.ref fa) ⟨[.ref a],[]⟩) (λr s'=>r=.ok (.ret (.bool true))/\OldK s₁.heap s'.heap/\s'.os=s₁.os/\AllBare s'.gens) s₁:=by
  intro H hO hS hok hA hK
  have base_of:∀ {b:Addr} {o:Obj},s₁.heap.get? b=some o->H b=none->(hidT s₁.heap H).get? b=some o:=λe n=>zlN e n
  have noA:∀ {b:Addr} {o:Obj} {es:Array DictEntry} {ep:Nat},s₁.heap.get? b=some o->o.data=.dict es ep->H b=none:=λ{b o es ep} e d=>by
   cases q:H b with
   | none=>rfl
   | some u=>
    have e':b=a:=hA b (by rw [q];simp)
    subst e'
    rw [ha] at e;cases e
    have d':Data.seq vs.toArray _=Data.dict es ep:=d
    cases d'
  have nsK:∀ {b:Addr} {m:Str->Option Value},s₁.heap.Ns b m->(hidT s₁.heap H).Ns b m:=λ{b m} ⟨o,es,ep,e,d,r⟩=>⟨o,es,ep,base_of e (noA e d),d,r⟩
  have hKb:K.In (hidT s₁.heap H):=λb o e=>base_of (KX b o e) (by
   cases q:H b with
   | none=>rfl
   | some u=>
    have e':b=a:=hA b (by rw [q];simp)
    subst e'
    rw [hK (by rw [q];simp)] at e;cases e)
  have hM:Mod K mg (hidT s₁.heap H):=⟨hKb,nsK hns,⟨mb,nsK hb,hbb⟩,let ⟨mc,h1,h2⟩:=hlim;⟨mc,nsK h1,h2⟩⟩
  have e0:Env0 P w K mg (hidT s₁.heap H) callerA [] s₁ H:=⟨rfl,hM,λb o e=>znK e,Nat.le_of_eq (zjy _ _),trivial,λb hb=>absurd (show b∈([]:List Addr) from hb) (by simp),hok,.of_eq hg⟩
  refine codeAny_mono ((F _ hKb (nsK hns)).run callerA [] s₁ H ⟨[.ref a],[]⟩ [.ref a] [.ref a] _ _ hr e0 (hbind s₁ (.ref a)) (.cons rfl .nil) (hsp H hO hS)) λr s' h=>?_
  cases r with
  | error e=>exact (hCX H e s' h).elim
  | ok fl=>
   cases fl with
   | next=>exact False.elim h
   | brk=>exact False.elim h
   | cont=>exact False.elim h
   | ret u=>
    obtain ⟨v,H',os,bare,un,hok',r',q⟩:=h
    have q':v=.bl true:=q
    subst q'
    obtain rfl:u=Value.bool true:=r'
    refine ⟨rfl,OldK.of_keep λb o e=>?_,os,bare⟩
    cases q:H b with
    | none=>exact un.keep b o e q (by intro z;exact absurd (show b∈([]:List Addr) from z) (by simp)) (by simp)
    | some u=>
     rcases hO b with z | ⟨ob,xs,z⟩
     ·rw [q] at z;cases z
     ·have z2:=un.frzs b ob _ z
      obtain ⟨e1,_⟩:=hok b _ z
      obtain ⟨e2,_⟩:=hok' b _ z2
      rw [e] at e1;cases e1
      exact e2
 cases hk:K.lookup a with
 | some o=>
  have e:=KX a o hk
  rw [ha] at e
  cases e
  refine core (λ_=>none) (λ_=>.inl rfl) (.inr ⟨_,vs.toArray,_,hk,rfl,rfl,rfl,by rw [List.size_toArray,lenV];exact hl,by simpa using rv⟩) (λb u z=>by have z':(none:Option HO)=some u:=z;cases z') (λb z=>absurd rfl z) λz=>absurd rfl z
 | none=>
  refine core (λb=>if b=a then some (.frz { cls:=.type "list",data:=.seq vs.toArray } (.lst (ns.map V.int))) else none) (λb=>?_) (.inl (.inr ⟨{ cls:=.type "list",data:=.seq vs.toArray },if_pos rfl⟩)) (λb u z=>?_) (λb z=>?_) λ_=>hk
  ·by_cases hb:b=a
   ·exact .inr ⟨_,_,if_pos hb⟩
   ·exact .inl (if_neg hb)
  ·by_cases hb:b=a
   ·have z':=(if_pos hb).symm.trans z
    cases z'
    subst hb
    exact ⟨ha,by rw [List.length_map];exact hl,vs,_,rv,ha⟩
   ·have z':=(if_neg hb).symm.trans z
    cases z'
  ·by_cases hb:b=a
   ·exact hb
   ·exact absurd (if_neg hb) z
end L2
namespace L2
open PySem PySem.Spec PyProof.Rows
noncomputable abbrev KOf {K:PySem.W.Frag} {h:Heap} (_:K.In h):PySem.W.Frag:=K
theorem walk_of {l:PySem.W.OpenLaw} {n k:Nat} {q:Program} {loose:List Str} {XP:(Str->Option Value)->Heap->Prop} {YP:World->Heap->Prop} {d:DefRec} {K:Params->PySem.W.Frag} {CX:World->CXT} {sp:World->Sp} {x:Str}
  (hn:l.most=some n) (hn2:n<=sizeLine) (hdf:d.params.defaults=[]) (hr:Room k callerA)
  (hY:∀ (w:World) (h:Heap),YP w h->(K w.params).In h)
  (F : ∀ (w:World) (mg:Str->Option Value) (fa:Addr) (h:Heap),(K w.params).In h->h.Ns mainGlobals mg->mg d.name=some (.ref fa) →
   ∃ fd:FuncData,(∀ (s:Shared) (u:Value),BindsTo s fd ⟨[u],[]⟩ [(x,u)]) ∧
    ∀ base:Heap,(K w.params).In base->base.Ns mainGlobals mg->FnOk l.prog w (K w.params) mg base (CX w) k fa fd [x] (sp w))
  (hsp:∀ (w:World) (H:Hp) (a:Addr) (ns:List Int),ns.length<=n->Only H->SqL (K w.params) H a (ns.map V.int)->sp w [.ref a] H (λv _=>v=.bl true) λ_ _ _=>False)
  (hCX:∀ (w:World) (H:Hp) (s:Shared) (e:Value) (s':Shared),CX w [] H s (λ_ _ _=>False) e s'->False) :
  PySem.W.WalkO q loose XP YP l.row.toRowW d [] (λf vs=>PySem.call f vs):=by
 refine Att.attach_call hn hdf λw s₀ s₁ mg mb fa o pm cd doc a vs ns G Y ho hd hcd hmg hobj hints hlen hg=>?_
 have KX:=hY w _ Y
 obtain ⟨fd,hb,hF⟩:=F w mg fa _ KX G.T.g hmg
 exact law_call KX G.T.g G.T.b G.T.builtins G.T.nolimit hg hobj hints (Nat.le_trans hlen hn2) hr hF hb (λH hO hS=>hsp w H a ns hlen hO hS) λH e s'=>hCX w H s₁ e s'
end L2
/- THE LAST THEOREM (shape;LID,My.* are yours):
   My.Adr: a structure of the addresses that your layer names (classes,functions);My.Txt K t: a structure (Prop) of the equations over K;
   My.txt_mk:{K} {implicit addresses ..} (e1:nsIn K mainGlobals "law"=some (some (.ref f))) (e2:K.lookup f=some ⟨oc,od,.func (fnOf "law" "law" params body scope dV kV doc pm an cdv ct),sl⟩) (e3:codeIn K cdv "law"=true) ..:∃ t,My.Txt K t
set_option maxRecDepth 100000 in
set_option maxHeartbeats 0 in
theorem PySem.Challenge.cw_LID_holds : PySem.Challenge.rw_LID.Holds := by
 w_on;o_law;k_head;(case hw=>w_witness2)
 k_fill
 refine L2.walk_of (l:=PySem.Challenge.rw_LID) (n:=63) (k:=40) (x:="script") (CX:=λw=>..) (sp:=λ_=>My.sp_law) rfl (by decide) rfl ⟨rfl,by decide,by decide⟩ (λw h Y=>PySem.W.kIn_of Y) ?F ?S ?C
 case F=>
  intro w mg fa h KX G hmg
  have T:∃ t,My.Txt (L2.KOf KX) t:=by
   dsimp only [L2.KOf]                          -- K must stand as «<heap const> w.params» for k_is
   refine' My.txt_mk ?e1 ?e2 ?e3 ..
   (case e1=>PySem.W.k_is)                    -- in the order: a name->its address->its object->its parts
   (case e2=>PySem.W.k_is)
   ..
  obtain ⟨t,T⟩:=T
  have e0:=hmg.symm.trans (PySem.W.mg_of KX G T.law)
  cases e0                                       -- fa is the law's own address
  exact ⟨_,λs u=>.of_eq rfl,λbase kb nb=>My.law_fn T kb nb⟩     -- if «.of_eq rfl» comes too early: refine' ⟨_,?b,λbase kb nb=>My.law_fn T kb nb⟩;exact λs u=>.of_eq rfl
 case S=>exact λw H a ns hl hO hS=>..
 case C=>exact ..
(the tactic k_is has no namespace: write k_is) -/
namespace L2
open PySem PySem.Spec PyProof.Rows
noncomputable def zad (s:Stmt):Arguments:=match s with
 | .FunctionDef _ a _ _ _ _ _ _ _ _=>a
 | _=>{ posonlyargs:=[],args:=[],vararg:=none,kwonlyargs:=[],kw_defaults:=[],kwarg:=none,defaults:=[] }
noncomputable def zab (s:Stmt):List Stmt:=match s with
 | .FunctionDef _ _ b _ _ _ _ _ _ _=>b
 | _=>[]
noncomputable def zaa (s:Stmt):Scope:=match s with
 | .FunctionDef _ _ _ _ _ _ sc _ _ _=>sc
 | _=>{ kind:=.function,names:=[],isGenerator:=false,isCoroutine:=false }
noncomputable abbrev CX0:CXT:=λ_ _ _ _ _ _=>False
noncomputable abbrev E0:XK:=λ_ _ _=>False
theorem zok {X:Cx}:zkz CX0 X E0:=λ_ _ _ _ _ _ _ h=>h.elim
structure Fun (K:PySem.W.Frag) (x qual:Str) (st:Stmt) (f:Addr) (fd:FuncData):Prop where
 ex:∃ (oc:Value) (od:Option Addr) (kV doc pm:Value) (an:Option Addr) (cdv ct:Value) (osl:Array (Option Value)),
  fd=PySem.W.fnOf x qual (zad st) (zab st) (zaa st) .none kV doc pm an cdv ct/\K.lookup f=some ⟨oc,od,.func fd,osl⟩/\PySem.W.codeIn K cdv qual=true
 kp:PySem.W.keepIn K (.ref f)=true
section
variable {P:Program} {w:World} {K:PySem.W.Frag} {mg:Str->Option Value} {base:Heap}
theorem Fun.ok {x qual:Str} {st:Stmt} {f:Addr} {fd:FuncData} {N ps:List Str} {k:Nat} {sp:Sp} (F:Fun K x qual st f fd) (S:zam N ps (zaa st)) (len:∀ vs H Q E,sp vs H Q E->vs.length=ps.length)
  (hbody:∀ (cdv:Value) (A:Around) (outer:List Env) (s:Shared) (H:Hp) (vs:List V) (Q:VK) (E:XK),Room k (A.deeper (envOfC qual (zaa st) s.heap.objs.size f cdv))->sp vs H Q E →
   ∃ t,PSs (cxOf CX0 P w K mg base N qual (zaa st) f cdv A outer s H E).nox (zab st) t/\t { nx:=λ_ H'=>Q .non H',rt:=Q } (start N vs) H):FnOk P w K mg base CX0 (k+1) f fd ps sp:=by
 obtain ⟨oc,od,kV,doc,pm,an,cdv,ct,osl,rfl,lk,hcd⟩:=F.ex
 refine zoD lk hcd S len λA outer s H vs Q E hr hsp=>?_
 obtain ⟨t,h,q⟩:=hbody cdv A outer s H vs Q E hr hsp
 exact ⟨t,h.nox,q⟩
theorem Fun.binds {x qual:Str} {st:Stmt} {f:Addr} {fd:FuncData} {ps:List Str} (F:Fun K x qual st f fd)
  (h:∀ (kV doc pm:Value) (an:Option Addr) (cdv ct:Value) (us:List Value),us.length=ps.length->bindArgs (PySem.W.fnOf x qual (zad st) (zab st) (zaa st) .none kV doc pm an cdv ct) ⟨us,[]⟩=pure (ps.zip us)):zaV K fd ps []:=by
 obtain ⟨oc,od,kV,doc,pm,an,cdv,ct,osl,rfl,lk,hcd⟩:=F.ex
 exact .all (h kV doc pm an cdv ct)
end
section
variable {X:Cx}
end
noncomputable def Same (H H':Hp):Prop:=∀ b o,H b=some o->H' b=some o
theorem Same.refl (H:Hp):Same H H:=λ_ _ h=>h
theorem Same.trans {H H1 H2:Hp} (a:Same H H1) (b:Same H1 H2):Same H H2:=λc o h=>b c o (a c o h)
theorem Same.free {H H':Hp} (e:Same H H') {l:Addr} (h:H' l=Option.none):H l=Option.none:=by
 cases q:H l with
 | none=>rfl
 | some o=>
  rw [e l o q] at h
  cases h
theorem Same.seq {K:PySem.W.Frag} {H H':Hp} {a:Addr} {xs:List V} (e:Same H H') (h:SqL K H a xs):SqL K H' a xs:=by
 rcases h with (h | ⟨o,h⟩) | h
 ·exact .inl (.inl (e _ _ h))
 ·exact .inl (.inr ⟨o,e _ _ h⟩)
 ·exact .inr h
end L2
set_option linter.all false
namespace IT
inductive Ok {α:Type} (m:Option (α×Sto)) (Q:α->Sto->Prop):Prop where
 | mk (a:α) (h':Sto) (e:m=some (a,h')) (q:Q a h')
section
variable {α β:Type} {Q:α->Sto->Prop} {R:β->Sto->Prop} {h:Sto}
theorem Ok.mono {m:Option (α×Sto)} {Q':α->Sto->Prop} (k:Ok m Q) (i:∀ a h,Q a h->Q' a h):Ok m Q':=by
 obtain ⟨a,h',e,q⟩:=k
 exact ⟨a,h',e,i a h' q⟩
@[simp] theorem ok_bnd {x:M α} {f:α->M β}:Ok (bnd x f h) R↔Ok (x h) λa h1=>Ok (f a h1) R:=by
 unfold bnd
 constructor
 ·rintro ⟨b,h',e,q⟩
  cases ex:x h with
  | none=>rw [ex] at e;cases e
  | some p=>rw [ex] at e;exact ⟨p.1,p.2,rfl,b,h',e,q⟩
 ·rintro ⟨a,h1,e,b,h',e',q⟩
  rw [e]
  exact ⟨b,h',e',q⟩
@[simp] theorem ok_some' {a:α}:Ok (some (a,h)) Q↔Q a h:=by
 constructor
 ·rintro ⟨b,h',e,q⟩;cases e;exact q
 ·intro q;exact ⟨a,h,rfl,q⟩
@[simp] theorem ok_ok {a:α}:Ok (ok a h) Q↔Q a h:=ok_some'
@[simp] theorem ok_none:Ok (none:Option (α×Sto)) Q↔False:=by
 constructor
 ·rintro ⟨b,h',e,q⟩;cases e
 ·intro z;exact z.elim
@[simp] theorem ok_opt {o:Option α}:Ok (opt o h) Q↔∃ a,o=some a/\Q a h:=by
 unfold opt
 cases o with
 | none=>simp
 | some a=>simp
@[simp] theorem ok_rd_d {x:D} {Q:D->Sto->Prop}:Ok (rd (.d x) h) Q↔Q x h:=ok_some'
@[simp] theorem ok_fz_d {x:D} {Q:D->Sto->Prop}:Ok (fz (.d x) h) Q↔Q x h:=ok_some'
end
theorem zkH {l:Option Nat} {f:Ite->Env->M (Fl×Env)} {xs:List Ite} {Q:Fl×Env->Sto->Prop} (I:Nat->Env->Sto->Prop)
  (step:∀ i x σ h,xs[i]?=some x->I i σ h->Ok (f x σ h) λp h1=>match p.1 with
   | .ret r=>Q (.ret r,p.2) h1
   | .brk=>Q (.nx,p.2) h1
   | _=>zbb l h h1=true/\I (i+1) p.2 h1)
  (fin:∀ σ h,I xs.length σ h->Q (.nx,σ) h) {σ:Env} {h:Sto} (h0:I 0 σ h):Ok (loop l f xs σ h) Q:=by
 have gen:∀ (ys:List Ite) (i:Nat) (σ:Env) (h:Sto),xs.drop i=ys->i<=xs.length->I i σ h->Ok (loop l f ys σ h) Q:=by
  intro ys
  induction ys with
  | nil=>
   intro i σ h e hi hI
   have:i=xs.length:=by
    have:=congrArg List.length e
    simp at this
    omega
   subst this
   exact ⟨_,_,rfl,fin σ h hI⟩
  | cons y ys ih=>
   intro i σ h e hi hI
   have hil:i<xs.length:=by
    have:=congrArg List.length e
    simp at this
    omega
   have hy:xs[i]?=some y:=by
    have:=congrArg (λz=>z[0]?) e
    simpa using this
   have hd:xs.drop (i+1)=ys:=by
    have:=congrArg List.tail e
    simpa using this
   obtain ⟨⟨fl,σ1⟩,h1,ef,q⟩:=step i y σ h hy hI
   simp only [loop,ef]
   cases fl with
   | ret r=>exact ⟨_,_,rfl,q⟩
   | brk=>exact ⟨_,_,rfl,q⟩
   | nx=>simp only at q ⊢;rw [if_pos q.1];exact ih (i+1) σ1 h1 hd (by omega) q.2
   | cnt=>simp only at q ⊢;rw [if_pos q.1];exact ih (i+1) σ1 h1 hd (by omega) q.2
 exact gen xs 0 σ h (by simp) (by omega) h0
theorem zho {α:Type} {g:α->Ite} {l:Option Nat} {f:Ite->Env->M (Fl×Env)} {xs:List α} {Q:Fl×Env->Sto->Prop} (I:Nat->Env->Sto->Prop)
  (step:∀ i x σ h,xs[i]?=some x->I i σ h->Ok (f (g x) σ h) λp h1=>match p.1 with
   | .ret r=>Q (.ret r,p.2) h1
   | .brk=>Q (.nx,p.2) h1
   | _=>zbb l h h1=true/\I (i+1) p.2 h1)
  (fin:∀ σ h,I xs.length σ h->Q (.nx,σ) h) {σ:Env} {h:Sto} (h0:I 0 σ h):Ok (loop l f (xs.map g) σ h) Q:=by
 refine zkH I (λi x σ h hx hI=>?_) (λσ h hI=>fin σ h (by simpa using hI)) h0
 rw [List.getElem?_map,Option.map_eq_some_iff] at hx
 obtain ⟨y,hy,rfl⟩:=hx
 exact step i y σ h hy hI
theorem zfT {α β:Type} {g:β->Ite} {l:Option Nat} {f:Ite->M (Option α)} {xs:List β} {Q:List α->Sto->Prop} (I:Nat->List α->Sto->Prop)
  (step:∀ i x ys h,xs[i]?=some x->I i ys h->Ok (f (g x) h) λo h1=>zbb l h h1=true/\I (i+1) (match o with | some y=>ys++[y] | none=>ys) h1)
  (fin:∀ ys h,I xs.length ys h->Q ys h) {h:Sto} (h0:I 0 [] h):Ok (zb1 l f (xs.map g) h) Q:=by
 have gen:∀ (zs:List β) (i:Nat) (ys:List α) (h:Sto),xs.drop i=zs->i<=xs.length->I i ys h->Ok (zb1 l f (zs.map g) h) λr h1=>Q (ys++r) h1:=by
  intro zs
  induction zs with
  | nil=>
   intro i ys h e hi hI
   have:i=xs.length:=by
    have:=congrArg List.length e
    simp at this
    omega
   subst this
   exact ⟨_,_,rfl,by show Q (ys++[]) h;rw [List.append_nil];exact fin ys h hI⟩
  | cons y zs ih=>
   intro i ys h e hi hI
   have hil:i<xs.length:=by
    have:=congrArg List.length e
    simp at this
    omega
   have hy:xs[i]?=some y:=by
    have:=congrArg (λz=>z[0]?) e
    simpa using this
   have hd:xs.drop (i+1)=zs:=by
    have:=congrArg List.tail e
    simpa using this
   obtain ⟨o,h1,ef,st,q⟩:=step i y ys h hy hI
   simp only [List.map_cons,zb1,ef]
   rw [if_pos st,ok_bnd]
   refine (ih (i+1) _ h1 hd (by omega) q).mono λr h2 hq=>?_
   rw [ok_ok]
   cases o with
   | none=>exact hq
   | some z=>simpa using hq
 have:=gen xs 0 [] h (by simp) (by omega) h0
 simpa using this
theorem zeR {α β:Type} {d:β->Ite} {l:Option Nat} {f:Ite->M (Option α)} {g:β->Option α} {h:Sto}:∀ {xs:List β},(∀ x∈xs,f (d x) h=some (g x,h))->zbb l h h=true->zb1 l f (xs.map d) h=some (xs.filterMap g,h)
 | [],_,_=>rfl
 | x::xs,e,s=>by
  simp only [List.map_cons,zb1,e x (by simp),if_pos s]
  unfold bnd
  rw [zeR (λy hy=>e y (by simp [hy])) s]
  simp only [ok,List.filterMap_cons]
  cases g x<;>rfl
theorem zqq (Γ:Calls) (d:_) (σ:Env):ev Γ (.con d) σ=(ok (.d d)):=rfl
theorem zqw (Γ:Calls) (i:_) (σ:Env):ev Γ (.var i) σ=(λh=>match σ[i]? with
  | some (some r)=>some (r,h)
  | _=>none):=rfl
theorem zoM (Γ:Calls) (o:_) (a:_) (b:_) (σ:Env):ev Γ (.bin o a b) σ=(bnd (ev Γ a σ) λx=>bnd (ev Γ b σ) λy=>bnd (rd x) λx=>bnd (rd y) λy=>bnd (opt (bop o x y)) λz=>ok (.d z)):=rfl
theorem zoW (Γ:Calls) (a:_) (σ:Env):ev Γ (.neg a) σ=(bnd (ev Γ a σ) λx=>match x with
  | .d (.int i)=>ok (.d (.int (-i)))
  | _=>λ_=>none):=rfl
theorem zo3 (Γ:Calls) (o:_) (a:_) (b:_) (σ:Env):ev Γ (.cmp o a b) σ=(bnd (ev Γ a σ) λx=>bnd (ev Γ b σ) λy=>bnd (rd x) λx=>bnd (rd y) λy=>bnd (opt (cop o x y)) λz=>ok (.d z)):=rfl
theorem zp4 (Γ:Calls) (a:_) (b:_) (σ:Env):ev Γ (.and a b) σ=(bnd (ev Γ a σ) λx=>match x with
  | .d (.bl c)=>if c then ev Γ b σ else ok (.d (.bl false))
  | _=>λ_=>none):=rfl
theorem zqQ (Γ:Calls) (a:_) (b:_) (σ:Env):ev Γ (.or a b) σ=(bnd (ev Γ a σ) λx=>match x with
  | .d (.bl c)=>if c then ok (.d (.bl true)) else ev Γ b σ
  | _=>λ_=>none):=rfl
theorem zqf (Γ:Calls) (a:_) (σ:Env):ev Γ (.not a) σ=(bnd (ev Γ a σ) λx=>bnd (rd x) λd=>bnd (opt (tru d)) λt=>ok (.d (.bl (!t)))):=rfl
theorem zqs (Γ:Calls) (c:_) (a:_) (b:_) (σ:Env):ev Γ (.ife c a b) σ=(bnd (tv Γ c σ) λt=>if t then ev Γ a σ else ev Γ b σ):=rfl
theorem zpk (Γ:Calls) (es:_) (σ:Env):ev Γ (.tup es) σ=(bnd (evs Γ es σ) λrs=>bnd (fzs rs) λds=>ok (.d (.tup ds))):=rfl
theorem zl1 (Γ:Calls) (m:_) (l:_) (σ:Env):ev Γ (.lst m l) σ=(bnd (evL Γ l σ) λxs=>if m then alloc xs else ok (.d (.lst xs))):=rfl
theorem zqc (Γ:Calls) (a:_) (i:_) (σ:Env):ev Γ (.idx a i) σ=(bnd (ev Γ a σ) λx=>bnd (ev Γ i σ) λy=>bnd (rd x) λx=>bnd (rd y) λy=>bnd (opt (idxD x y)) λz=>ok (.d z)):=rfl
theorem zov (Γ:Calls) (a:_) (lo:_) (hi:_) (σ:Env):ev Γ (.sli a lo hi) σ=(bnd (ev Γ a σ) λx=>bnd (ev Γ lo σ) λl=>bnd (ev Γ hi σ) λu=>bnd (rd x) λx=>bnd (rd l) λl=>bnd (rd u) λu=>bnd (opt (sliD x l u)) λz=>ok (.d z)):=rfl
theorem zmE (Γ:Calls) (f:_) (es:_) (σ:Env):ev Γ (.call f es) σ=(bnd (evs Γ es σ) λrs=>Γ f rs):=rfl
theorem zqN (Γ:Calls) (b:_) (es:_) (σ:Env):ev Γ (.bi b es) σ=(bnd (evs Γ es σ) λrs=>bnd (rds rs) λds=>bnd (opt (biD b ds)) λz=>ok (.d z)):=rfl
theorem zrX (Γ:Calls) (m:_) (o:_) (es:_) (σ:Env):ev Γ (.me m o es) σ=(bnd (ev Γ o σ) λx=>bnd (zep x) λ_=>bnd (evs Γ es σ) λrs=>meth m x rs):=rfl
theorem zoT (Γ:Calls) (d:_) (σ:Env):ev Γ (.glo d) σ=(ok (.d d)):=rfl
theorem znQ (Γ:Calls) (e:_) (σ:Env):ev Γ (.lset e) σ=(bnd (ev Γ e σ) λr=>bnd (rd r) λd=>bnd (opt (zc5 d)) λz=>ok (.d z)):=rfl
theorem zpm (Γ:Calls) (t:_) (e:_) (σ:Env):ev Γ (.isi t e) σ=(bnd (ev Γ e σ) λr=>bnd (rd r) λd=>ok (.d (.bl (isiD t d)))):=rfl
theorem zrs (Γ:Calls) (m:_) (o:_) (es:_) (σ:Env):ev Γ (.tm m o es) σ=(bnd (ev Γ o σ) λx=>bnd (evs Γ es σ) λrs=>bnd (rd x) λd=>bnd (rds rs) λds=>bnd (opt (tmD m d ds)) λz=>ok (.d z)):=rfl
theorem zrp (Γ:Calls) (m:_) (o:_) (a:_) (σ:Env):ev Γ (.lm m o a) σ=(bnd (ev Γ o σ) λx=>bnd (rd x) λ_=>bnd (ev Γ a σ) λy=>bnd (rd x) λx=>bnd (rd y) λy=>bnd (opt (lmD m x y)) λz=>ok (.d z)):=rfl
theorem zk8 (Γ:Calls)  (σ:Env):ev Γ .stuck σ=(λ_=>none):=rfl
theorem zne (Γ:Calls)  (σ:Env):evs Γ [] σ=(ok []):=rfl
theorem zlQ (Γ:Calls) (e:_) (es:_) (σ:Env):evs Γ (e::es) σ=(bnd (ev Γ e σ) λr=>bnd (evs Γ es σ) λrs=>ok (r::rs)):=rfl
theorem zpX (Γ:Calls) (e:_) (σ:Env):tv Γ (.val e) σ=(bnd (ev Γ e σ) λr=>bnd (rd r) λd=>opt (tru d)):=rfl
theorem zql (Γ:Calls) (a:_) (b:_) (σ:Env):tv Γ (.and a b) σ=(bnd (tv Γ a σ) λt=>if t then tv Γ b σ else ok false):=rfl
theorem zq5 (Γ:Calls) (a:_) (b:_) (σ:Env):tv Γ (.or a b) σ=(bnd (tv Γ a σ) λt=>if t then ok true else tv Γ b σ):=rfl
theorem zoV (Γ:Calls) (a:_) (σ:Env):tv Γ (.not a) σ=(bnd (tv Γ a σ) λt=>ok (!t)):=rfl
theorem zmT (Γ:Calls)  (σ:Env):tvs Γ [] σ=(ok true):=rfl
theorem zlH (Γ:Calls) (c:_) (cs:_) (σ:Env):tvs Γ (c::cs) σ=(bnd (tv Γ c σ) λt=>if t then tvs Γ cs σ else ok false):=rfl
theorem zlf (Γ:Calls) (es:_) (σ:Env):evL Γ (.disp es) σ=(bnd (evs Γ es σ) λrs=>fzs rs):=rfl
theorem zkO (Γ:Calls) (tg:_) (it:_) (c:_) (el:_) (σ:Env):evL Γ (.comp tg it c el) σ=(bnd (evI Γ it σ) λw=>zb1 w.l (λx=>bnd (za9 tg x (clr tg.slots σ)) λσ'=>bnd (tvs Γ c σ') λt=>if t then bnd (ev Γ el σ') λr=>bnd (fz r) λd=>ok (some d) else ok none) w.xs):=rfl
theorem znb (Γ:Calls) (a:_) (b:_) (σ:Env):evL Γ (.spl a b) σ=(bnd (ev Γ a σ) λx=>bnd (ev Γ b σ) λy=>bnd (rd x) λx=>bnd (rd y) λy=>opt (splD x y)):=rfl
theorem zna (Γ:Calls) (e:_) (σ:Env):evI Γ (.seq e) σ=(bnd (ev Γ e σ) λr=>zbo r):=rfl
theorem zmW (Γ:Calls) (e:_) (σ:Env):evI Γ (.rng e) σ=(bnd (ev Γ e σ) λr=>zfq r):=rfl
theorem zmS (Γ:Calls) (k:Nat) (e:_) (σ:Env):evI Γ (.enk k e) σ=(bnd (ev Γ e σ) λr=>zft k r):=rfl
theorem zm2 :fzs []=(ok []):=rfl
theorem zlb (r:_) (rs:_):fzs (r::rs)=(bnd (fz r) λd=>bnd (fzs rs) λds=>ok (d::ds)):=rfl
theorem zmB :rds []=(ok []):=rfl
theorem zkU (r:_) (rs:_):rds (r::rs)=(bnd (rd r) λd=>bnd (rds rs) λds=>ok (d::ds)):=rfl
theorem zpH (Γ:Calls) (tg:_) (e:_) (σ:Env):ex Γ (.asg tg e) σ=(bnd (ev Γ e σ) λr=>bnd (zbd tg r σ) λσ'=>ok (.nx,σ')):=rfl
theorem znE (Γ:Calls) (o:_) (i:_) (e:_) (σ:Env):ex Γ (.setI o i e) σ=(bnd (ev Γ e σ) λr=>bnd (ev Γ o σ) λx=>bnd (ev Γ i σ) λy=>bnd (fz r) λd=>bnd (rd y) λy=>bnd (zeD x y d) λ_=>ok (.nx,σ)):=rfl
theorem zoO (Γ:Calls) (e:_) (σ:Env):ex Γ (.exp e) σ=(bnd (ev Γ e σ) λ_=>ok (.nx,σ)):=rfl
theorem zqE (Γ:Calls) (c:_) (a:_) (b:_) (σ:Env):ex Γ (.ife c a b) σ=(bnd (tv Γ c σ) λt=>if t then exs Γ a σ else exs Γ b σ):=rfl
theorem zpE (Γ:Calls) (tg:_) (it:_) (body:_) (σ:Env):ex Γ (.for tg it body) σ=(bnd (evI Γ it σ) λw=>loop w.l (λx σ=>bnd (za9 tg x σ) λσ'=>exs Γ body σ') w.xs σ):=rfl
theorem zqG (Γ:Calls) (e:_) (σ:Env):ex Γ (.ret e) σ=(bnd (ev Γ e σ) λr=>ok (.ret r,σ)):=rfl
theorem zoB (Γ:Calls)  (σ:Env):ex Γ .brk σ=(ok (.brk,σ)):=rfl
theorem zoR (Γ:Calls)  (σ:Env):ex Γ .cnt σ=(ok (.cnt,σ)):=rfl
theorem zlC (Γ:Calls)  (σ:Env):ex Γ .stuck σ=(λ_=>none):=rfl
theorem znT (Γ:Calls)  (σ:Env):exs Γ [] σ=(ok (.nx,σ)):=rfl
theorem zk0 (Γ:Calls) (s:_) (r:_) (σ:Env):exs Γ (s::r) σ=(bnd (ex Γ s σ) λp=>match p.1 with
  | .nx=>exs Γ r p.2
  | _=>ok p):=rfl
theorem zgK {l:Nat} {r:_} {h:Sto}:meth .append (.loc l) [r] h=(bnd (fz r) λd h=>match h[l]? with
  | some (.lst xs)=>if decide (xs.length<big) then some (.d .non,h.set l (.lst (xs++[d]))) else none
  | _=>none) h:=rfl
theorem zly {l:Nat}  {h:Sto}:meth .pop (.loc l) [] h=(λh=>match h[l]? with
  | some (.lst xs)=>match xs[xs.length-1]? with
   | some y=>some (.d y,h.set l (.lst xs.dropLast))
   | none=>none
  | _=>none) h:=rfl
theorem zhN {l:Nat}  {h:Sto}:meth .clear (.loc l) [] h=(λh=>match h[l]? with
  | some (.lst xs)=>some (.d .non,h.set l (.lst []))
  | _=>none) h:=rfl
theorem zg2 {l:Nat} {r:_} {h:Sto}:meth .extend (.loc l) [r] h=(bnd (rd r) λd h=>match d with
  | .lst ys=>match h[l]? with
   | some (.lst xs)=>if fit (xs.length+ys.length) then some (.d .non,h.set l (.lst (xs++ys))) else none
   | _=>none
  | _=>none) h:=rfl
section
variable {Γ:Calls} {σ:Env} {h:Sto}
section
variable {Q:Fl×Env->Sto->Prop}
theorem zky:Ok (exs Γ [] σ h) Q↔Q (.nx,σ) h:=by rw [znT];exact ok_ok
theorem zid {s:S} {r:List S}:Ok (exs Γ (s::r) σ h) Q↔Ok (ex Γ s σ h) λp h1=>match p.1 with | .nx=>Ok (exs Γ r p.2 h1) Q | .ret r=>Q (.ret r,p.2) h1 | .brk=>Q (.brk,p.2) h1 | .cnt=>Q (.cnt,p.2) h1:=by
 rw [zk0,ok_bnd]
 constructor
 ·intro k
  refine k.mono λp h1 q=>?_
  obtain ⟨fl,e⟩:=p
  cases fl<;>simpa using q
 ·intro k
  refine k.mono λp h1 q=>?_
  obtain ⟨fl,e⟩:=p
  cases fl<;>simpa using q
theorem zqM {tg:Tg} {e:E}:Ok (ex Γ (.asg tg e) σ h) Q↔Ok (ev Γ e σ h) λr h1=>Ok (zbd tg r σ h1) λσ' h2=>Q (.nx,σ') h2:=by rw [zpH];simp only [ok_bnd,ok_ok]
theorem zpM {o i e:E}:Ok (ex Γ (.setI o i e) σ h) Q↔Ok (ev Γ e σ h) λr h1=>Ok (ev Γ o σ h1) λx h2=>Ok (ev Γ i σ h2) λy h3=>Ok (fz r h3) λd h4=>Ok (rd y h4) λy h5=>Ok (zeD x y d h5) λ_ h6=>Q (.nx,σ) h6:=by rw [znE];simp only [ok_bnd,ok_ok]
theorem zrY {e:E}:Ok (ex Γ (.exp e) σ h) Q↔Ok (ev Γ e σ h) λ_ h1=>Q (.nx,σ) h1:=by rw [zoO];simp only [ok_bnd,ok_ok]
theorem zqT {c:T} {a b:List S}:Ok (ex Γ (.ife c a b) σ h) Q↔Ok (tv Γ c σ h) λt h1=>(t=true->Ok (exs Γ a σ h1) Q)/\(t=false->Ok (exs Γ b σ h1) Q):=by
 rw [zqE];simp only [ok_bnd]
 constructor<;>intro k<;>refine k.mono λt h1 q=>?_<;>cases t<;>simpa using q
theorem zrt {tg:Tg} {it:I} {b:List S}:Ok (ex Γ (.for tg it b) σ h) Q↔Ok (evI Γ it σ h) λw h1=>Ok (loop w.l (λx σ=>bnd (za9 tg x σ) λσ'=>exs Γ b σ') w.xs σ h1) Q:=by rw [zpE];simp only [ok_bnd]
theorem zqH {e:E}:Ok (ex Γ (.ret e) σ h) Q↔Ok (ev Γ e σ h) λr h1=>Q (.ret r,σ) h1:=by rw [zqG];simp only [ok_bnd,ok_ok]
theorem zrZ:Ok (ex Γ .brk σ h) Q↔Q (.brk,σ) h:=by rw [zoB];simp only [ok_ok]
theorem zri:Ok (ex Γ .cnt σ h) Q↔Q (.cnt,σ) h:=by rw [zoR];simp only [ok_ok]
end
section
variable {Q:Env->Sto->Prop}
theorem zmF {i:Nat} {r:R}:Ok (zbd (.name i) r σ h) Q↔Q (σ.set i (some r)) h:=by rw [zbd];exact ok_ok
theorem zpI {ts:List Tg} {r:R}:Ok (zbd (.tup ts) r σ h) Q↔Ok (rd r h) λd h1=>∃ xs,d=.tup xs/\Ok (bindTs ts xs σ h1) Q:=by
 rw [zbd,ok_bnd]
 constructor<;>intro k<;>refine k.mono λd h1 q=>?_
 ·cases d<;>first | (exact ⟨_,rfl,q⟩) | (simp at q)
 ·obtain ⟨xs,rfl,q⟩:=q;exact q
theorem zjr:Ok (bindTs [] [] σ h) Q↔Q σ h:=by simp only [bindTs,ok_ok]
theorem zhP {t:Tg} {ts:List Tg} {x:D} {xs:List D}:Ok (bindTs (t::ts) (x::xs) σ h) Q↔Ok (zbd t (.d x) σ h) λσ' h1=>Ok (bindTs ts xs σ' h1) Q:=by simp only [bindTs,ok_bnd]
end
theorem w_bI {tg:Tg} {x:R} {Q:Env->Sto->Prop}:Ok (za9 tg (.r x) σ h) Q↔Ok (zbd tg x σ h) Q:=by rw [za9]
theorem zq3 {a b:Tg} {i:Int} {x:R} {Q:Env->Sto->Prop}:Ok (za9 (.tup [a,b]) (.en i x) σ h) Q↔Ok (zbd a (.d (.int i)) σ h) λσ' h1=>Ok (zbd b x σ' h1) Q:=by rw [za9];simp only [ok_bnd]
section
variable {Q:R->Sto->Prop}
theorem zq9 {d:D}:Ok (ev Γ (.con d) σ h) Q↔Q (.d d) h:=by rw [zqq];exact ok_ok
theorem zrm {i:Nat}:Ok (ev Γ (.var i) σ h) Q↔∃ r,σ[i]?=some (some r)/\Q r h:=by
 rw [zqw]
 cases e:σ[i]? with
 | none=>simp
 | some o=>cases o<;>simp
theorem zq7 {o:Bo} {a b:E}:Ok (ev Γ (.bin o a b) σ h) Q↔Ok (ev Γ a σ h) λx h1=>Ok (ev Γ b σ h1) λy h2=>Ok (rd x h2) λx h3=>Ok (rd y h3) λy h4=>∃ z,bop o x y=some z/\Q (.d z) h4:=by rw [zoM];simp only [ok_bnd,ok_ok,ok_opt]
theorem zqO {o:Co} {a b:E}:Ok (ev Γ (.cmp o a b) σ h) Q↔Ok (ev Γ a σ h) λx h1=>Ok (ev Γ b σ h1) λy h2=>Ok (rd x h2) λx h3=>Ok (rd y h3) λy h4=>∃ z,cop o x y=some z/\Q (.d z) h4:=by rw [zo3];simp only [ok_bnd,ok_ok,ok_opt]
theorem zr0 {a:E}:Ok (ev Γ (.neg a) σ h) Q↔Ok (ev Γ a σ h) λx h1=>∃ i,x=.d (.int i)/\Q (.d (.int (-i))) h1:=by
 rw [zoW,ok_bnd]
 constructor<;>intro k<;>refine k.mono λx h1 q=>?_
 ·cases x with
  | loc l=>simp at q
  | d d=>cases d<;>first | (exact ⟨_,rfl,by simpa using q⟩) | (simp at q)
 ·obtain ⟨i,rfl,q⟩:=q;simpa using q
theorem zry {a b:E}:Ok (ev Γ (.and a b) σ h) Q↔Ok (ev Γ a σ h) λx h1=>∃ c,x=.d (.bl c)/\(c=true->Ok (ev Γ b σ h1) Q)/\(c=false->Q (.d (.bl false)) h1):=by
 rw [zp4,ok_bnd]
 constructor<;>intro k<;>refine k.mono λx h1 q=>?_
 ·cases x with
  | loc l=>simp at q
  | d d=>cases d<;>first | (rename_i c;refine ⟨c,rfl,?_⟩;cases c<;>simpa using q) | (simp at q)
 ·obtain ⟨c,rfl,q⟩:=q;cases c<;>simpa using q
theorem w_or {a b:E}:Ok (ev Γ (.or a b) σ h) Q↔Ok (ev Γ a σ h) λx h1=>∃ c,x=.d (.bl c)/\(c=false->Ok (ev Γ b σ h1) Q)/\(c=true->Q (.d (.bl true)) h1):=by
 rw [zqQ,ok_bnd]
 constructor<;>intro k<;>refine k.mono λx h1 q=>?_
 ·cases x with
  | loc l=>simp at q
  | d d=>cases d<;>first | (rename_i c;refine ⟨c,rfl,?_⟩;cases c<;>simpa using q) | (simp at q)
 ·obtain ⟨c,rfl,q⟩:=q;cases c<;>simpa using q
theorem w_not {a:E}:Ok (ev Γ (.not a) σ h) Q↔Ok (ev Γ a σ h) λx h1=>Ok (rd x h1) λd h2=>∃ b,tru d=some b/\Q (.d (.bl (!b))) h2:=by
 rw [zqf];simp only [ok_bnd,ok_opt,ok_ok]
theorem zra {c:T} {a b:E}:Ok (ev Γ (.ife c a b) σ h) Q↔Ok (tv Γ c σ h) λt h1=>(t=true->Ok (ev Γ a σ h1) Q)/\(t=false->Ok (ev Γ b σ h1) Q):=by
 rw [zqs];simp only [ok_bnd]
 constructor<;>intro k<;>refine k.mono λt h1 q=>?_<;>cases t<;>simpa using q
theorem zrU {es:List E}:Ok (ev Γ (.tup es) σ h) Q↔Ok (evs Γ es σ h) λrs h1=>Ok (fzs rs h1) λds h2=>Q (.d (.tup ds)) h2:=by rw [zpk];simp only [ok_bnd,ok_ok]
theorem zoH {l:L}:Ok (ev Γ (.lst true l) σ h) Q↔Ok (evL Γ l σ h) λxs h1=>Q (.loc h1.length) (h1++[.lst xs]):=by rw [zl1];simp only [ok_bnd,alloc,if_true,ok_some']
theorem zpK {l:L}:Ok (ev Γ (.lst false l) σ h) Q↔Ok (evL Γ l σ h) λxs h1=>Q (.d (.lst xs)) h1:=by rw [zl1];simp only [ok_bnd,Bool.false_eq_true,if_false,ok_ok]
theorem zqS {a i:E}:Ok (ev Γ (.idx a i) σ h) Q↔Ok (ev Γ a σ h) λx h1=>Ok (ev Γ i σ h1) λy h2=>Ok (rd x h2) λx h3=>Ok (rd y h3) λy h4=>∃ z,idxD x y=some z/\Q (.d z) h4:=by rw [zqc];simp only [ok_bnd,ok_ok,ok_opt]
theorem zqR {a lo hi:E}:Ok (ev Γ (.sli a lo hi) σ h) Q↔Ok (ev Γ a σ h) λx h1=>Ok (ev Γ lo σ h1) λl h2=>Ok (ev Γ hi σ h2) λu h3=>Ok (rd x h3) λx h4=>Ok (rd l h4) λl h5=>Ok (rd u h5) λu h6=>∃ z,sliD x l u=some z/\Q (.d z) h6:=by rw [zov];simp only [ok_bnd,ok_ok,ok_opt]
theorem zpd {f:Nat} {es:List E}:Ok (ev Γ (.call f es) σ h) Q↔Ok (evs Γ es σ h) λrs h1=>Ok (Γ f rs h1) Q:=by rw [zmE];simp only [ok_bnd]
theorem w_bi {b:Bi} {es:List E}:Ok (ev Γ (.bi b es) σ h) Q↔Ok (evs Γ es σ h) λrs h1=>Ok (rds rs h1) λds h2=>∃ z,biD b ds=some z/\Q (.d z) h2:=by rw [zqN];simp only [ok_bnd,ok_ok,ok_opt]
theorem w_me {m:Me} {o:E} {es:List E}:Ok (ev Γ (.me m o es) σ h) Q↔Ok (ev Γ o σ h) λx h1=>Ok (zep x h1) λ_ h2=>Ok (evs Γ es σ h2) λrs h3=>Ok (meth m x rs h3) Q:=by rw [zrX];simp only [ok_bnd]
end
theorem zi1 {Q:List R->Sto->Prop}:Ok (evs Γ [] σ h) Q↔Q [] h:=by rw [zne];exact ok_ok
theorem zhR {e:E} {es:List E} {Q:List R->Sto->Prop}:Ok (evs Γ (e::es) σ h) Q↔Ok (ev Γ e σ h) λr h1=>Ok (evs Γ es σ h1) λrs h2=>Q (r::rs) h2:=by rw [zlQ];simp only [ok_bnd,ok_ok]
theorem ziC {Q:List D->Sto->Prop}:Ok (fzs [] h) Q↔Q [] h:=by rw [zm2];exact ok_ok
theorem zin {r:R} {rs:List R} {Q:List D->Sto->Prop}:Ok (fzs (r::rs) h) Q↔Ok (fz r h) λd h1=>Ok (fzs rs h1) λds h2=>Q (d::ds) h2:=by rw [zlb];simp only [ok_bnd,ok_ok]
theorem zj1 {Q:List D->Sto->Prop}:Ok (rds [] h) Q↔Q [] h:=by rw [zmB];exact ok_ok
theorem zhZ {r:R} {rs:List R} {Q:List D->Sto->Prop}:Ok (rds (r::rs) h) Q↔Ok (rd r h) λd h1=>Ok (rds rs h1) λds h2=>Q (d::ds) h2:=by rw [zkU];simp only [ok_bnd,ok_ok]
section
variable {Q:Bool->Sto->Prop}
theorem zrP {e:E}:Ok (tv Γ (.val e) σ h) Q↔Ok (ev Γ e σ h) λr h1=>Ok (rd r h1) λd h2=>∃ t,tru d=some t/\Q t h2:=by rw [zpX];simp only [ok_bnd,ok_opt]
theorem zpu {a b:T}:Ok (tv Γ (.and a b) σ h) Q↔Ok (tv Γ a σ h) λt h1=>(t=true->Ok (tv Γ b σ h1) Q)/\(t=false->Q false h1):=by
 rw [zql];simp only [ok_bnd]
 constructor<;>intro k<;>refine k.mono λt h1 q=>?_<;>cases t<;>simpa using q
theorem zq4 {a b:T}:Ok (tv Γ (.or a b) σ h) Q↔Ok (tv Γ a σ h) λt h1=>(t=false->Ok (tv Γ b σ h1) Q)/\(t=true->Q true h1):=by
 rw [zq5];simp only [ok_bnd]
 constructor<;>intro k<;>refine k.mono λt h1 q=>?_<;>cases t<;>simpa using q
theorem zoQ {a:T}:Ok (tv Γ (.not a) σ h) Q↔Ok (tv Γ a σ h) λt h1=>Q (!t) h1:=by rw [zoV];simp only [ok_bnd,ok_ok]
theorem zi5:Ok (tvs Γ [] σ h) Q↔Q true h:=by rw [zmT];exact ok_ok
theorem zit {c:T} {cs:List T}:Ok (tvs Γ (c::cs) σ h) Q↔Ok (tv Γ c σ h) λt h1=>(t=true->Ok (tvs Γ cs σ h1) Q)/\(t=false->Q false h1):=by
 rw [zlH];simp only [ok_bnd]
 constructor<;>intro k<;>refine k.mono λt h1 q=>?_<;>cases t<;>simpa using q
end
section
variable {Q:List D->Sto->Prop}
theorem zpQ {es:List E}:Ok (evL Γ (.disp es) σ h) Q↔Ok (evs Γ es σ h) λrs h1=>Ok (fzs rs h1) Q:=by rw [zlf];simp only [ok_bnd]
noncomputable def zh7 (Γ:Calls) (tg:Tg) (c:List T) (el:E) (σ:Env) (x:Ite):M (Option D):=bnd (za9 tg x (clr tg.slots σ)) λσ'=>bnd (tvs Γ c σ') λt=>if t then bnd (ev Γ el σ') λr=>bnd (fz r) λd=>ok (some d) else ok none
theorem zpZ {tg:Tg} {it:I} {c:List T} {el:E}:Ok (evL Γ (.comp tg it c el) σ h) Q↔Ok (evI Γ it σ h) λw h1=>Ok (zb1 w.l (zh7 Γ tg c el σ) w.xs h1) Q:=by rw [zkO];simp only [ok_bnd];rfl
end
theorem znH {tg:Tg} {c:List T} {el:E} {x:Ite} {Q:Option D->Sto->Prop}:Ok (zh7 Γ tg c el σ x h) Q↔Ok (za9 tg x (clr tg.slots σ) h) λσ' h1=>Ok (tvs Γ c σ' h1) λt h2=>(t=true->Ok (ev Γ el σ' h2) λr h3=>Ok (fz r h3) λd h4=>Q (some d) h4)/\(t=false->Q none h2):=by
 unfold zh7
 simp only [ok_bnd]
 constructor<;>intro k<;>refine k.mono λσ' h1 q=>?_<;>refine q.mono λt h2 q=>?_<;>cases t<;>simpa using q
noncomputable def zn7 (Γ:Calls) (tg:Tg) (c:List T) (el:E) (σ:Env) (x:Ite):M (Option Nat):=bnd (za9 tg x (clr tg.slots σ)) λσ'=>bnd (tvs Γ c σ') λt=>if t then bnd (ev Γ el σ') λr=>bnd (zdm r) λd=>ok (some d) else ok none
theorem zms {tg:Tg} {c:List T} {el:E} {x:Ite} {Q:Option Nat->Sto->Prop}:Ok (zn7 Γ tg c el σ x h) Q↔Ok (za9 tg x (clr tg.slots σ) h) λσ' h1=>Ok (tvs Γ c σ' h1) λt h2=>(t=true->Ok (ev Γ el σ' h2) λr h3=>Ok (zdm r h3) λd h4=>Q (some d) h4)/\(t=false->Q none h2):=by
 unfold zn7
 simp only [ok_bnd]
 constructor<;>intro k<;>refine k.mono λσ' h1 q=>?_<;>refine q.mono λt h2 q=>?_<;>cases t<;>simpa using q
section
variable {Q:Wk->Sto->Prop}
theorem zqV {e:E}:Ok (evI Γ (.seq e) σ h) Q↔Ok (ev Γ e σ h) λr h1=>Ok (zbo r h1) Q:=by rw [zna];simp only [ok_bnd]
theorem zrj {k:Nat} {e:E}:Ok (evI Γ (.enk k e) σ h) Q↔Ok (ev Γ e σ h) λr h1=>Ok (zft k r h1) Q:=by rw [zmS];simp only [ok_bnd]
theorem zk4 {xs:List D}:Ok (zbo (.d (.tup xs)) h) Q↔Q ⟨xs.map dI,none⟩ h:=by simp only [zbo,zdG,ok_bnd,ok_some',ok_rd_d,wkOf,items,ok_ok]
theorem zhE {xs:List D}:Ok (zbo (.d (.lst xs)) h) Q↔Q ⟨xs.map dI,none⟩ h:=by simp only [zbo,zdG,ok_bnd,ok_some',ok_rd_d,wkOf,items,ok_ok]
theorem zlE {l:Nat}:Ok (zbo (.loc l) h) Q↔∃ o,h[l]?=some o/\match o with
  | .lst xs=>Q ⟨xs.map dI,some l⟩ h
  | .fro xs=>Q ⟨xs.map dI,some l⟩ h
  | .ols ls=>Q ⟨ls.map λl=>.r (.loc l),some l⟩ h
  | .ins _ _=>False
  | .dic _=>False
  | .dfr _=>False:=by
 simp only [zbo,zdG,ok_bnd]
 cases e:h[l]? with
 | none=>simp [rd,e]
 | some o=>cases o<;>simp [rd,e,Ob.isL,Ob.items,wkOf,items]
theorem zrk {e:E}:Ok (evI Γ (.rng e) σ h) Q↔Ok (ev Γ e σ h) λr h1=>Ok (zfq r h1) Q:=by rw [zmW];simp only [ok_bnd]
theorem znc {n:Int}:Ok (zfq (.d (.int n)) h) Q↔(-(2 ^ 62)<=n/\n<=16777216)/\Q ⟨(zbH 0 n.toNat).map dI,none⟩ h:=by
 simp only [zfq]
 by_cases c:-(2 ^ 62)<=n/\n<=16777216
 ·rw [if_pos (by rw [Bool.and_eq_true];exact ⟨decide_eq_true c.1,decide_eq_true c.2⟩),ok_ok]
  exact ⟨λq=>⟨c,q⟩,λq=>q.2⟩
 ·rw [if_neg (by rw [Bool.and_eq_true];exact λz=>c ⟨of_decide_eq_true z.1,of_decide_eq_true z.2⟩)]
  simp only [ok_none,false_iff]
  exact λz=>c z.1
end
theorem zlW {l:Nat} {Q:D->Sto->Prop}:Ok (rd (.loc l) h) Q↔∃ o,h[l]?=some o/\o.isL=true/\Q (.lst o.items) h:=by
 simp only [rd]
 cases h[l]? with
 | none=>simp
 | some o=>cases o<;>simp [Ob.isL]
theorem zlB {l:Nat} {Q:D->Sto->Prop}:Ok (fz (.loc l) h) Q↔∃ o,h[l]?=some o/\o.isL=true/\Q (.lst o.items) (h.set l (.fro o.items)):=by
 simp only [fz]
 cases h[l]? with
 | none=>simp
 | some o=>cases o<;>simp [Ob.isL]
theorem zmP {l:Nat} {Q:Unit->Sto->Prop}:Ok (zep (.loc l) h) Q↔∃ o,h[l]?=some o/\o.isL=true/\Q () h:=by
 simp only [zep]
 cases h[l]? with
 | none=>simp
 | some o=>cases o<;>simp [Ob.isL]
theorem ziV {l:Nat} {Q:Nat->Sto->Prop}:Ok (zdm (.loc l) h) Q↔∃ c fs,h[l]?=some (.ins c fs)/\Q l h:=by
 simp only [zdm]
 cases h[l]? with
 | none=>simp
 | some o=>cases o<;>simp
theorem zlc {l:Nat} {r:R} {Q:R->Sto->Prop}:Ok (meth .append (.loc l) [r] h) Q↔Ok (fz r h) λd h1=>∃ xs,h1[l]?=some (.lst xs)/\xs.length<big/\Q (.d .non) (h1.set l (.lst (xs++[d]))):=by
 rw [zgK,ok_bnd]
 constructor<;>intro k<;>refine k.mono λd h1 q=>?_
 ·cases e:h1[l]? with
  | none=>rw [e] at q;simp at q
  | some o=>
   rw [e] at q
   cases o with
   | fro xs=>simp at q
   | ins _ _=>simp at q
   | ols _=>simp at q
   | dic _=>simp at q
   | dfr _=>simp at q
   | lst xs=>
    simp only at q
    by_cases c:xs.length<big
    ·rw [if_pos (decide_eq_true c)] at q;exact ⟨xs,rfl,c,by simpa using q⟩
    ·rw [if_neg (by simpa using c)] at q;simp at q
 ·obtain ⟨xs,e,c,q⟩:=q
  rw [e]
  simp only
  rw [if_pos (decide_eq_true c)]
  simpa using q
theorem zmZ {l:Nat} {k:Int} {d:D} {Q:Unit->Sto->Prop}:Ok (zeD (.loc l) (.int k) d h) Q↔∃ xs,h[l]?=some (.lst xs)/\∃ j,ixn xs.length k=some j/\Q () (h.set l (.lst (xs.set j d))):=by
 simp only [zeD]
 cases e:h[l]? with
 | none=>simp
 | some o=>
  cases o with
  | fro xs=>simp
  | ins _ _=>simp
  | ols _=>simp
  | dic _=>simp
  | dfr _=>simp
  | lst xs=>
   simp only [Option.some.injEq,Ob.lst.injEq,exists_eq_left']
   cases c:ixn xs.length k with
   | none=>simp
   | some j=>simp
end
section
variable {Γ:Calls} {σ:Env} {h:Sto}
theorem zrF {d:D} {Q:R->Sto->Prop}:Ok (ev Γ (.glo d) σ h) Q↔Q (.d d) h:=by rw [zoT];exact ok_ok
theorem zpt {e:E} {Q:R->Sto->Prop}:Ok (ev Γ (.lset e) σ h) Q↔Ok (ev Γ e σ h) λr h1=>Ok (rd r h1) λd h2=>∃ z,zc5 d=some z/\Q (.d z) h2:=by rw [znQ];simp only [ok_bnd,ok_ok,ok_opt]
theorem zrd {t:Ty} {e:E} {Q:R->Sto->Prop}:Ok (ev Γ (.isi t e) σ h) Q↔Ok (ev Γ e σ h) λr h1=>Ok (rd r h1) λd h2=>Q (.d (.bl (isiD t d))) h2:=by rw [zpm];simp only [ok_bnd,ok_ok]
theorem w_tm {m:Tm} {o:E} {es:List E} {Q:R->Sto->Prop}:Ok (ev Γ (.tm m o es) σ h) Q↔Ok (ev Γ o σ h) λx h1=>Ok (evs Γ es σ h1) λrs h2=>Ok (rd x h2) λd h3=>Ok (rds rs h3) λds h4=>∃ z,tmD m d ds=some z/\Q (.d z) h4:=by rw [zrs];simp only [ok_bnd,ok_ok,ok_opt]
theorem w_lm {m:Lm} {o a:E} {Q:R->Sto->Prop}:Ok (ev Γ (.lm m o a) σ h) Q↔Ok (ev Γ o σ h) λx h0=>Ok (rd x h0) λ_ h1=>Ok (ev Γ a σ h1) λy h2=>Ok (rd x h2) λx h3=>Ok (rd y h3) λy h4=>∃ z,lmD m x y=some z/\Q (.d z) h4:=by rw [zrp];simp only [ok_bnd,ok_ok,ok_opt]
theorem zrM {a b:E} {Q:List D->Sto->Prop}:Ok (evL Γ (.spl a b) σ h) Q↔Ok (ev Γ a σ h) λx h1=>Ok (ev Γ b σ h1) λy h2=>Ok (rd x h2) λx h3=>Ok (rd y h3) λy h4=>∃ xs,splD x y=some xs/\Q xs h4:=by rw [znb];simp only [ok_bnd,ok_opt]
theorem zrb {Q:Fl×Env->Sto->Prop}:Ok (ex Γ .stuck σ h) Q↔False:=by rw [zlC];exact ok_none
theorem zrr {Q:R->Sto->Prop}:Ok (ev Γ .stuck σ h) Q↔False:=by rw [zk8];exact ok_none
theorem zkG {l:Nat} {r:R} {Q:R->Sto->Prop}:Ok (meth .extend (.loc l) [r] h) Q↔Ok (rd r h) λd h1=>∃ ys xs,d=.lst ys/\h1[l]?=some (.lst xs)/\fit (xs.length+ys.length)=true/\Q (.d .non) (h1.set l (.lst (xs++ys))):=by
 rw [zg2,ok_bnd]
 refine iff_of_eq (congrArg (Ok (rd r h)) (funext λd=>funext λh1=>propext ?_))
 cases d with
 | lst ys=>
  simp only [D.lst.injEq,exists_eq_left']
  cases e:h1[l]? with
  | none=>simp
  | some o=>
   cases o with
   | fro xs=>simp
   | ins _ _=>simp
   | ols _=>simp
   | dic _=>simp
   | dfr _=>simp
   | lst xs=>
    simp only [Option.some.injEq,Ob.lst.injEq,exists_eq_left',and_assoc]
    cases c:fit (xs.length+ys.length)<;>simp [c]
 | _=>simp
theorem zrC {l:Nat} {Q:R->Sto->Prop}:Ok (meth .pop (.loc l) [] h) Q↔∃ xs,h[l]?=some (.lst xs)/\∃ y,xs[xs.length-1]?=some y/\Q (.d y) (h.set l (.lst xs.dropLast)):=by
 rw [zly];dsimp only
 cases e:h[l]? with
 | none=>simp
 | some o=>
  cases o with
  | fro xs=>simp
  | ins _ _=>simp
  | ols _=>simp
  | dic _=>simp
  | dfr _=>simp
  | lst xs=>
   simp only [Option.some.injEq,Ob.lst.injEq,exists_eq_left']
   cases c:xs[xs.length-1]? with
   | none=>simp
   | some y=>simp
theorem zmY {l:Nat} {Q:R->Sto->Prop}:Ok (meth .clear (.loc l) [] h) Q↔∃ xs,h[l]?=some (.lst xs)/\Q (.d .non) (h.set l (.lst [])):=by
 rw [zhN];dsimp only
 cases e:h[l]? with
 | none=>simp
 | some o=>cases o<;>simp
end
class Cont (α:Type) where
 q:α->Sto->Prop
structure Ask {α:Type} (m:Option (α×Sto)) [c:Cont α]:Prop where
 ok:Ok m c.q
theorem ask {α:Type} {m:Option (α×Sto)} {Q:α->Sto->Prop} (k:Ok m Q):@Ask α m ⟨Q⟩:=@Ask.mk α m ⟨Q⟩ k
theorem zpx {α:Type} {m:Option (α×Sto)} {Q:α->Sto->Prop}:Ok m Q↔@Ask α m ⟨Q⟩:=⟨λk=>@Ask.mk α m ⟨Q⟩ k,λk=>@Ask.ok α m ⟨Q⟩ k⟩
theorem zoa {a b:Int} (c:(zgu a||zgu b)=true):bop .mul (.int a) (.int b)=some (.int (a*b)):=if_pos c
theorem ziQ {a b:Int} (c:0<b):bop .mod (.int a) (.int b)=some (.int (a % b)):=if_pos (decide_eq_true c)
theorem zlF {a:Int} (c:-(2 ^ 64)<a) (c2:a<2 ^ 64):zgu a=true:=by simp only [zgu,Bool.and_eq_true,decide_eq_true_eq];exact ⟨c,c2⟩
theorem zoY {n:Nat} {i:Int} (c:0<=i) (c2:i<n):ixn n i=some i.toNat:=by
 unfold ixn
 rw [if_pos c,if_pos c2]
theorem zow {α:Type} {xs:List α} {i:Int} {x:α} (c:0<=i) (e:xs[i.toNat]?=some x):at' xs i=some x:=by
 have:=(List.getElem?_eq_some_iff.mp e).1
 unfold at'
 rw [zoY c (by omega)]
 exact e
theorem zfg {xs:List D} {i:Int} {x:D} (c:0<=i) (e:xs[i.toNat]?=some x):idxD (.lst xs) (.int i)=some x:=zow c e
theorem zlX {x:D} {xs:List D}:idxD (.lst (x::xs)) (.int 0)=some x:=by refine zfg (by decide) rfl
theorem zqv {x y:D} {xs:List D}:idxD (.lst (x::y::xs)) (.int 1)=some y:=by refine zfg (by decide) rfl
theorem zkq {a b:D} (c:zgv a b=true):cop .eq a b=some (.bl (a.eqb b)):=if_pos c
theorem znF {a b:D} (c:zgv a b=true):cop .ne a b=some (.bl (!a.eqb b)):=if_pos c
theorem zhG {x y:List Nat} (c:y≠[]) (c2:fit x.length=true):tmD .parti (.str x) [.str y]=some (.tup (match fnd y x with | some i=>[.str (x.take i),.str y,.str (x.drop (i+y.length))] | none=>[.str x,.str [],.str []])):=by
 cases y with
 | nil=>exact absurd rfl c
 | cons a y=>simp only [tmD,List.isEmpty_cons,c2,Bool.not_true,Bool.or_self];rfl
theorem zdO:∀ l:List (List Nat),txts (l.map D.str)=some l
 | []=>rfl
 | x::l=>by simp only [List.map_cons,txts,zdO l]
theorem zlk {z:List Nat} {xs:List D} {l:List (List Nat)} (c:txts xs=some l) (c2:fit (l.map λy=>y.length+z.length).sum=true):tmD .join (.str z) [.lst xs]=some (.str (catS z l)):=by
 simp only [tmD,items,c,c2,if_true]
theorem zkW {z:List Nat} {xs:List D} {l:List (List Nat)} (c:txts xs=some l) (c2:fit (l.map λy=>y.length+z.length).sum=true):tmD .join (.str z) [.tup xs]=some (.str (catS z l)):=by
 simp only [tmD,items,c,c2,if_true]
theorem zlq {x y:List Nat} (c:y≠[]) (c2:fit (x.length+1)=true) (c3:fit (splS y x.length x).length=true):splD (.str x) (.str y)=some ((splS y x.length x).map D.str):=by
 cases y with
 | nil=>exact absurd rfl c
 | cons a y=>simp only [splD,List.isEmpty_cons,c2,c3,Bool.not_true,Bool.or_self];rfl
theorem zqL {xs:List Nat} {a:Int} (c:fit xs.length=true):sliD (.str xs) .non (.int a)=some (.str (cut xs none (some a))):=by simp only [sliD,part,cutD,c,if_true]
theorem zpj {xs:List Nat} {a:Int} (c:fit xs.length=true):sliD (.str xs) (.int a) .non=some (.str (cut xs (some a) none)):=by simp only [sliD,part,cutD,c,if_true]
theorem zk3 {xs:List Nat} {h:Sto} {Q:Wk->Sto->Prop} (c:fit xs.length=true):Ok (zbo (.d (.str xs)) h) Q↔Q ⟨(xs.map λc=>D.str [c]).map dI,none⟩ h:=by simp only [zbo,zdG,ok_bnd,ok_some',ok_rd_d,wkOf,items,c,if_true,ok_ok]
theorem zns {xs:List D} {i:Int} (c:0<=i) (c2:i<xs.length):∃ x∈xs,idxD (.lst xs) (.int i)=some x:=by
 have hl:i.toNat<xs.length:=by omega
 exact ⟨xs[i.toNat],List.getElem_mem hl,zfg c (List.getElem?_eq_getElem hl)⟩
theorem znv {α:Type} {xs:List α} {x:α}:at' (xs++[x]) (-1)=some x:=by
 have:ixn (xs++[x]).length (-1)=some xs.length:=by
  unfold ixn
  rw [if_neg (by decide),if_pos (by simp;omega)]
  congr 1
  simp
  omega
 simp only [at',this]
 simp
theorem zax {h:Sto} {x:Ob} {t:Sto}:(h++(x::t))[h.length]?=some x:=by
 rw [List.getElem?_append_right (Nat.le_refl _),Nat.sub_self];rfl
theorem zbt {h:Sto} {x y:Ob} {t:Sto}:(h++(x::t)).set h.length y=h++(y::t):=by
 rw [List.set_append_right _ _ (Nat.le_refl _),Nat.sub_self];rfl
theorem zhC {h t:Sto}:(h++t).take h.length=h:=by simp
theorem zah {h h':Sto}:zbb none h h'=true:=rfl
theorem zmf {a b:D} (c:b.dep<=60):zgv a b=true:=by unfold zgv;exact decide_eq_true (by omega)
theorem zqh {a b:D} (c:a.dep<=60):zgv a b=true:=by unfold zgv;exact decide_eq_true (by omega)
mutual
theorem D.eqb_rfl:∀ x:D,x.eqb x=true
 | .non=>rfl
 | .bl a=>by simp [D.eqb]
 | .int a=>by simp [D.eqb]
 | .str a=>by simp [D.eqb]
 | .tup a=>by simp only [D.eqb];exact D.eqbs_rfl a
 | .lst a=>by simp only [D.eqb];exact D.eqbs_rfl a
theorem D.eqbs_rfl:∀ x:List D,D.eqbs x x=true
 | []=>rfl
 | a::r=>by simp only [D.eqbs,Bool.and_eq_true];exact ⟨D.eqb_rfl a,D.eqbs_rfl r⟩
end
theorem zgJ:∀ {xs:List D} {n:Nat},(∀ x∈xs,x.dep<=n)->D.deps xs<=n
 | [],_,_=>by simp [D.deps]
 | x::xs,n,h=>by
  have h1:=h x (by simp)
  have h2:=zgJ (xs:=xs) (n:=n) λy hy=>h y (by simp [hy])
  simp only [D.deps];omega
theorem Ok.eq {α:Type} {m:Option (α×Sto)} {a:α} {h:Sto} (k:Ok m λb h1=>b=a/\h1=h):m=some (a,h):=by
 obtain ⟨b,h1,e,rfl,rfl⟩:=k
 exact e
theorem zgL {α β:Type} {d:β->Ite} {l:Option Nat} {f:Ite->M (Option α)} {g:β->Option α} {h:Sto} {xs:List β} {Q:List α->Sto->Prop} (e:∀ x∈xs,Ok (f (d x) h) λo h1=>o=g x/\h1=h) (s:zbb l h h=true) (q:Q (xs.filterMap g) h):Ok (zb1 l f (xs.map d) h) Q:=
 ⟨_,_,zeR (λx hx=>(e x hx).eq) s,q⟩
theorem zil {l:Nat} {h:Sto} {xs:List D} (e:h[l]?=some (.lst xs)):zbb (some l) h h=true:=by
 simp only [zbb,e,Ob.same,Ob.isL,Ob.items,Bool.true_and]
 exact D.sames_refl _
theorem R.same_self:∀ x:R,x.same x=true
 | .d x=>D.same_refl x
 | .loc l=>by simp [R.same]
theorem zcK:∀ fs:List (PySem.Str×R),zdd fs fs=true
  | []=>rfl
  | (f,x)::r=>by simp [zdd,R.same_self,zcK r]
theorem zcG:∀ kvs:List (D×D),zbr kvs kvs=true
 | []=>rfl
 | p::r=>by simp [zbr,D.same_refl,zcG r]
theorem zd7 (o:Ob) (h:Sto) (o1:Ob) (t:Sto):objs (o::h) (o1::t)=((match o,o1 with
   | .ins c fs,.ins c1 fs1=>c==c1&&zdd fs fs1
   | .ols a,.ols b=>a==b
   | .dic a,.dic b=>zbr a b
   | .dfr a,.dfr b=>zbr a b
   | .lst _,.lst _=>true
   | .lst _,.fro _=>true
   | .fro _,.lst _=>true
   | .fro _,.fro _=>true
   | _,_=>false)&&objs h t):=rfl
theorem zc7:∀ {h t:Sto},objs h (h++t)=true
 | [],_=>rfl
 | o::h,t=>by
  rw [List.cons_append,zd7,zc7,Bool.and_true]
  cases o<;>simp [zcK,zcG]
theorem zjN {h:Sto}:objs h h=true:=by
 have:=zc7 (h:=h) (t:=[])
 rwa [List.append_nil] at this
theorem zeo:∀ {h t:Sto} {l:Nat} {xs ys:List D},h[l]?=some (.lst xs)->objs h (h.set l (.lst ys)++t)=true
 | [],_,_,_,_,e=>by simp at e
 | o::h,t,0,xs,ys,e=>by
  simp at e
  subst e
  rw [List.set_cons_zero,List.cons_append,zd7,zc7,Bool.and_true]
 | o::h,t,l+1,xs,ys,e=>by
  have:=zeo (h:=h) (t:=t) (l:=l) (xs:=xs) (ys:=ys) (by simpa using e)
  rw [List.set_cons_succ,List.cons_append,zd7,this,Bool.and_true]
  cases o<;>simp [zcK,zcG]
theorem zlg {h:Sto} {l:Nat} {xs ys:List D} (e:h[l]?=some (.lst xs)):objs h (h.set l (.lst ys))=true:=by
 have:=zeo (t:=[]) (ys:=ys) e
 rwa [List.append_nil] at this
theorem zaU {h:Sto} {x y:Ob} {t:Sto}:(h++(x::y::t))[h.length+1]?=some y:=by
 rw [List.getElem?_append_right (by omega),Nat.add_sub_cancel_left];rfl
theorem zc0 {h:Sto} {x y z:Ob} {t:Sto}:(h++(x::y::t)).set (h.length+1) z=h++(x::z::t):=by
 rw [List.set_append_right _ _ (by omega),Nat.add_sub_cancel_left];rfl
theorem znS {α β:Type} {f:α->β} {xs:List α} {a b:Option Int}:cut (xs.map f) a b=(cut xs a b).map f:=by
 unfold cut
 rw [List.length_map,List.map_take,List.map_drop]
theorem zbL:∀ (n:Nat) (lo:Int),(zbH lo n).length=n
 | 0,_=>rfl
 | n+1,lo=>by simp [zbH,zbL n]
theorem zcS:∀ (n:Nat) (lo:Int) (i:Nat) (x:D),(zbH lo n)[i]?=some x->i<n/\x=.int (lo+i)
 | 0,lo,i,x,e=>by simp [zbH] at e
 | n+1,lo,i,x,e=>by
  cases i with
  | zero=>simp [zbH] at e;exact ⟨by omega,by rw [<-e];simp⟩
  | succ i=>
   simp only [zbH,List.getElem?_cons_succ] at e
   obtain ⟨h1,h2⟩:=zcS n (lo+1) i x e
   refine ⟨by omega,?_⟩
   rw [h2]
   congr 1
   push_cast
   omega
theorem ziB {P:List F} {n f:Nat} {rs rs':List R} {h:Sto} {Q:R->Sto->Prop} {F:IT.F} (e:P[f]?=some F) (er:zbj F.np F.dfl rs=rs') (el:rs'.length=F.np)
  (k:Ok (exs (zaq P n) F.body (rs'.map some++List.replicate (F.ns-F.np) none) h) λp h1=>match p.1 with
   | .ret r=>Ok (fin h F.all F.keep r h1) Q
   | .nx=>Ok (fin h F.all F.keep (.d .non) h1) Q
   | _=>False):Ok (zaq P (n+1) f rs h) Q:=by
 obtain ⟨⟨fl,σ⟩,h1,ee,q⟩:=k
 rw [zbO]
 simp only [e,er]
 rw [if_pos el,ee]
 cases fl with
 | ret r=>exact q
 | nx=>exact q
 | brk=>exact q.elim
 | cnt=>exact q.elim
theorem zrR {np:Nat} {rs:List R}:zbj np [] rs=rs:=by
 unfold zbj
 split
 ·rfl
 ·simp
theorem zm6 {P:List F} {n f:Nat} {rs:List R} {h:Sto} {Q:R->Sto->Prop} {F:IT.F} (e:P[f]?=some F) (ed:F.dfl=[]) (el:rs.length=F.np)
  (k:Ok (exs (zaq P n) F.body (rs.map some++List.replicate (F.ns-F.np) none) h) λp h1=>match p.1 with
   | .ret r=>Ok (fin h F.all F.keep r h1) Q
   | .nx=>Ok (fin h F.all F.keep (.d .non) h1) Q
   | _=>False):Ok (zaq P (n+1) f rs h) Q:=ziB e (by rw [ed];exact zrR) el k
theorem zn1 {k:Bool} {x:D} {h h1:Sto} {Q:R->Sto->Prop}:Ok (fin h false k (.d x) h1) Q↔objs h h1=true/\Q (.d x) (h1.take h.length):=by
 simp only [fin,Bool.false_eq_true,if_false]
 by_cases c:objs h h1=true
 ·rw [if_pos c];simp [fin0,c]
 ·rw [if_neg c];simp [c]
theorem zk2 {xs:List D} {h t:Sto} {Q:R->Sto->Prop} (q:Q (.loc h.length) (h++[.lst xs])):Ok (fin h false true (.loc h.length) (h++.lst xs::t)) Q:=by
 simp only [fin,Bool.false_eq_true,if_false,zc7,if_true,fin0,zax,Nat.lt_irrefl,zhC,ok_some']
 exact q
end IT
set_option linter.all false
set_option maxRecDepth 10000
namespace IT
open PySem (Str)
noncomputable def wO {α:Type} (o:Option α) (Q:α->Prop):Prop:=match o with
 | some a=>Q a
 | none=>False
noncomputable def wB (t:Bool) (A B:Prop):Prop:=match t with
 | true=>A
 | false=>B
noncomputable def wLs (o:Ob) (Q:List D->Prop):Prop:=match o with
 | .lst xs=>Q xs
 | .fro xs=>Q xs
 | .ins _ _=>False
 | .ols _=>False
 | .dic _=>False
 | .dfr _=>False
noncomputable def wLw (o:Ob) (Q:List D->Prop):Prop:=match o with
 | .lst xs=>Q xs
 | .fro _=>False
 | .ins _ _=>False
 | .ols _=>False
 | .dic _=>False
 | .dfr _=>False
noncomputable def wIn (o:Ob) (Q:Str->List (Str×R)->Prop):Prop:=match o with
 | .ins c fs=>Q c fs
 | .lst _=>False
 | .fro _=>False
 | .ols _=>False
 | .dic _=>False
 | .dfr _=>False
noncomputable def wDc (o:Ob) (Q:List (D×D)->Prop):Prop:=match o with
 | .dic kvs=>Q kvs
 | .dfr kvs=>Q kvs
 | .lst _=>False
 | .fro _=>False
 | .ins _ _=>False
 | .ols _=>False
noncomputable def wDw (o:Ob) (Q:List (D×D)->Prop):Prop:=match o with
 | .dic kvs=>Q kvs
 | .dfr _=>False
 | .lst _=>False
 | .fro _=>False
 | .ins _ _=>False
 | .ols _=>False
noncomputable def wDf (o:Ob) (Q:List (D×D)->Prop):Prop:=match o with
 | .dfr kvs=>Q kvs
 | .dic _=>False
 | .lst _=>False
 | .fro _=>False
 | .ins _ _=>False
 | .ols _=>False
noncomputable def wKey (r:R) (Q:D->Prop):Prop:=match r with
 | .d k=>wB (zbU k) (Q k) False
 | .loc _=>False
noncomputable def wRd (r:R) (h:Sto) (Q:D->Sto->Prop):Prop:=match r with
 | .d x=>Q x h
 | .loc l=>wO h[l]? λo=>wLs o λxs=>Q (.lst xs) h
noncomputable def wFz (r:R) (h:Sto) (Q:D->Sto->Prop):Prop:=match r with
 | .d x=>Q x h
 | .loc l=>wO h[l]? λo=>wLs o λxs=>Q (.lst xs) (h.set l (.fro xs))
noncomputable def wRds:List R->Sto->(List D->Sto->Prop)->Prop
 | [],h,Q=>Q [] h
 | r::rs,h,Q=>wRd r h λd h1=>wRds rs h1 λds h2=>Q (d::ds) h2
noncomputable def wFzs:List R->Sto->(List D->Sto->Prop)->Prop
 | [],h,Q=>Q [] h
 | r::rs,h,Q=>wFz r h λd h1=>wFzs rs h1 λds h2=>Q (d::ds) h2
noncomputable def wBl (r:R) (Q:Bool->Prop):Prop:=match r with
 | .d (.bl b)=>Q b
 | _=>False
noncomputable def wInt (r:R) (Q:Int->Prop):Prop:=match r with
 | .d (.int b)=>Q b
 | _=>False
noncomputable def wPl (r:R) (Q:Nat->Prop):Prop:=match r with
 | .loc l=>Q l
 | .d _=>False
noncomputable def wTup (d:D) (Q:List D->Prop):Prop:=match d with
 | .tup xs=>Q xs
 | _=>False
mutual
noncomputable def wT:Tg->R->Env->Sto->(Env->Sto->Prop)->Prop
 | .name i,r,σ,h,Q=>Q (σ.set i (some r)) h
 | .tup ts,r,σ,h,Q=>wRd r h λd h1=>wTup d λxs=>wTs ts xs σ h1 Q
noncomputable def wTs:List Tg->List D->Env->Sto->(Env->Sto->Prop)->Prop
 | [],xs,σ,h,Q=>match xs with
  | []=>Q σ h
  | _::_=>False
 | t::ts,xs,σ,h,Q=>match xs with
  | x::xs=>wT t (.d x) σ h λσ' h1=>wTs ts xs σ' h1 Q
  | []=>False
end
noncomputable def wBI (tg:Tg) (x:Ite) (σ:Env) (h:Sto) (Q:Env->Sto->Prop):Prop:=match x with
 | .r x=>wT tg x σ h Q
 | .en i x=>match tg with
  | .tup [a,b]=>wT a (.d (.int i)) σ h λσ' h1=>wT b x σ' h1 Q
  | _=>False
noncomputable def wWk (r:R) (h:Sto) (Q:Wk->Sto->Prop):Prop:=match r with
 | .d (.tup xs)=>Q ⟨xs.map dI,none⟩ h
 | .d (.lst xs)=>Q ⟨xs.map dI,none⟩ h
 | .d (.str x)=>wB (fit x.length) (Q ⟨(x.map λc=>D.str [c]).map dI,none⟩ h) False
 | .d _=>False
 | .loc l=>wO h[l]? λo=>match o with
  | .lst xs=>Q ⟨xs.map dI,some l⟩ h
  | .fro xs=>Q ⟨xs.map dI,some l⟩ h
  | .ols ls=>Q ⟨ls.map λl=>.r (.loc l),some l⟩ h
  | .ins _ _=>False
  | .dic _=>False
  | .dfr _=>False
noncomputable def wMe (m:Me) (x:R) (rs:List R) (h:Sto) (Q:R->Sto->Prop):Prop:=match m,rs with
 | .append,[r]=>wPl x λl=>wFz r h λd h1=>wO h1[l]? λo=>wLw o λxs=>xs.length<big/\Q (.d .non) (h1.set l (.lst (xs++[d])))
 | .pop,[]=>wPl x λl=>wO h[l]? λo=>wLw o λxs=>wO xs[xs.length-1]? λy=>Q (.d y) (h.set l (.lst xs.dropLast))
 | .clear,[]=>wPl x λl=>wO h[l]? λo=>wLw o λ_=>Q (.d .non) (h.set l (.lst []))
 | .extend,[r]=>wPl x λl=>wRd r h λd h1=>wO (match d with | .lst ys=>some ys | _=>none) λys=>wO h1[l]? λo=>wLw o λxs=>fit (xs.length+ys.length)=true/\Q (.d .non) (h1.set l (.lst (xs++ys)))
 | m,rs=>Ok (meth m x rs h) Q
mutual
noncomputable def wE (Γ:Calls):E->Env->Sto->(R->Sto->Prop)->Prop
 | .con d,_,h,Q=>Q (.d d) h
 | .var i,σ,h,Q=>wO σ[i]? λo=>wO o λr=>Q r h
 | .bin o a b,σ,h,Q=>wE Γ a σ h λx h1=>wE Γ b σ h1 λy h2=>wRd x h2 λx h3=>wRd y h3 λy h4=>wO (bop o x y) λz=>Q (.d z) h4
 | .neg a,σ,h,Q=>wE Γ a σ h λx h1=>wInt x λi=>Q (.d (.int (-i))) h1
 | .cmp o a b,σ,h,Q=>wE Γ a σ h λx h1=>wE Γ b σ h1 λy h2=>wRd x h2 λx h3=>wRd y h3 λy h4=>wO (cop o x y) λz=>Q (.d z) h4
 | .and a b,σ,h,Q=>wE Γ a σ h λx h1=>wBl x λc=>wB c (wE Γ b σ h1 Q) (Q (.d (.bl false)) h1)
 | .or a b,σ,h,Q=>wE Γ a σ h λx h1=>wBl x λc=>wB c (Q (.d (.bl true)) h1) (wE Γ b σ h1 Q)
 | .not a,σ,h,Q=>wE Γ a σ h λx h1=>wRd x h1 λd h2=>wO (tru d) λb=>Q (.d (.bl (!b))) h2
 | .ife c a b,σ,h,Q=>wC Γ c σ h λt h1=>wB t (wE Γ a σ h1 Q) (wE Γ b σ h1 Q)
 | .tup es,σ,h,Q=>wEs Γ es σ h λrs h1=>wFzs rs h1 λds h2=>Q (.d (.tup ds)) h2
 | .lst m l,σ,h,Q=>wL Γ l σ h λxs h1=>match m with
  | true=>Q (.loc h1.length) (h1++[.lst xs])
  | false=>Q (.d (.lst xs)) h1
 | .idx a i,σ,h,Q=>wE Γ a σ h λx h1=>wE Γ i σ h1 λy h2=>wRd x h2 λx h3=>wRd y h3 λy h4=>wO (idxD x y) λz=>Q (.d z) h4
 | .sli a lo hi,σ,h,Q=>wE Γ a σ h λx h1=>wE Γ lo σ h1 λl h2=>wE Γ hi σ h2 λu h3=>wRd x h3 λx h4=>wRd l h4 λl h5=>wRd u h5 λu h6=>wO (sliD x l u) λz=>Q (.d z) h6
 | .call f es,σ,h,Q=>wEs Γ es σ h λrs h1=>@Ask _ (Γ f rs h1) ⟨Q⟩
 | .bi b es,σ,h,Q=>wEs Γ es σ h λrs h1=>wRds rs h1 λds h2=>wO (biD b ds) λz=>Q (.d z) h2
 | .me m o es,σ,h,Q=>wE Γ o σ h λx h1=>wPl x λl=>wO h1[l]? λo=>wLs o λ_=>wEs Γ es σ h1 λrs h3=>wMe m (.loc l) rs h3 Q
 | .glo d,_,h,Q=>Q (.d d) h
 | .isi t e,σ,h,Q=>wE Γ e σ h λr h1=>wRd r h1 λd h2=>Q (.d (.bl (isiD t d))) h2
 | .lset e,σ,h,Q=>wE Γ e σ h λr h1=>wRd r h1 λd h2=>wO (zc5 d) λz=>Q (.d z) h2
 | .tm m o es,σ,h,Q=>wE Γ o σ h λx h1=>wEs Γ es σ h1 λrs h2=>wRd x h2 λd h3=>wRds rs h3 λds h4=>wO (tmD m d ds) λz=>Q (.d z) h4
 | .lm m o a,σ,h,Q=>wE Γ o σ h λx h0=>wRd x h0 λ_ h1=>wE Γ a σ h1 λy h2=>wRd x h2 λx h3=>wRd y h3 λy h4=>wO (lmD m x y) λz=>Q (.d z) h4
 | .dnew,_,h,Q=>Q (.loc h.length) (h++[.dic []])
 | .din neg k d,σ,h,Q=>wE Γ k σ h λy h1=>wE Γ d σ h1 λx h2=>wPl x λl=>wO h2[l]? λo=>wDc o λkvs=>wKey y λk=>Q (.d (.bl (if neg then !(dGet k kvs).isSome else (dGet k kvs).isSome))) h2
 | .stuck,_,_,_=>False
noncomputable def wEs (Γ:Calls):List E->Env->Sto->(List R->Sto->Prop)->Prop
 | [],_,h,Q=>Q [] h
 | e::es,σ,h,Q=>wE Γ e σ h λr h1=>wEs Γ es σ h1 λrs h2=>Q (r::rs) h2
noncomputable def wC (Γ:Calls):T->Env->Sto->(Bool->Sto->Prop)->Prop
 | .val e,σ,h,Q=>wE Γ e σ h λr h1=>wRd r h1 λd h2=>wO (tru d) λt=>Q t h2
 | .and a b,σ,h,Q=>wC Γ a σ h λt h1=>wB t (wC Γ b σ h1 Q) (Q false h1)
 | .or a b,σ,h,Q=>wC Γ a σ h λt h1=>wB t (Q true h1) (wC Γ b σ h1 Q)
 | .not a,σ,h,Q=>wC Γ a σ h λt h1=>Q (!t) h1
noncomputable def wCs (Γ:Calls):List T->Env->Sto->(Bool->Sto->Prop)->Prop
 | [],_,h,Q=>Q true h
 | c::cs,σ,h,Q=>wC Γ c σ h λt h1=>wB t (wCs Γ cs σ h1 Q) (Q false h1)
noncomputable def wL (Γ:Calls):L->Env->Sto->(List D->Sto->Prop)->Prop
 | .disp es,σ,h,Q=>wEs Γ es σ h λrs h1=>wFzs rs h1 Q
 | .comp tg it c el,σ,h,Q=>wI Γ it σ h λw h1=>@Ask _ (zb1 w.l (zh7 Γ tg c el σ) w.xs h1) ⟨Q⟩
 | .spl a b,σ,h,Q=>wE Γ a σ h λx h1=>wE Γ b σ h1 λy h2=>wRd x h2 λx h3=>wRd y h3 λy h4=>wO (splD x y) λxs=>Q xs h4
noncomputable def wI (Γ:Calls):I->Env->Sto->(Wk->Sto->Prop)->Prop
 | .seq e,σ,h,Q=>wE Γ e σ h λr h1=>wWk r h1 Q
 | .rng e,σ,h,Q=>wE Γ e σ h λr h1=>wInt r λn=>(-(2 ^ 62)<=n/\n<=16777216)/\Q ⟨(zbH 0 n.toNat).map dI,none⟩ h1
 | .enk k e,σ,h,Q=>wE Γ e σ h λr h1=>Ok (zft k r h1) Q
 | .dic e,σ,h,Q=>wE Γ e σ h λr h1=>wPl r λl=>wO h1[l]? λo=>wDf o λkvs=>Q ⟨kvs.map λp=>dI p.1,some l⟩ h1
end
mutual
noncomputable def wS (Γ:Calls):S->Env->Sto->(Fl×Env->Sto->Prop)->Prop
 | .asg tg e,σ,h,Q=>wE Γ e σ h λr h1=>wT tg r σ h1 λσ' h2=>Q (.nx,σ') h2
 | .setI o i e,σ,h,Q=>wE Γ e σ h λr h1=>wE Γ o σ h1 λx h2=>wE Γ i σ h2 λy h3=>wFz r h3 λd h4=>wInt y λk=>wPl x λl=>wO h4[l]? λo=>wLw o λxs=>wO (ixn xs.length k) λj=>Q (.nx,σ) (h4.set l (.lst (xs.set j d)))
 | .exp e,σ,h,Q=>wE Γ e σ h λ_ h1=>Q (.nx,σ) h1
 | .ife c a b,σ,h,Q=>wC Γ c σ h λt h1=>wB t (wSs Γ a σ h1 Q) (wSs Γ b σ h1 Q)
 | .for tg it b,σ,h,Q=>wI Γ it σ h λw h1=>@Ask _ (loop w.l (λx σ=>bnd (za9 tg x σ) λσ'=>exs Γ b σ') w.xs σ h1) ⟨Q⟩
 | .ret e,σ,h,Q=>wE Γ e σ h λr h1=>Q (.ret r,σ) h1
 | .brk,σ,h,Q=>Q (.brk,σ) h
 | .cnt,σ,h,Q=>Q (.cnt,σ) h
 | .setD o k e,σ,h,Q=>wE Γ e σ h λr h1=>wE Γ o σ h1 λx h2=>wE Γ k σ h2 λy h3=>wFz r h3 λd h4=>wKey y λk=>wPl x λl=>wO h4[l]? λob=>wDw ob λkvs=>kvs.length<big/\Q (.nx,σ) (h4.set l (.dic (dPut k d kvs)))
 | .stuck,_,_,_=>False
noncomputable def wSs (Γ:Calls):List S->Env->Sto->(Fl×Env->Sto->Prop)->Prop
 | [],σ,h,Q=>Q (.nx,σ) h
 | s::r,σ,h,Q=>wS Γ s σ h λp h1=>match p.1 with
  | .nx=>wSs Γ r p.2 h1 Q
  | .ret r=>Q (.ret r,p.2) h1
  | .brk=>Q (.brk,p.2) h1
  | .cnt=>Q (.cnt,p.2) h1
end
end IT
set_option linter.all false
set_option maxRecDepth 10000
namespace IT
open PySem (Str)
theorem zb9 {α:Type} {o:Option α} {Q:α->Prop}:(∃ a,o=some a/\Q a)=wO o Q:=by
 cases o<;>simp [wO]
theorem zdU {t:Bool} {A B:Prop}:((t=true->A)/\(t=false->B))=wB t A B:=by cases t<;>simp [wB]
theorem zj3 {t:Bool} {A B:Prop}:((t=false->B)/\(t=true->A))=wB t A B:=by cases t<;>simp [wB]
section
variable {h:Sto}
theorem qRd {r:R} {Q:D->Sto->Prop}:Ok (rd r h) Q=wRd r h Q:=by
 cases r with
 | d x=>exact propext ok_rd_d
 | loc l=>
  rw [propext zlW]
  simp only [wRd,<-zb9]
  congr;funext o;congr;cases o<;>simp [wLs,Ob.isL,Ob.items]
theorem qFz {r:R} {Q:D->Sto->Prop}:Ok (fz r h) Q=wFz r h Q:=by
 cases r with
 | d x=>exact propext ok_fz_d
 | loc l=>
  rw [propext zlB]
  simp only [wFz,<-zb9]
  congr;funext o;congr;cases o<;>simp [wLs,Ob.isL,Ob.items]
theorem qRds:∀ {rs:List R} {h:Sto} {Q:List D->Sto->Prop},Ok (rds rs h) Q=wRds rs h Q
 | [],h,Q=>propext zj1
 | r::rs,h,Q=>by rw [propext zhZ,wRds,qRd];simp only [qRds]
theorem qFzs:∀ {rs:List R} {h:Sto} {Q:List D->Sto->Prop},Ok (fzs rs h) Q=wFzs rs h Q
 | [],h,Q=>propext ziC
 | r::rs,h,Q=>by rw [propext zin,wFzs,qFz];simp only [qFzs]
mutual
theorem qT:∀ (tg:Tg) (r:R) (σ:Env) (h:Sto) (Q:Env->Sto->Prop),Ok (zbd tg r σ h) Q=wT tg r σ h Q
 | .name i,r,σ,h,Q=>by rw [propext zmF,wT]
 | .tup ts,r,σ,h,Q=>by
  rw [propext zpI,wT,qRd]
  congr;funext d h1
  cases d<;>simp [wTup,qTs ts]
theorem qTs:∀ (ts:List Tg) (xs:List D) (σ:Env) (h:Sto) (Q:Env->Sto->Prop),Ok (bindTs ts xs σ h) Q=wTs ts xs σ h Q
 | [],[],σ,h,Q=>by rw [propext zjr,wTs]
 | [],_::_,σ,h,Q=>by simp [bindTs,wTs]
 | t::ts,[],σ,h,Q=>by simp [bindTs,wTs]
 | t::ts,x::xs,σ,h,Q=>by rw [propext zhP,qT t];simp only [qTs ts,wTs]
end
theorem qBI {tg:Tg} {x:Ite} {σ:Env} {Q:Env->Sto->Prop}:Ok (za9 tg x σ h) Q=wBI tg x σ h Q:=by
 cases x with
 | r x=>rw [propext w_bI,qT];rfl
 | en i x=>
  match tg with
  | .tup [a,b]=>rw [propext zq3,qT];simp only [qT];rfl
  | .name _=>simp [za9,wBI]
  | .tup []=>simp [za9,wBI]
  | .tup [_]=>simp [za9,wBI]
  | .tup (_::_::_::_)=>simp [za9,wBI]
theorem qWk {r:R} {Q:Wk->Sto->Prop}:Ok (zbo r h) Q=wWk r h Q:=by
 match r with
 | .d (.tup xs)=>exact propext zk4
 | .d (.lst xs)=>exact propext zhE
 | .d (.str x)=>
  simp only [wWk]
  cases c:fit x.length with
  | true=>rw [propext (zk3 c)];rfl
  | false=>simp [zbo,zdG,wkOf,items,c,wB]
 | .d .non=>simp [zbo,zdG,wkOf,items,wWk]
 | .d (.bl _)=>simp [zbo,zdG,wkOf,items,wWk]
 | .d (.int _)=>simp [zbo,zdG,wkOf,items,wWk]
 | .loc l=>rw [propext zlE,zb9];rfl
theorem zkg {l:Nat} {p:List D->Prop}:(∃ xs,h[l]?=some (.lst xs)/\p xs)=wO h[l]? λo=>wLw o p:=by
 cases h[l]? with
 | none=>simp [wO]
 | some o=>cases o<;>simp [wO,wLw]
theorem qMe {m:Me} {l:Nat} {rs:List R} {Q:R->Sto->Prop}:Ok (meth m (.loc l) rs h) Q=wMe m (.loc l) rs h Q:=by
 unfold wMe
 split
 ·rw [propext zlc,qFz];simp only [wPl,zkg]
 ·rw [propext zrC];simp only [wPl,zkg,zb9]
 ·rw [propext zmY];simp only [wPl,zkg]
 ·rw [propext zkG,qRd]
  simp only [wPl]
  congr;funext d h1
  cases d with
  | lst ys=>simp only [D.lst.injEq,exists_and_left,exists_eq_left',zkg,wO]
  | _=>simp [wO]
 ·rfl
end
end IT
set_option linter.all false
set_option maxRecDepth 10000
set_option maxHeartbeats 1000000
namespace IT
open PySem (Str)
theorem zrS {h:Sto} {l:Nat} {p:Str->List (Str×R)->Prop}:(∃ c fs,h[l]?=some (.ins c fs)/\p c fs)=wO h[l]? λo=>wIn o p:=by
 cases h[l]? with
 | none=>simp [wO]
 | some o=>
  cases o with
  | ins c fs=>
   simp only [wO,wIn,eq_iff_iff]
   constructor
   ·rintro ⟨_,_,e,q⟩;cases e;exact q
   ·intro q;exact ⟨_,_,rfl,q⟩
  | _=>simp [wO,wIn]
theorem zp2 {x:R} {p:Int->Prop}:(∃ i,x=.d (.int i)/\p i)=wInt x p:=by
 match x with
 | .d (.int i)=>simp [wInt]
 | .loc _ | .d .non | .d (.bl _) | .d (.str _) | .d (.tup _) | .d (.lst _)=>simp [wInt]
theorem zoL {x:R} {p:Bool->Prop}:(∃ i,x=.d (.bl i)/\p i)=wBl x p:=by
 match x with
 | .d (.bl i)=>simp [wBl]
 | .loc _ | .d .non | .d (.int _) | .d (.str _) | .d (.tup _) | .d (.lst _)=>simp [wBl]
theorem zo4 {x:R} {h:Sto} {Q:Unit->Sto->Prop}:Ok (zep x h) Q=wPl x λl=>wO h[l]? λo=>wLs o λ_=>Q () h:=by
 cases x with
 | d x=>simp [zep,wPl]
 | loc l=>
  rw [propext zmP]
  simp only [wPl,<-zb9]
  congr;funext o;congr;cases o<;>simp [wLs,Ob.isL]
theorem zoo {x:R} {k:D} {d:D} {h:Sto} {Q:Unit->Sto->Prop}:Ok (zeD x k d h) Q=wInt (.d k) λk=>wPl x λl=>wO h[l]? λo=>wLw o λxs=>wO (ixn xs.length k) λj=>Q () (h.set l (.lst (xs.set j d))):=by
 cases x with
 | d x=>cases k<;>simp [zeD,wPl,wInt]
 | loc l=>
  cases k with
  | int k=>rw [propext zmZ];simp only [zb9];rw [zkg];rfl
  | _=>simp [zeD,wInt]
theorem znD {y:R} {h:Sto} {p:Int->Sto->Prop}:(wRd y h λd h1=>wInt (.d d) λk=>p k h1)=wInt y λk=>p k h:=by
 match y with
 | .d (.int i)=>rfl
 | .d .non | .d (.bl _) | .d (.str _) | .d (.tup _) | .d (.lst _)=>rfl
 | .loc l=>
  simp only [wRd,wInt]
  cases h[l]? with
  | none=>rfl
  | some o=>cases o<;>rfl
theorem qMe' {m:Me} {x:R} {Γ:Calls} {h:Sto} {W:Sto->(List R->Sto->Prop)->Prop} {Q:R->Sto->Prop}:(wPl x λl=>wO h[l]? λo=>wLs o λ_=>W h λrs h3=>Ok (meth m x rs h3) Q)=(wPl x λl=>wO h[l]? λo=>wLs o λ_=>W h λrs h3=>wMe m (.loc l) rs h3 Q):=by
 cases x with
 | d x=>rfl
 | loc l=>simp only [wPl,qMe]
theorem zj2 {α:Type} {m:Option (α×Sto)} {Q:α->Sto->Prop}:Ok m Q=@Ask α m ⟨Q⟩:=propext zpx
theorem qDRd {x:R} {h:Sto} {Q:List (D×D)->Sto->Prop}:Ok (dRd x h) Q=wPl x λl=>wO h[l]? λo=>wDc o λkvs=>Q kvs h:=by
 cases x with
 | d x=>simp [dRd,wPl]
 | loc l=>
  simp only [dRd,wPl]
  cases h[l]? with
  | none=>simp [wO]
  | some o=>cases o<;>simp [wO,wDc]
theorem qKRd {x:R} {h:Sto} {Q:D->Sto->Prop}:Ok (kRd x h) Q=wKey x λk=>Q k h:=by
 cases x with
 | loc l=>simp [kRd,wKey]
 | d k=>
  simp only [kRd,wKey]
  cases zbU k<;>simp [wB]
theorem zrK {x:R} {k v:D} {h:Sto} {Q:Unit->Sto->Prop}:Ok (dSet x k v h) Q=wPl x λl=>wO h[l]? λo=>wDw o λkvs=>kvs.length<big/\Q () (h.set l (.dic (dPut k v kvs))):=by
 cases x with
 | d x=>simp [dSet,wPl]
 | loc l=>
  simp only [dSet,wPl]
  cases h[l]? with
  | none=>simp [wO]
  | some o=>
   cases o with
   | dic kvs=>
    simp only [wO,wDw]
    by_cases c:kvs.length<big
    ·simp [c]
    ·simp [c]
   | _=>simp [wO,wDw]
theorem zpT {x:R} {h:Sto} {Q:Wk->Sto->Prop}:Ok (zgr x h) Q=wPl x λl=>wO h[l]? λo=>wDf o λkvs=>Q ⟨kvs.map λp=>dI p.1,some l⟩ h:=by
 cases x with
 | d x=>simp [zgr,wPl]
 | loc l=>
  simp only [zgr,wPl]
  cases h[l]? with
  | none=>simp [wO]
  | some o=>cases o<;>simp [wO,wDf]
mutual
theorem qE (Γ:Calls):∀ (e:E) (σ:Env) (h:Sto) (Q:R->Sto->Prop),Ok (ev Γ e σ h) Q=wE Γ e σ h Q
 | .con d,σ,h,Q=>by rw [propext zq9];rfl
 | .var i,σ,h,Q=>by
  refine (propext zrm).trans ?_
  show _=wO σ[i]? λo=>wO o λr=>Q r h
  cases σ[i]? with
  | none=>simp [wO]
  | some o=>cases o<;>simp [wO]
 | .bin o a b,σ,h,Q=>by rw [propext zq7,qE Γ a];simp only [qE Γ b,qRd,zb9];rfl
 | .neg a,σ,h,Q=>by rw [propext zr0,qE Γ a];simp only [zp2];rfl
 | .cmp o a b,σ,h,Q=>by rw [propext zqO,qE Γ a];simp only [qE Γ b,qRd,zb9];rfl
 | .and a b,σ,h,Q=>by rw [propext zry,qE Γ a];simp only [qE Γ b,zoL,zdU];rfl
 | .or a b,σ,h,Q=>by rw [propext w_or,qE Γ a];simp only [qE Γ b,zoL,zj3];rfl
 | .not a,σ,h,Q=>by rw [propext w_not,qE Γ a];simp only [qRd,zb9];rfl
 | .ife c a b,σ,h,Q=>by rw [propext zra,qC Γ c];simp only [qE Γ a,qE Γ b,zdU];rfl
 | .tup es,σ,h,Q=>by rw [propext zrU,qEs Γ es];simp only [qFzs];rfl
 | .lst true l,σ,h,Q=>by rw [propext zoH,qL Γ l];rfl
 | .lst false l,σ,h,Q=>by rw [propext zpK,qL Γ l];rfl
 | .idx a b,σ,h,Q=>by rw [propext zqS,qE Γ a];simp only [qE Γ b,qRd,zb9];rfl
 | .sli a b c,σ,h,Q=>by rw [propext zqR,qE Γ a];simp only [qE Γ b,qE Γ c,qRd,zb9];rfl
 | .call f es,σ,h,Q=>by rw [propext zpd,qEs Γ es];simp only [zj2];rfl
 | .bi b es,σ,h,Q=>by rw [propext w_bi,qEs Γ es];simp only [qRds,zb9];rfl
 | .me m o es,σ,h,Q=>by
  rw [propext w_me,qE Γ o]
  simp only [zo4,qEs Γ es,qMe' (Γ:=Γ) (W:=λh Q=>wEs Γ es σ h Q)]
  rfl
 | .glo d,σ,h,Q=>by rw [propext zrF];rfl
 | .isi t e,σ,h,Q=>by rw [propext zrd,qE Γ e];simp only [qRd];rfl
 | .lset e,σ,h,Q=>by rw [propext zpt,qE Γ e];simp only [qRd,zb9];rfl
 | .tm m o es,σ,h,Q=>by rw [propext w_tm,qE Γ o];simp only [qEs Γ es,qRd,qRds,zb9];rfl
 | .lm m o a,σ,h,Q=>by rw [propext w_lm,qE Γ o];simp only [qE Γ a,qRd,zb9];rfl
 | .dnew,σ,h,Q=>by show Ok (dNew h) Q=_;simp only [dNew,ok_some'];rfl
 | .din neg k d,σ,h,Q=>by
  show Ok (bnd (ev Γ k σ) (λy=>bnd (ev Γ d σ) λx=>bnd (dRd x) λkvs=>bnd (kRd y) λk=>ok (.d (.bl (if neg then !(dGet k kvs).isSome else (dGet k kvs).isSome)))) h) Q=_
  simp only [ok_bnd,qE Γ k,qE Γ d,qDRd,qKRd,ok_ok];rfl
 | .stuck,σ,h,Q=>by rw [propext zrr];rfl
theorem qEs (Γ:Calls):∀ (es:List E) (σ:Env) (h:Sto) (Q:List R->Sto->Prop),Ok (evs Γ es σ h) Q=wEs Γ es σ h Q
 | [],σ,h,Q=>by rw [propext zi1];rfl
 | e::es,σ,h,Q=>by rw [propext zhR,qE Γ e];simp only [qEs Γ es];rfl
theorem qC (Γ:Calls):∀ (e:T) (σ:Env) (h:Sto) (Q:Bool->Sto->Prop),Ok (tv Γ e σ h) Q=wC Γ e σ h Q
 | .val e,σ,h,Q=>by rw [propext zrP,qE Γ e];simp only [qRd,zb9];rfl
 | .and a b,σ,h,Q=>by rw [propext zpu,qC Γ a];simp only [qC Γ b,zdU];rfl
 | .or a b,σ,h,Q=>by rw [propext zq4,qC Γ a];simp only [qC Γ b,zj3];rfl
 | .not a,σ,h,Q=>by rw [propext zoQ,qC Γ a];rfl
theorem qCs (Γ:Calls):∀ (es:List T) (σ:Env) (h:Sto) (Q:Bool->Sto->Prop),Ok (tvs Γ es σ h) Q=wCs Γ es σ h Q
 | [],σ,h,Q=>by rw [propext zi5];rfl
 | e::es,σ,h,Q=>by rw [propext zit,qC Γ e];simp only [qCs Γ es,zdU];rfl
theorem qL (Γ:Calls):∀ (e:L) (σ:Env) (h:Sto) (Q:List D->Sto->Prop),Ok (evL Γ e σ h) Q=wL Γ e σ h Q
 | .disp es,σ,h,Q=>by rw [propext zpQ,qEs Γ es];simp only [qFzs];rfl
 | .comp tg it c el,σ,h,Q=>by rw [propext zpZ,qI Γ it];simp only [zj2];rfl
 | .spl a b,σ,h,Q=>by rw [propext zrM,qE Γ a];simp only [qE Γ b,qRd,zb9];rfl
theorem qI (Γ:Calls):∀ (e:I) (σ:Env) (h:Sto) (Q:Wk->Sto->Prop),Ok (evI Γ e σ h) Q=wI Γ e σ h Q
 | .seq e,σ,h,Q=>by rw [propext zqV,qE Γ e];simp only [qWk];rfl
 | .rng e,σ,h,Q=>by
  rw [propext zrk,qE Γ e]
  congr;funext r h1
  match r with
  | .d (.int n)=>exact propext znc
  | .loc _ | .d .non | .d (.bl _) | .d (.str _) | .d (.tup _) | .d (.lst _)=>simp [zfq,wInt]
 | .enk k e,σ,h,Q=>by rw [propext zrj,qE Γ e];rfl
 | .dic e,σ,h,Q=>by
  show Ok (bnd (ev Γ e σ) (λr=>zgr r) h) Q=_
  simp only [ok_bnd,qE Γ e,zpT];rfl
end
mutual
theorem qS (Γ:Calls):∀ (s:S) (σ:Env) (h:Sto) (Q:Fl×Env->Sto->Prop),Ok (ex Γ s σ h) Q=wS Γ s σ h Q
 | .asg tg e,σ,h,Q=>by rw [propext zqM,qE Γ e];simp only [qT];rfl
 | .setI o i e,σ,h,Q=>by
  rw [propext zpM,qE Γ e]
  simp only [qE Γ o,qE Γ i,qFz,qRd,zoo,znD (p:=λk h5=>wPl _ λl=>wO h5[l]? λo=>wLw o λxs=>wO (ixn xs.length k) λj=>Q (.nx,σ) (h5.set l (.lst (xs.set j _))))]
  rfl
 | .exp e,σ,h,Q=>by rw [propext zrY,qE Γ e];rfl
 | .ife c a b,σ,h,Q=>by rw [propext zqT,qC Γ c];simp only [qSs Γ a,qSs Γ b,zdU];rfl
 | .for tg it b,σ,h,Q=>by rw [propext zrt,qI Γ it];simp only [zj2];rfl
 | .ret e,σ,h,Q=>by rw [propext zqH,qE Γ e];rfl
 | .brk,σ,h,Q=>by rw [propext zrZ];rfl
 | .cnt,σ,h,Q=>by rw [propext zri];rfl
 | .setD o k e,σ,h,Q=>by
  show Ok (bnd (ev Γ e σ) (λr=>bnd (ev Γ o σ) λx=>bnd (ev Γ k σ) λy=>bnd (fz r) λd=>bnd (kRd y) λk=>bnd (dSet x k d) λ_=>ok (.nx,σ)) h) Q=_
  simp only [ok_bnd,qE Γ e,qE Γ o,qE Γ k,qFz,qKRd,zrK,ok_ok];rfl
 | .stuck,σ,h,Q=>by rw [propext zrb];rfl
theorem qSs (Γ:Calls):∀ (s:List S) (σ:Env) (h:Sto) (Q:Fl×Env->Sto->Prop),Ok (exs Γ s σ h) Q=wSs Γ s σ h Q
 | [],σ,h,Q=>by rw [propext zky];rfl
 | s::r,σ,h,Q=>by 
  rw [propext zid,qS Γ s]
  simp only [qSs Γ r]
  try congr
end
end IT
set_option linter.all false
namespace IT
theorem st {α:Type} {o:Option α} {a:α} {Q:α->Prop} (e:o=some a) (k:Q a):wO o Q:=by rw [e];exact k
theorem br {t:Bool} {A B:Prop} (a:t=true->A) (b:t=false->B):wB t A B:=by cases t;exact b rfl;exact a rfl
theorem bf {t:Bool} {A B:Prop} (e:t=false) (k:B):wB t A B:=by rw [e];exact k
theorem bt {t:Bool} {A B:Prop} (e:t=true) (k:A):wB t A B:=by rw [e];exact k
theorem gs {Γ:Calls} {s:List S} {σ:Env} {h:Sto} {Q:Fl×Env->Sto->Prop} (k:wSs Γ s σ h Q):Ok (exs Γ s σ h) Q:=(qSs Γ s σ h Q).mpr k
theorem ge {Γ:Calls} {e:E} {σ:Env} {h:Sto} {Q:R->Sto->Prop} (k:wE Γ e σ h Q):Ok (ev Γ e σ h) Q:=(qE Γ e σ h Q).mpr k
theorem gb {Γ:Calls} {tg:Tg} {x:Ite} {b:List S} {σ:Env} {h:Sto} {Q:Fl×Env->Sto->Prop} (k:wBI tg x σ h λσ' h1=>wSs Γ b σ' h1 Q):Ok (bnd (za9 tg x σ) (λσ'=>exs Γ b σ') h) Q:=by
 rw [propext ok_bnd,qBI]
 simp only [qSs]
 exact k
theorem gc {Γ:Calls} {tg:Tg} {c:List T} {el:E} {x:Ite} {σ:Env} {h:Sto} {Q:Option D->Sto->Prop} (k:wBI tg x (clr tg.slots σ) h λσ' h1=>wCs Γ c σ' h1 λt h2=>wB t (wE Γ el σ' h2 λr h3=>wFz r h3 λd h4=>Q (some d) h4) (Q none h2)):Ok (zh7 Γ tg c el σ x h) Q:=by
 rw [propext znH,qBI]
 simp only [qCs,qE,qFz,zdU]
 exact k
theorem qPl {x:R} {h:Sto} {Q:Nat->Sto->Prop}:Ok (zdm x h) Q=wPl x λl=>wO h[l]? λo=>wIn o λ_ _=>Q l h:=by
 cases x with
 | d x=>simp [zdm,wPl]
 | loc l=>rw [propext ziV,zrS];rfl
theorem go {Γ:Calls} {tg:Tg} {c:List T} {el:E} {x:Ite} {σ:Env} {h:Sto} {Q:Option Nat->Sto->Prop} (k:wBI tg x (clr tg.slots σ) h λσ' h1=>wCs Γ c σ' h1 λt h2=>wB t (wE Γ el σ' h2 λr h3=>wPl r λl=>wO h3[l]? λo=>wIn o λ_ _=>Q (some l) h3) (Q none h2)):Ok (zn7 Γ tg c el σ x h) Q:=by
 rw [propext zms,qBI]
 simp only [qCs,qE,qPl,zdU]
 exact k
theorem fd {k:Bool} {x:D} {h h1:Sto} {Q:R->Sto->Prop} (o:objs h h1=true) (q:Q (.d x) (h1.take h.length)):Ok (fin h false k (.d x) h1) Q:=zn1.mpr ⟨o,q⟩
theorem f0 {k:Bool} {x:D} {h:Sto} {Q:R->Sto->Prop} (q:Q (.d x) h):Ok (fin h false k (.d x) h) Q:=zn1.mpr ⟨zjN,by rw [List.take_length];exact q⟩
theorem fa {k:Bool} {x:D} {h t:Sto} {Q:R->Sto->Prop} (q:Q (.d x) h):Ok (fin h false k (.d x) (h++t)) Q:=zn1.mpr ⟨zc7,by rw [zhC];exact q⟩
theorem zfP {α:Type} {g:α->Ite} {l:Option Nat} {f:Ite->Env->M (Fl×Env)} {xs:List α} {Q:Fl×Env->Sto->Prop} (I:Nat->Env->Sto->Prop)
  (step:∀ i x σ h,xs[i]?=some x->I i σ h->Ok (f (g x) σ h) λp h1=>p.1=.nx/\zbb l h h1=true/\I (i+1) p.2 h1)
  (fin:∀ σ h,I xs.length σ h->Q (.nx,σ) h) {σ:Env} {h:Sto} (h0:I 0 σ h):Ok (loop l f (xs.map g) σ h) Q:=
 zho I (λi x σ h e q=>(step i x σ h e q).mono λp h1 z=>by rw [z.1];exact z.2) fin h0
theorem zmQ {l:Option Nat} {f:Ite->Env->M (Fl×Env)} {xs:List D} {Q:Fl×Env->Sto->Prop} (I:Nat->Env->Sto->Prop)
  (step:∀ i x σ h,xs[i]?=some x->I i σ h->Ok (f (dI x) σ h) λp h1=>p.1=.nx/\zbb l h h1=true/\I (i+1) p.2 h1)
  (fin:∀ σ h,I xs.length σ h->Q (.nx,σ) h) {σ:Env} {h:Sto} (h0:I 0 σ h):Ok (loop l f (xs.map dI) σ h) Q:=zfP I step fin h0
noncomputable def kF (h:Sto) (all keep:Bool) (Q:R->Sto->Prop) (p:Fl×Env) (h1:Sto):Prop:=match p.1 with
 | .ret r=>Ok (fin h all keep r h1) Q
 | .nx=>Ok (fin h all keep (.d .non) h1) Q
 | _=>False
theorem cl {P:List F} {n f:Nat} {rs:List R} {h:Sto} {Q:R->Sto->Prop} {F:IT.F} (e:P[f]?=some F) (ed:F.dfl=[]) (el:rs.length=F.np)
  (k:wSs (zaq P n) F.body (rs.map some++List.replicate (F.ns-F.np) none) h (kF h F.all F.keep Q)):Ok (zaq P (n+1) f rs h) Q:=zm6 e ed el (gs k)
theorem cd {P:List F} {n f:Nat} {rs rs':List R} {h:Sto} {Q:R->Sto->Prop} {F:IT.F} (e:P[f]?=some F) (er:zbj F.np F.dfl rs=rs') (el:rs'.length=F.np)
  (k:wSs (zaq P n) F.body (rs'.map some++List.replicate (F.ns-F.np) none) h (kF h F.all F.keep Q)):Ok (zaq P (n+1) f rs h) Q:=ziB e er el (gs k)
end IT
set_option linter.all false
set_option maxHeartbeats 4000000
namespace IT
open PySem PySem.Spec L2
noncomputable def LsR (K:PySem.W.Frag) (A:Addr->Prop) (H:Hp) (a:Addr) (vs:List V):Prop:=
 (¬ A a/\Rd H a (.lst vs))\/∃ (o:Obj) (its:Array Value) (n:Nat),K.lookup a=some o/\o.cls=.type "list"/\o.dict=none/\o.data=.seq its n/\its.size<=sizeLine/\Vals vs its.toList
theorem LsR.sq {K:PySem.W.Frag} {A:Addr->Prop} {H:Hp} {a:Addr} {vs:List V} (q:LsR K A H a vs):SqL K H a vs:=q.imp (λz=>z.2) (λz=>z)
mutual
noncomputable def RepD (K:PySem.W.Frag) (A:Addr->Prop) (H:Hp):D->V->Prop
 | .non,v=>v=.non
 | .bl b,v=>v=.bl b
 | .int i,v=>v=.int i
 | .str x,v=>v=.str (zac x)
 | .tup xs,v=>∃ a vs,v=.ref a/\SqT K H a vs/\RepDs K A H xs vs
 | .lst xs,v=>∃ a vs,v=.ref a/\LsR K A H a vs/\RepDs K A H xs vs
noncomputable def RepDs (K:PySem.W.Frag) (A:Addr->Prop) (H:Hp):List D->List V->Prop
 | [],vs=>vs=[]
 | x::xs,vs=>∃ v r,vs=v::r/\RepD K A H x v/\RepDs K A H xs r
end
section
variable {K:PySem.W.Frag} {A A':Addr->Prop} {H H':Hp}
mutual
theorem RepD.mono (ht:∀ a u,Rd H a (.tup u)->Rd H' a (.tup u)) (hl:∀ a u,¬ A a->Rd H a (.lst u)->¬ A' a/\Rd H' a (.lst u)):∀ (x:D) (v:V),RepD K A H x v->RepD K A' H' x v
 | .non,_,h | .bl _,_,h | .int _,_,h | .str _,_,h=>by
  first
  | (simp only [RepD] at h ⊢;exact h)
 | .tup xs,v,h=>by
  simp only [RepD] at h ⊢
  obtain ⟨a,vs,e,q,r⟩:=h
  exact ⟨a,vs,e,q.imp (ht a vs) (λz=>z),RepDs.mono ht hl xs vs r⟩
 | .lst xs,v,h=>by
  simp only [RepD] at h ⊢
  obtain ⟨a,vs,e,q,r⟩:=h
  exact ⟨a,vs,e,q.imp (λz=>hl a vs z.1 z.2) (λz=>z),RepDs.mono ht hl xs vs r⟩
theorem RepDs.mono (ht:∀ a u,Rd H a (.tup u)->Rd H' a (.tup u)) (hl:∀ a u,¬ A a->Rd H a (.lst u)->¬ A' a/\Rd H' a (.lst u)):∀ (x:List D) (v:List V),RepDs K A H x v->RepDs K A' H' x v
 | [],_,h=>by simp only [RepDs] at h ⊢;exact h
 | x::xs,vs,h=>by
  simp only [RepDs] at h ⊢
  obtain ⟨v,r,e,h1,h2⟩:=h
  exact ⟨v,r,e,RepD.mono ht hl x v h1,RepDs.mono ht hl xs r h2⟩
end
end
section
variable {K:PySem.W.Frag} {A:Addr->Prop} {H:Hp}
theorem RepDs.length:∀ {xs:List D} {vs:List V},RepDs K A H xs vs->xs.length=vs.length
 | [],vs,h=>by simp only [RepDs] at h;subst h;rfl
 | x::xs,vs,h=>by
  simp only [RepDs] at h
  obtain ⟨v,r,rfl,_,h2⟩:=h
  simp only [List.length_cons,h2.length]
theorem RepDs.get:∀ {xs:List D} {vs:List V} {i:Nat} {x:D},RepDs K A H xs vs->xs[i]?=some x->∃ v,vs[i]?=some v/\RepD K A H x v
 | [],vs,i,x,h,e=>by simp at e
 | y::xs,vs,i,x,h,e=>by
  simp only [RepDs] at h
  obtain ⟨v,r,rfl,h1,h2⟩:=h
  cases i with
  | zero=>simp at e;subst e;exact ⟨v,rfl,h1⟩
  | succ i=>simp at e;simpa using h2.get e
theorem RepDs.get':∀ {xs:List D} {vs:List V} {i:Nat} {v:V},RepDs K A H xs vs->vs[i]?=some v->∃ x,xs[i]?=some x/\RepD K A H x v
 | [],vs,i,v,h,e=>by simp only [RepDs] at h;subst h;simp at e
 | y::xs,vs,i,v,h,e=>by
  simp only [RepDs] at h
  obtain ⟨w,r,rfl,h1,h2⟩:=h
  cases i with
  | zero=>simp at e;subst e;exact ⟨y,rfl,h1⟩
  | succ i=>simp at e;simpa using h2.get' e
theorem RepDs.app:∀ {xs ys:List D} {vs us:List V},RepDs K A H xs vs->RepDs K A H ys us->RepDs K A H (xs++ys) (vs++us)
 | [],ys,vs,us,h,h'=>by simp only [RepDs] at h;subst h;simpa using h'
 | x::xs,ys,vs,us,h,h'=>by
  simp only [RepDs] at h
  obtain ⟨v,r,rfl,h1,h2⟩:=h
  simp only [List.cons_append,RepDs]
  exact ⟨v,r++us,rfl,h1,h2.app h'⟩
theorem RepDs.nil:RepDs K A H [] []:=by simp only [RepDs]
theorem RepDs.cons {x:D} {v:V} {xs:List D} {vs:List V} (h:RepD K A H x v) (h':RepDs K A H xs vs):RepDs K A H (x::xs) (v::vs):=by
 simp only [RepDs];exact ⟨v,vs,rfl,h,h'⟩
theorem RepDs.one {x:D} {v:V} (h:RepD K A H x v):RepDs K A H [x] [v]:=.cons h .nil
theorem RepDs.take:∀ {xs:List D} {vs:List V} (n:Nat),RepDs K A H xs vs->RepDs K A H (xs.take n) (vs.take n)
 | [],vs,n,h=>by simp only [RepDs] at h;subst h;simpa using RepDs.nil
 | x::xs,vs,n,h=>by
  simp only [RepDs] at h
  obtain ⟨v,r,rfl,h1,h2⟩:=h
  cases n with
  | zero=>simpa using RepDs.nil
  | succ n=>simpa using RepDs.cons h1 (h2.take n)
theorem RepDs.drop:∀ {xs:List D} {vs:List V} (n:Nat),RepDs K A H xs vs->RepDs K A H (xs.drop n) (vs.drop n)
 | [],vs,n,h=>by simp only [RepDs] at h;subst h;simpa using RepDs.nil
 | x::xs,vs,n,h=>by
  simp only [RepDs] at h
  obtain ⟨v,r,rfl,h1,h2⟩:=h
  cases n with
  | zero=>simpa using RepDs.cons h1 h2
  | succ n=>simpa using h2.drop n
theorem RepDs.set {x:D} {v:V} (hx:RepD K A H x v):∀ {xs:List D} {vs:List V} (n:Nat),RepDs K A H xs vs->RepDs K A H (xs.set n x) (vs.set n v)
 | [],vs,n,h=>by simp only [RepDs] at h;subst h;simpa using RepDs.nil
 | y::xs,vs,n,h=>by
  simp only [RepDs] at h
  obtain ⟨w,r,rfl,h1,h2⟩:=h
  cases n with
  | zero=>simpa using RepDs.cons hx h2
  | succ n=>simpa using RepDs.cons h1 (h2.set hx n)
end
noncomputable def Ob.mut:Ob->Bool
 | .lst _=>true
 | .ins _ _=>true
 | .dic _=>true
 | _=>false
noncomputable def Live (μ:List Addr) (h:Sto) (a:Addr):Prop:=∃ (i:Nat) (o:Ob),μ[i]?=some a/\h[i]?=some o/\o.mut=true
noncomputable def RepR (K:PySem.W.Frag) (μ:List Addr) (h:Sto) (H:Hp):R->V->Prop
 | .d x,v=>RepD K (Live μ h) H x v
 | .loc l,v=>∃ a,μ[l]?=some a/\v=.ref a
noncomputable def RepO (K:PySem.W.Frag) (μ:List Addr) (h:Sto) (H:Hp) (a:Addr):Ob->Prop
 | .lst xs=>∃ vs,H a=some (.lst vs)/\RepDs K (Live μ h) H xs vs
 | .fro xs=>∃ vs,H a=some (.lst vs)/\RepDs K (Live μ h) H xs vs
 | .ols ls=>∃ vs,H a=some (.lst vs)/\Paired (λ(l:Nat) (v:V)=>∃ b,μ[l]?=some b/\v=.ref b) ls vs
 | .ins c fs=>∃ C dx fs',(PySem.W.nsIn K mainGlobals c=some (some (.ref C))/\Cls K C/\∀ p∈fs,zka K C p.1)/\H a=some (.ins C dx fs')/\Paired (λ(p:Str×R) (q:Str×V)=>p.1=q.1/\RepR K μ h H p.2 q.2) fs fs'
 | .dic kvs=>∃ xs:List (D×Addr×V),H a=some (.dT xs)/\Paired (λ(p:D×D) (q:D×Addr×V)=>p.1=q.1/\(zbU p.1=true/\RepD K (Live μ h) H p.1 (.ref q.2.1))/\RepD K (Live μ h) H p.2 q.2.2) kvs xs
 | .dfr kvs=>∃ (ob:Obj) (xs:List (D×Addr×V)),H a=some (.frz ob (.dT xs))/\Paired (λ(p:D×D) (q:D×Addr×V)=>p.1=q.1/\(zbU p.1=true/\RepD K (Live μ h) H p.1 (.ref q.2.1))/\RepD K (Live μ h) H p.2 q.2.2) kvs xs
structure Rep (K:PySem.W.Frag) (μ:List Addr) (h:Sto) (H:Hp):Prop where
 len:μ.length=h.length
 nd:μ.Nodup
 obj:∀ (i:Nat) (a:Addr) (o:Ob),μ[i]?=some a->h[i]?=some o->RepO K μ h H a o
structure Stp (μ:List Addr) (h:Sto) (H:Hp) (μ':List Addr) (h':Sto) (H':Hp):Prop where
 pre:∀ (i:Nat) (a:Addr),μ[i]?=some a->μ'[i]?=some a
 keep:∀ a o,¬ Live μ h a->H a=some o->H' a=some o
 live:∀ a,Live μ' h' a->Live μ h a\/H a=none
section
variable {K:PySem.W.Frag} {μ μ' μ2:List Addr} {h h' h2:Sto} {H H' H2:Hp}
theorem RepO.isL {a:Addr} {o:Ob} (q:RepO K μ h H a o) (l:o.isL=true):∃ vs,H a=some (.lst vs)/\RepDs K (Live μ h) H o.items vs:=by
 cases o with
 | lst xs=>exact q
 | fro xs=>exact q
 | ins _ _=>cases l
 | ols _=>cases l
 | dic _=>cases l
 | dfr _=>cases l
theorem RepO.some {a:Addr} {o:Ob} (q:RepO K μ h H a o):∃ u,H a=some u:=by
 cases o with
 | lst xs=>obtain ⟨vs,e,_⟩:=q;exact ⟨_,e⟩
 | fro xs=>obtain ⟨vs,e,_⟩:=q;exact ⟨_,e⟩
 | ins _ _=>obtain ⟨C,dx,fs,_,e,_⟩:=q;exact ⟨_,e⟩
 | ols _=>obtain ⟨vs,e,_⟩:=q;exact ⟨_,e⟩
 | dic _=>obtain ⟨xs,e,_⟩:=q;exact ⟨_,e⟩
 | dfr _=>obtain ⟨ob,xs,e,_⟩:=q;exact ⟨_,e⟩
theorem Rep.liveAt (r:Rep K μ h H) {a:Addr} (l:Live μ h a):∃ u,H a=some u/\((∃ vs,u=.lst vs)\/(∃ C dx fs,u=.ins C dx fs)\/∃ kvs,u=.dT kvs):=by
 obtain ⟨i,o,e1,e2,m⟩:=l
 have q:=r.obj i a _ e1 e2
 cases o with
 | lst xs=>obtain ⟨vs,e,_⟩:=q;exact ⟨_,e,.inl ⟨vs,rfl⟩⟩
 | fro xs=>cases m
 | ins _ _=>obtain ⟨C,dx,fs,_,e,_⟩:=q;exact ⟨_,e,.inr (.inl ⟨C,dx,fs,rfl⟩)⟩
 | ols _=>cases m
 | dic _=>obtain ⟨xs,e,_⟩:=q;exact ⟨_,e,.inr (.inr ⟨xs,rfl⟩)⟩
 | dfr _=>cases m
theorem Rep.notLive (r:Rep K μ h H) {a:Addr} {o:HO} (e:H a=some o) (n:∀ vs,o≠.lst vs) (n2:∀ C dx fs,o≠.ins C dx fs:=by intro _ _ _ z;cases z) (n3:∀ kvs,o≠.dT kvs:=by intro _ z;cases z):¬ Live μ h a:=λl=>by
 obtain ⟨u,q,z⟩:=r.liveAt l
 rw [e] at q
 cases q
 rcases z with ⟨vs,z⟩ | ⟨C,dx,fs,z⟩ | ⟨kvs,z⟩
 ·exact n vs z
 ·exact n2 C dx fs z
 ·exact n3 kvs z
theorem Stp.refl:Stp μ h H μ h H:=⟨λ_ _ e=>e,λ_ _ _ e=>e,λ_ l=>.inl l⟩
theorem Stp.trans (s:Stp μ h H μ' h' H') (t:Stp μ' h' H' μ2 h2 H2):Stp μ h H μ2 h2 H2:=by
 have nl:∀ a o,¬ Live μ h a->H a=some o->¬ Live μ' h' a:=λa o n e l=>by
  rcases s.live a l with z | z
  ·exact n z
  ·rw [e] at z;cases z
 refine ⟨λi a e=>t.pre i a (s.pre i a e),λa o n e=>t.keep a o (nl a o n e) (s.keep a o n e),λa l=>?_⟩
 rcases t.live a l with z | z
 ·exact s.live a z
 ·by_cases n:Live μ h a
  ·exact .inl n
  ·cases e:H a with
   | none=>exact .inr rfl
   | some o=>rw [s.keep a o n e] at z;cases z
theorem Stp.rdT (s:Stp μ h H μ' h' H') (r:Rep K μ h H) (a:Addr) (u:List V) (q:Rd H a (.tup u)):Rd H' a (.tup u):=by
 rcases q with e | ⟨o,e⟩
 ·exact .inl (s.keep a _ (r.notLive e (by intro vs z;cases z)) e)
 ·exact .inr ⟨o,s.keep a _ (r.notLive e (by intro vs z;cases z)) e⟩
theorem Stp.rdL (s:Stp μ h H μ' h' H') (a:Addr) (u:List V) (n:¬ Live μ h a) (q:Rd H a (.lst u)):¬ Live μ' h' a/\Rd H' a (.lst u):=by
 have nl:∀ o,H a=some o->¬ Live μ' h' a:=λo e l=>by
  rcases s.live a l with z | z
  ·exact n z
  ·rw [e] at z;cases z
 rcases q with e | ⟨o,e⟩
 ·exact ⟨nl _ e,.inl (s.keep a _ n e)⟩
 ·exact ⟨nl _ e,.inr ⟨o,s.keep a _ n e⟩⟩
theorem Stp.lsR (s:Stp μ h H μ' h' H') {a:Addr} {u:List V} (q:LsR K (Live μ h) H a u):LsR K (Live μ' h') H' a u:=q.imp (λz=>s.rdL a u z.1 z.2) (λz=>z)
theorem RepD.stp (s:Stp μ h H μ' h' H') (r:Rep K μ h H) {x:D} {v:V} (q:RepD K (Live μ h) H x v):RepD K (Live μ' h') H' x v:=RepD.mono (s.rdT r) s.rdL x v q
theorem RepDs.stp (s:Stp μ h H μ' h' H') (r:Rep K μ h H) {x:List D} {v:List V} (q:RepDs K (Live μ h) H x v):RepDs K (Live μ' h') H' x v:=RepDs.mono (s.rdT r) s.rdL x v q
theorem RepR.stp (s:Stp μ h H μ' h' H') (r:Rep K μ h H) {x:R} {v:V} (q:RepR K μ h H x v):RepR K μ' h' H' x v:=by
 cases x with
 | d x=>exact RepD.stp s r q
 | loc l=>obtain ⟨a,e,z⟩:=q;exact ⟨a,s.pre l a e,z⟩
theorem RepO.stp (s:Stp μ h H μ' h' H') (r:Rep K μ h H) {a:Addr} {o:Ob} (e:H' a=H a) (q:RepO K μ h H a o):RepO K μ' h' H' a o:=by
 cases o with
 | lst xs=>obtain ⟨vs,e1,z⟩:=q;exact ⟨vs,e.trans e1,RepDs.stp s r z⟩
 | fro xs=>obtain ⟨vs,e1,z⟩:=q;exact ⟨vs,e.trans e1,RepDs.stp s r z⟩
 | ols ls=>obtain ⟨vs,e1,z⟩:=q;exact ⟨vs,e.trans e1,L2.Paired.mapP z λl v ⟨b,eb,ev⟩=>⟨b,s.pre l b eb,ev⟩⟩
 | dfr kvs=>obtain ⟨ob,xs,e1,z⟩:=q;exact ⟨ob,xs,e.trans e1,L2.Paired.mapP z λp q ⟨ep,ek,ev⟩=>⟨ep,⟨ek.1,RepD.stp s r ek.2⟩,RepD.stp s r ev⟩⟩
 | dic kvs=>obtain ⟨xs,e1,z⟩:=q;exact ⟨xs,e.trans e1,L2.Paired.mapP z λp q ⟨ep,ek,ev⟩=>⟨ep,⟨ek.1,RepD.stp s r ek.2⟩,RepD.stp s r ev⟩⟩
 | ins c fs=>obtain ⟨C,dx,fs',ec,e1,z⟩:=q;exact ⟨C,dx,fs',ec,e.trans e1,L2.Paired.mapP z λp q ⟨ep,eq⟩=>⟨ep,RepR.stp s r eq⟩⟩
theorem Stp.fresh {p:Addr} {o:HO} (n:H p=none):Stp μ h H μ h (upd H p o):=
 ⟨λ_ _ e=>e,λa o' _ e=>by rw [zaF (zaN e n)];exact e,λ_ l=>.inl l⟩
theorem Rep.ne_fresh (r:Rep K μ h H) {p a:Addr} {i:Nat} {o:Ob} (n:H p=none) (e1:μ[i]?=some a) (e2:h[i]?=some o):a≠p:=by
 obtain ⟨u,q⟩:=(r.obj i a o e1 e2).some
 exact zaN q n
theorem Rep.fresh {p:Addr} {o:HO} (r:Rep K μ h H) (n:H p=none):Rep K μ h (upd H p o):=
 ⟨r.len,r.nd,λi a ob e1 e2=>RepO.stp (Stp.fresh n) r (zaF (r.ne_fresh n e1 e2)) (r.obj i a ob e1 e2)⟩
theorem zhA {p:Addr} {o:Ob} (hl:μ.length=h.length) {a:Addr}:Live (μ++[p]) (h++[o]) a↔Live μ h a\/(a=p/\o.mut=true):=by
 constructor
 ·rintro ⟨i,o',e1,e2,e3⟩
  by_cases hi:i<μ.length
  ·rw [List.getElem?_append_left hi] at e1
   rw [List.getElem?_append_left (by omega)] at e2
   exact .inl ⟨i,o',e1,e2,e3⟩
  ·rw [List.getElem?_append_right (by omega)] at e1 e2
   have hz:i-μ.length=0:=by
    cases hk:i-μ.length with
    | zero=>rfl
    | succ k=>rw [hk] at e1;simp at e1
   rw [hz] at e1
   rw [<-hl,hz] at e2
   simp at e1 e2
   subst e1 e2
   exact .inr ⟨rfl,e3⟩
 ·rintro (⟨i,o',e1,e2,e3⟩ | ⟨rfl,e3⟩)
  ·obtain ⟨h1,_⟩:=List.getElem?_eq_some_iff.mp e1
   exact ⟨i,o',by rw [List.getElem?_append_left h1];exact e1,by rw [List.getElem?_append_left (by omega)];exact e2,e3⟩
  ·exact ⟨μ.length,o,by simp,by rw [hl];simp,e3⟩
theorem Stp.allocO {p:Addr} {ob:Ob} {o:HO} (r:Rep K μ h H) (n:H p=none):Stp μ h H (μ++[p]) (h++[ob]) (upd H p o):=
  ⟨fun i a e=>by rw [List.getElem?_append_left (List.getElem?_eq_some_iff.mp e).1];exact e,λa o' _ e=>by rw [zaF (zaN e n)];exact e,
   fun a l=>by
    rcases (zhA r.len).mp l with z | ⟨rfl,_⟩
    · exact .inl z
    · exact .inr n⟩
theorem Stp.alloc {p:Addr} {xs:List D} {o:HO} (r:Rep K μ h H) (n:H p=none):Stp μ h H (μ++[p]) (h++[.lst xs]) (upd H p o):=Stp.allocO r n
theorem Rep.allocO {p:Addr} {o:Ob} {u:HO} (r:Rep K μ h H) (n:H p=none) (q:RepO K (μ++[p]) (h++[o]) (upd H p u) p o):Rep K (μ++[p]) (h++[o]) (upd H p u):=by
 have st:Stp μ h H (μ++[p]) (h++[o]) (upd H p u):=Stp.allocO r n
 refine ⟨by simp [r.len],?_,λi a ob e1 e2=>?_⟩
 ·rw [List.nodup_append]
  refine ⟨r.nd,by simp,λa ha b hb=>?_⟩
  simp at hb
  subst hb
  rintro rfl
  obtain ⟨i,hi,e⟩:=List.getElem_of_mem ha
  have hi':i<h.length:=by rw [<-r.len];exact hi
  exact r.ne_fresh n (by rw [List.getElem?_eq_getElem hi,e]) (List.getElem?_eq_getElem hi') rfl
 ·by_cases hi:i<μ.length
  ·rw [List.getElem?_append_left hi] at e1
   rw [List.getElem?_append_left (by have:=r.len;omega)] at e2
   exact RepO.stp st r (zaF (r.ne_fresh n e1 e2)) (r.obj i a ob e1 e2)
  ·rw [List.getElem?_append_right (by omega)] at e1
   have hz:i-μ.length=0:=by
    cases hk:i-μ.length with
    | zero=>rfl
    | succ k=>rw [hk] at e1;simp at e1
   rw [hz] at e1
   simp at e1
   subst e1
   have hi2:i=h.length:=by have:=r.len;have:=(List.getElem?_eq_some_iff.mp e2).1;simp at this;omega
   subst hi2
   simp at e2
   subst e2
   exact q
theorem Rep.alloc {p:Addr} {xs:List D} {vs:List V} (r:Rep K μ h H) (n:H p=none) (q:RepDs K (Live μ h) H xs vs):Rep K (μ++[p]) (h++[.lst xs]) (upd H p (.lst vs)):=
 r.allocO n ⟨vs,zaD,RepDs.stp (Stp.allocO r n) r q⟩
end
end IT
set_option linter.all false
set_option maxHeartbeats 4000000
namespace IT
open PySem PySem.Spec L2
noncomputable def RdD (K:PySem.W.Frag) (A:Addr->Prop) (H:Hp) (x:D) (v:V):Prop:=match x with
 | .lst xs=>∃ a vs,v=.ref a/\SqL K H a vs/\RepDs K A H xs vs
 | x=>RepD K A H x v
section
variable {K:PySem.W.Frag} {μ μ':List Addr} {h h':Sto} {H H':Hp}
theorem RdD.of {A:Addr->Prop} {x:D} {v:V} (q:RepD K A H x v):RdD K A H x v:=by
 cases x with
 | lst xs=>
  simp only [RepD] at q
  obtain ⟨a,vs,e,r,z⟩:=q
  exact ⟨a,vs,e,r.sq,z⟩
 | _=>exact q
theorem zd6 {l:Nat} {d:D} (e:rd (.loc l) h=some (d,h')):∃ o,h[l]?=some o/\o.isL=true/\d=.lst o.items/\h'=h:=by
 simp only [rd] at e
 cases ho:h[l]? with
 | none=>rw [ho] at e;cases e
 | some o=>
  rw [ho] at e
  simp only at e
  split at e
  ·rename_i il
   simp only [Option.some.injEq,Prod.mk.injEq] at e
   exact ⟨o,rfl,il,e.1.symm,e.2.symm⟩
  ·cases e
theorem zeK {x:R} {u:Unit} (e:zep x h=some (u,h')):∃ l o,x=.loc l/\h[l]?=some o/\o.isL=true/\h'=h:=by
 cases x with
 | d _=>cases e
 | loc l=>
  simp only [zep] at e
  cases ho:h[l]? with
  | none=>rw [ho] at e;cases e
  | some o=>
   rw [ho] at e
   simp only at e
   split at e
   ·rename_i il
    simp only [Option.some.injEq,Prod.mk.injEq] at e
    exact ⟨l,o,rfl,ho,il,e.2.symm⟩
   ·cases e
theorem zbN {r:R} {v:V} {d:D} (R0:Rep K μ h H) (q:RepR K μ h H r v) (e:rd r h=some (d,h')):h'=h/\RdD K (Live μ h) H d v:=by
 cases r with
 | d x=>
  simp only [rd,ok,Option.some.injEq,Prod.mk.injEq] at e
  obtain ⟨rfl,rfl⟩:=e
  exact ⟨rfl,RdD.of q⟩
 | loc l=>
  obtain ⟨a,ea,rfl⟩:=q
  simp only [rd] at e
  cases ho:h[l]? with
  | none=>rw [ho] at e;cases e
  | some o=>
   rw [ho] at e
   simp only at e
   split at e
   ·rename_i il
    simp only [Option.some.injEq,Prod.mk.injEq] at e
    obtain ⟨rfl,rfl⟩:=e
    obtain ⟨vs,q1,q2⟩:=(R0.obj l a o ea ho).isL il
    exact ⟨rfl,a,vs,rfl,.inl (.inl q1),q2⟩
   ·cases e
theorem zff {l:List Addr} (hn:l.Nodup) {i j:Nat} {a:Addr} (h1:l[i]?=some a) (h2:l[j]?=some a):i=j:=by
 obtain ⟨p1,e1⟩:=List.getElem?_eq_some_iff.mp h1
 obtain ⟨p2,e2⟩:=List.getElem?_eq_some_iff.mp h2
 exact (List.getElem_inj hn).mp (e1.trans e2.symm)
theorem zqj {l:Nat} {o:Ob} (R0:Rep K μ h H) (ho:h[l]?=some o) (il:o.isL=true):Stp μ h H μ (h.set l (.fro o.items)) H/\Rep K μ (h.set l (.fro o.items)) H:=by
 have hl:l<h.length:=(List.getElem?_eq_some_iff.mp ho).1
 have lv:∀ a,Live μ (h.set l (.fro o.items)) a->Live μ h a:=by
  rintro a ⟨i,xs,e1,e2,e3⟩
  by_cases hi:i=l
  ·subst hi
   rw [List.getElem?_set_self hl] at e2
   cases e2
   cases e3
  ·rw [List.getElem?_set_ne (Ne.symm hi)] at e2
   exact ⟨i,xs,e1,e2,e3⟩
 have st:Stp μ h H μ (h.set l (.fro o.items)) H:=⟨λ_ _ e=>e,λ_ _ _ e=>e,λa z=>.inl (lv a z)⟩
 refine ⟨st,by simp [R0.len],R0.nd,λi a ob e1 e2=>?_⟩
 by_cases hi:i=l
 ·subst hi
  rw [List.getElem?_set_self hl] at e2
  cases e2
  obtain ⟨vs,q1,q2⟩:=(R0.obj i a o e1 ho).isL il
  exact ⟨vs,q1,RepDs.stp st R0 q2⟩
 ·rw [List.getElem?_set_ne (Ne.symm hi)] at e2
  exact RepO.stp st R0 rfl (R0.obj i a ob e1 e2)
theorem ziW {r:R} {v:V} {d:D} (R0:Rep K μ h H) (q:RepR K μ h H r v) (e:fz r h=some (d,h')):Stp μ h H μ h' H/\Rep K μ h' H/\RepD K (Live μ h') H d v:=by
 cases r with
 | d x=>
  simp only [fz,ok,Option.some.injEq,Prod.mk.injEq] at e
  obtain ⟨rfl,rfl⟩:=e
  exact ⟨Stp.refl,R0,q⟩
 | loc l=>
  obtain ⟨a,ea,rfl⟩:=q
  simp only [fz] at e
  cases ho:h[l]? with
  | none=>rw [ho] at e;cases e
  | some o=>
   rw [ho] at e
   simp only at e
   split at e
   ·rename_i il
    simp only [Option.some.injEq,Prod.mk.injEq] at e
    obtain ⟨rfl,rfl⟩:=e
    obtain ⟨st,R1⟩:=zqj R0 ho il
    have hl:l<h.length:=(List.getElem?_eq_some_iff.mp ho).1
    obtain ⟨vs,q1,q2⟩:=(R0.obj l a o ea ho).isL il
    refine ⟨st,R1,?_⟩
    simp only [RepD]
    refine ⟨a,vs,rfl,.inl ⟨?_,.inl q1⟩,RepDs.stp st R0 q2⟩
    rintro ⟨i,xs,e1,e2,e3⟩
    have:=zff R0.nd e1 ea
    subst this
    rw [List.getElem?_set_self hl] at e2
    cases e2
    cases e3
   ·cases e
theorem zl9 {l:Nat} {a:Addr} {o o':Ob} {u:HO} (R0:Rep K μ h H) (ea:μ[l]?=some a) (ho:h[l]?=some o) (hm:o.mut=true)
  (q:Stp μ h H μ (h.set l o') (upd H a u)->RepO K μ (h.set l o') (upd H a u) a o'):Stp μ h H μ (h.set l o') (upd H a u)/\Rep K μ (h.set l o') (upd H a u):=by
 have hl:l<h.length:=(List.getElem?_eq_some_iff.mp ho).1
 have hla:Live μ h a:=⟨l,o,ea,ho,hm⟩
 have lv:∀ b,Live μ (h.set l o') b->Live μ h b:=by
  rintro b ⟨i,zs,e1,e2,e3⟩
  by_cases hi:i=l
  ·subst hi
   exact ⟨i,o,e1,ho,hm⟩
  ·rw [List.getElem?_set_ne (Ne.symm hi)] at e2
   exact ⟨i,zs,e1,e2,e3⟩
 have st:Stp μ h H μ (h.set l o') (upd H a u):=
  ⟨λ_ _ e=>e,λb o n e=>by rw [zaF (λz=>n (by rw [z];exact hla))];exact e,λb z=>.inl (lv b z)⟩
 refine ⟨st,by simp [R0.len],R0.nd,λi b ob e1 e2=>?_⟩
 by_cases hi:i=l
 ·subst hi
  rw [ea] at e1;cases e1
  rw [List.getElem?_set_self hl] at e2
  cases e2
  exact q st
 ·rw [List.getElem?_set_ne (Ne.symm hi)] at e2
  exact RepO.stp st R0 (zaF (λz:b=a=>hi (zff R0.nd e1 (by rw [z];exact ea)))) (R0.obj i b ob e1 e2)
theorem write {l:Nat} {a:Addr} {xs ys:List D} {ws:List V} (R0:Rep K μ h H) (ea:μ[l]?=some a) (ho:h[l]?=some (.lst xs)) (q:RepDs K (Live μ h) H ys ws) :
  Stp μ h H μ (h.set l (.lst ys)) (upd H a (.lst ws))/\Rep K μ (h.set l (.lst ys)) (upd H a (.lst ws)):=
 zl9 R0 ea ho rfl λst=>⟨ws,zaD,RepDs.stp st R0 q⟩
end
theorem zae {α β:Type} {x:M α} {f:α->M β} {h:Sto} {r:β×Sto}:bnd x f h=some r↔∃ a h1,x h=some (a,h1)/\f a h1=some r:=by
 unfold bnd
 cases e:x h with
 | none=>simp
 | some p=>
  obtain ⟨a,h1⟩:=p
  exact ⟨λq=>⟨a,h1,rfl,q⟩,λ⟨a',h1',e',q⟩=>by cases e';exact q⟩
theorem zaf {α:Type} {a b:α} {h h':Sto}:ok a h=some (b,h')↔a=b/\h=h':=by simp [ok]
theorem za7 {α:Type} {o:Option α} {b:α} {h h':Sto}:opt o h=some (b,h')↔o=some b/\h=h':=by
 unfold opt
 cases o with
 | none=>simp
 | some a=>simp
structure RepE (K:PySem.W.Frag) (μ:List Addr) (h:Sto) (H:Hp) (env:IT.Env) (σ:St):Prop where
 len:env.length=σ.length
 get:∀ (i:Nat) (r:R),env[i]?=some (some r)->∃ v,σ[i]?=some (some v)/\RepR K μ h H r v
inductive zbJ (K:PySem.W.Frag) (μ:List Addr) (h:Sto) (H:Hp):List R->List V->Prop where
 | nil:zbJ K μ h H [] []
 | cons {r:R} {v:V} {rs:List R} {vs:List V}:RepR K μ h H r v->zbJ K μ h H rs vs->zbJ K μ h H (r::rs) (v::vs)
section
variable {K:PySem.W.Frag} {μ μ':List Addr} {h h':Sto} {H H':Hp}
theorem RepE.stp (s:Stp μ h H μ' h' H') (R0:Rep K μ h H) {env:IT.Env} {σ:St} (q:RepE K μ h H env σ):RepE K μ' h' H' env σ:=
 ⟨q.len,λi r e=>let ⟨v,e',z⟩:=q.get i r e;⟨v,e',z.stp s R0⟩⟩
theorem zbJ.stp (s:Stp μ h H μ' h' H') (R0:Rep K μ h H) {rs:List R} {vs:List V} (q:zbJ K μ h H rs vs):zbJ K μ' h' H' rs vs:=by
 induction q with
 | nil=>exact .nil
 | cons a _ ih=>exact .cons (a.stp s R0) ih
theorem zbJ.length {rs:List R} {vs:List V} (q:zbJ K μ h H rs vs):rs.length=vs.length:=by
 induction q with
 | nil=>rfl
 | cons _ _ ih=>simp [ih]
theorem RepE.set {env:IT.Env} {σ:St} (q:RepE K μ h H env σ) (i:Nat) {r:R} {v:V} (z:RepR K μ h H r v):RepE K μ h H (env.set i (some r)) (σ.set i (some v)):=by
 refine ⟨by simp [q.len],λj r' e=>?_⟩
 by_cases hj:j=i
 ·subst hj
  have hl:j<env.length:=by
   have:=(List.getElem?_eq_some_iff.mp e).1
   simpa using this
  rw [List.getElem?_set_self hl] at e
  cases e
  exact ⟨v,by rw [List.getElem?_set_self (by rw [<-q.len];exact hl)],z⟩
 ·rw [List.getElem?_set_ne (Ne.symm hj)] at e ⊢
  exact q.get j r' e
theorem ziL:∀ {rs:List R} {vs:List V} {ds:List D} {h h':Sto},Rep K μ h H->zbJ K μ h H rs vs->rds rs h=some (ds,h')->h'=h/\Paired (RdD K (Live μ h) H) ds vs
 | [],_,ds,h,h',R0,.nil,e=>by
  simp only [rds,zaf] at e
  obtain ⟨rfl,rfl⟩:=e
  exact ⟨rfl,.nil⟩
 | r::rs,_,ds,h,h',R0,.cons q qs,e=>by
  simp only [rds,zae,zaf] at e
  obtain ⟨d,h1,e1,ds',h2,e2,rfl,rfl⟩:=e
  obtain ⟨rfl,z⟩:=zbN R0 q e1
  obtain ⟨rfl,zs⟩:=ziL R0 qs e2
  exact ⟨rfl,.cons z zs⟩
theorem zjL:∀ {rs:List R} {vs:List V} {ds:List D} {h h':Sto},Rep K μ h H->zbJ K μ h H rs vs->fzs rs h=some (ds,h')->Stp μ h H μ h' H/\Rep K μ h' H/\RepDs K (Live μ h') H ds vs
 | [],_,ds,h,h',R0,.nil,e=>by
  simp only [fzs,zaf] at e
  obtain ⟨rfl,rfl⟩:=e
  exact ⟨Stp.refl,R0,.nil⟩
 | r::rs,_,ds,h,h',R0,.cons q qs,e=>by
  simp only [fzs,zae,zaf] at e
  obtain ⟨d,h1,e1,ds',h2,e2,rfl,rfl⟩:=e
  obtain ⟨s1,R1,z⟩:=ziW R0 q e1
  obtain ⟨s2,R2,zs⟩:=zjL R1 (qs.stp s1 R0) e2
  exact ⟨s1.trans s2,R2,.cons (z.stp s2 R1) zs⟩
end
inductive Post {α β:Type} (K:PySem.W.Frag) (μ:List Addr) (h:Sto) (H:Hp) (Rel:List Addr->Sto->Hp->α->β->Prop) (m:Option (α×Sto)) (Q:β->Hp->Prop):Prop where
 | mk (r:α) (h':Sto) (e:m=some (r,h')) (k:∀ μ' H' v,Stp μ h H μ' h' H'->Rep K μ' h' H'->Rel μ' h' H' r v->Q v H')
inductive tE (K:PySem.W.Frag) (f:IT.Env->M R) (σ:St) (H:Hp) (Q:VK):Prop where
 | mk (μ:List Addr) (h:Sto) (env:IT.Env) (R0:Rep K μ h H) (re:RepE K μ h H env σ) (p:Post K μ h H (RepR K) (f env h) Q)
inductive tTv (K:PySem.W.Frag) (f:IT.Env->M Bool) (σ:St) (H:Hp) (Q:Bool->Hp->Prop):Prop where
 | mk (μ:List Addr) (h:Sto) (env:IT.Env) (R0:Rep K μ h H) (re:RepE K μ h H env σ) (p:Post K μ h H (λ_ _ _ a b=>a=b) (f env h) Q)
inductive tAs (K:PySem.W.Frag) (f:IT.Env->M (List R)) (σ:St) (H:Hp) (Q:List V->Hp->Prop):Prop where
 | mk (μ:List Addr) (h:Sto) (env:IT.Env) (R0:Rep K μ h H) (re:RepE K μ h H env σ) (p:Post K μ h H (zbJ K) (f env h) Q)
inductive tLs (K:PySem.W.Frag) (f:IT.Env->M (List D)) (σ:St) (H:Hp) (Q:VK):Prop where
 | mk (μ:List Addr) (h:Sto) (env:IT.Env) (R0:Rep K μ h H) (re:RepE K μ h H env σ) (xs:List D) (h':Sto) (e:f env h=some (xs,h')) (k:∀ μ' H' a vs,Stp μ h H μ' h' H'->Rep K μ' h' H'->RepDs K (Live μ' h') H' xs vs->H' a=none->Q (.ref a) (upd H' a (.lst vs)))
noncomputable abbrev IE (X:Cx) (e:Expr) (f:IT.Env->M R):Prop:=PE X e (tE X.K f)
noncomputable abbrev IT' (X:Cx) (e:Expr) (f:IT.Env->M Bool):Prop:=PT X e (tTv X.K f)
noncomputable abbrev IA (X:Cx) (es:List Expr) (f:IT.Env->M (List R)):Prop:=PA X es (tAs X.K f)
noncomputable abbrev IL (X:Cx) (e:Expr) (f:IT.Env->M (List D)):Prop:=PE X e (tLs X.K f)
theorem PE.imp {X:Cx} {e:Expr} {t t':TE} (h:PE X e t) (i:∀ σ H Q,t' σ H Q->t σ H Q):PE X e t':=λpins s σ H Q I q=>h pins s σ H Q I (i σ H Q q)
theorem PT.imp {X:Cx} {e:Expr} {t t':TT} (h:PT X e t) (i:∀ σ H Q,t' σ H Q->t σ H Q):PT X e t':=λpins s σ H Q I q=>h pins s σ H Q I (i σ H Q q)
theorem PA.imp {X:Cx} {e:List Expr} {t t':TA} (h:PA X e t) (i:∀ σ H Q,t' σ H Q->t σ H Q):PA X e t':=λpos pins s σ H Q I q=>h pos pins s σ H Q I (i σ H Q q)
section
variable {X:Cx} {e a b c:Expr} {es:List Expr} {pos:Pos} {f g k:IT.Env->M R} {ft gt:IT.Env->M Bool}
theorem zgB {v:V} {d:D} (h:PE X e (tC v)) (hd:∀ A H,RepD X.K A H d v):IE X e (λ_=>ok (.d d)):=by
 refine PE.imp h λσ H Q q0=>?_
 obtain ⟨μ,h,env,R0,re,r,h',e,k⟩:=q0
 obtain ⟨rfl,rfl⟩:=zaf.mp e
 exact k μ H v Stp.refl R0 (hd _ _)
theorem zqB {i:Nat} (h:PE X e (tVar i)):IE X e (λσ h=>match σ[i]? with | some (some r)=>some (r,h) | _=>none):=by
 refine PE.imp h λσ H Q q0=>?_
 obtain ⟨μ,h,env,R0,re,r,h',e,k⟩:=q0
 have e2:env[i]?=some (some r)/\h=h':=by
  (try dsimp only at e)
  cases q:env[i]? with
  | none=>rw [q] at e;cases e
  | some o=>
   cases o with
   | none=>rw [q] at e;cases e
   | some r'=>rw [q] at e;simp at e;exact ⟨by rw [e.1],e.2⟩
 obtain ⟨e3,rfl⟩:=e2
 obtain ⟨v,e4,z⟩:=re.get i r e3
 exact ⟨v,e4,k μ H v Stp.refl R0 z⟩
inductive OpIQ (K:PySem.W.Frag) (m:R->R->M R) (v u:V) (H:Hp) (Q:VK):Prop where
 | mk (μ:List Addr) (h:Sto) (x y:R) (R0:Rep K μ h H) (qx:RepR K μ h H x v) (qy:RepR K μ h H y u) (p:Post K μ h H (RepR K) (m x y h) Q)
noncomputable def OpI (X:Cx) (F:Value->Value->Sem Value) (m:R->R->M R):Prop:=OpR X F λv u H Q=>OpIQ X.K m v u H Q
theorem two {m:R->R->M R} {σ:St} {H:Hp} {Q:VK} (q:tE X.K (λσ=>bnd (f σ) λx=>bnd (g σ) λy=>m x y) σ H Q) :
  tE X.K f σ H λv H1=>tE X.K g σ H1 λu H2=>OpIQ X.K m v u H2 Q:=by
 obtain ⟨μ,h,env,R0,re,r,h',e,k⟩:=q
 simp only [zae] at e
 obtain ⟨x,h1,e1,y,h2,e2,e3⟩:=e
 exact ⟨μ,h,env,R0,re,x,h1,e1,λμ1 H1 v s1 R1 q1=>⟨μ1,h1,env,R1,re.stp s1 R0,y,h2,e2,λμ2 H2 u s2 R2 q2=>
  ⟨μ2,h2,x,y,R2,q1.stp s2 R1,q2,r,h',e3,λμ3 H3 w s3 R3 q3=>k μ3 H3 w ((s1.trans s2).trans s3) R3 q3⟩⟩⟩
theorem zoj {op:Operator} {m:R->R->M R} (ho:OpI X (binaryOp op) m) (ha:IE X a f) (hb:IE X b g):IE X (.BinOp a op b pos) (λσ=>bnd (f σ) λx=>bnd (g σ) λy=>m x y):=
 PE.imp (zrQ ho ha hb) λσ H Q q=>two q
theorem ziT {op:CmpOp} {m:R->R->M R} (ho:OpI X (compareOp op) m) (ha:IE X a f) (hb:IE X b g) (hm:behindInMarks op b=false):IE X (.Compare a [op] [b] pos) (λσ=>bnd (f σ) λx=>bnd (g σ) λy=>m x y):=
 PE.imp (zmt ho ha hb hm) λσ H Q q=>two q
inductive OpDQ (K:PySem.W.Frag) (g:D->D->Option D) (v u:V) (H:Hp) (Q:VK):Prop where
 | mk (μ:List Addr) (h:Sto) (a b z:D) (R0:Rep K μ h H) (qa:RdD K (Live μ h) H a v) (qb:RdD K (Live μ h) H b u) (e:g a b=some z) (k:∀ μ' H' w,Stp μ h H μ' h H'->Rep K μ' h H'->RepD K (Live μ' h) H' z w->Q w H')
noncomputable def OpD (X:Cx) (F:Value->Value->Sem Value) (g:D->D->Option D):Prop:=OpR X F λv u H Q=>OpDQ X.K g v u H Q
noncomputable def mD (g:D->D->Option D) (x y:R):M R:=bnd (rd x) λx=>bnd (rd y) λy=>bnd (opt (g x y)) λz=>ok (.d z)
theorem OpD.opI {F:Value->Value->Sem Value} {g:D->D->Option D} (h:OpD X F g):OpI X F (mD g):=by
 intro pins s σ H v u v' u' Q I rv ru q
 obtain ⟨μ,h0,x,y,R0,qx,qy,r,h',e,k⟩:=q
 simp only [mD,zae,zaf,za7] at e
 obtain ⟨dx,h1,e1,dy,h2,e2,z,h3,⟨e3,rfl⟩,rfl,rfl⟩:=e
 obtain ⟨rfl,zx⟩:=zbN R0 qx e1
 obtain ⟨rfl,zy⟩:=zbN R0 qy e2
 exact h pins s σ H v u v' u' Q I rv ru ⟨μ,_,dx,dy,z,R0,zx,zy,e3,λμ' H' w st R1 qw=>k μ' H' w st R1 qw⟩
theorem zpr (h:IE X e f) (he:∀ whole,isTrue e X.env whole=(do let v<-whole;standAt e.pos;holding [v] (truthy v))):IT' X e (λσ=>bnd (f σ) λr=>bnd (rd r) λd=>opt (tru d)):=by
 refine PT.imp (zlT h he) λσ H Q q0=>?_
 obtain ⟨μ,h,env,R0,re,t,h',e,k⟩:=q0
 simp only [zae,za7] at e
 obtain ⟨r,h1,e1,d,h2,e2,e3,rfl⟩:=e
 refine ⟨μ,h,env,R0,re,r,h1,e1,λμ1 H1 v s1 R1 q1=>?_⟩
 obtain ⟨rfl,z⟩:=zbN R1 q1 e2
 refine ⟨t,?_,k μ1 H1 t s1 R1 rfl⟩
 cases d with
 | non=>simp only [RdD,RepD] at z;subst z;simp only [tru,Option.some.injEq] at e3;exact e3.symm
 | bl b=>simp only [RdD,RepD] at z;subst z;simp only [tru,Option.some.injEq] at e3;exact e3.symm
 | int i=>simp only [RdD,RepD] at z;subst z;simp only [tru,Option.some.injEq] at e3;exact e3.symm
 | str x=>
  simp only [RdD,RepD] at z
  subst z
  simp only [tru] at e3
  split at e3
  ·rename_i hf
   simp only [Option.some.injEq] at e3
   refine ⟨by rw [zai];exact of_decide_eq_true hf,?_⟩
   rw [<-e3,zai]
   cases x<;>simp
   omega
  ·cases e3
 | tup xs=>
  simp only [RdD,RepD] at z
  obtain ⟨a,vs,rfl,q,zs⟩:=z
  simp only [tru,Option.some.injEq] at e3
  refine .inr (.inl ⟨vs,q,?_⟩)
  rw [<-e3]
  have:=zs.length
  cases xs<;>cases vs<;>simp_all
 | lst xs=>
  obtain ⟨a,vs,rfl,q,zs⟩:=z
  simp only [tru,Option.some.injEq] at e3
  refine .inl ⟨vs,q,?_⟩
  rw [<-e3]
  have:=zs.length
  cases xs<;>cases vs<;>simp_all
theorem zjQ {op:CmpOp} {m:R->R->M R} (ho:OpI X (compareOp op) m) (ha:IE X a f) (hb:IE X b g) (hm:behindInMarks op b=false) (hbl:∀ x y h r h',m x y h=some (r,h')->∃ t,r=.d (.bl t)) :
  IT' X (.Compare a [op] [b] pos) (λσ=>bnd (bnd (f σ) λx=>bnd (g σ) λy=>m x y) λr=>bnd (rd r) λd=>opt (tru d)):=by
 refine PT.imp (znx ho ha hb hm) λσ H Q q0=>?_
 obtain ⟨μ,h,env,R0,re,t,h',e,k⟩:=q0
 simp only [zae,za7] at e
 obtain ⟨r,h1,⟨x,h2,e1,y,h3,e2,e3⟩,d,h4,e4,e5,rfl⟩:=e
 obtain ⟨t',rfl⟩:=hbl _ _ _ _ _ e3
 simp only [rd,zaf] at e4
 obtain ⟨rfl,rfl⟩:=e4
 simp only [tru,Option.some.injEq] at e5
 subst e5
 refine two (m:=m) ⟨μ,h,env,R0,re,.d (.bl t'),h1,by simp only [zae];exact ⟨x,h2,e1,y,h3,e2,e3⟩,λμ1 H1 v s1 R1 q1=>?_⟩
 simp only [RepR,RepD] at q1
 subst q1
 exact ⟨t',rfl,k μ1 H1 t' s1 R1 rfl⟩
theorem zmh {rest:List Expr} {tb:TT} (ha:IT' X a ft) (hb:PW X (.BoolOp .And (b::rest) pos) (tTv X.K gt)):PW X (.BoolOp .And (a::b::rest) pos) (tTv X.K λσ=>bnd (ft σ) λt=>if t then gt σ else ok false):=by
 intro whole pins s σ H Q I q
 refine zpa ha hb whole pins s σ H Q I ?_
 obtain ⟨μ,h,env,R0,re,t,h',e,k⟩:=q
 simp only [zae] at e
 obtain ⟨u,h1,e1,e2⟩:=e
 refine ⟨μ,h,env,R0,re,u,h1,e1,λμ1 H1 v s1 R1 hv=>?_⟩
 subst hv
 cases u with
 | true=>
  rw [if_pos rfl] at e2
  rw [if_pos rfl]
  exact ⟨μ1,h1,env,R1,re.stp s1 R0,t,h',e2,λμ2 H2 v s2 R2 hv=>k μ2 H2 v (s1.trans s2) R2 hv⟩
 | false=>
  rw [if_neg (by decide)] at e2
  rw [if_neg (by decide)]
  obtain ⟨rfl,rfl⟩:=zaf.mp e2
  exact k μ1 H1 _ s1 R1 rfl
theorem zqz {rest:List Expr} (ha:IT' X a ft) (hb:PW X (.BoolOp .Or (b::rest) pos) (tTv X.K gt)):PW X (.BoolOp .Or (a::b::rest) pos) (tTv X.K λσ=>bnd (ft σ) λt=>if t then ok true else gt σ):=by
 intro whole pins s σ H Q I q
 refine zrD ha hb whole pins s σ H Q I ?_
 obtain ⟨μ,h,env,R0,re,t,h',e,k⟩:=q
 simp only [zae] at e
 obtain ⟨u,h1,e1,e2⟩:=e
 refine ⟨μ,h,env,R0,re,u,h1,e1,λμ1 H1 v s1 R1 hv=>?_⟩
 subst hv
 cases u with
 | false=>
  rw [if_neg (by decide)] at e2
  rw [if_neg (by decide)]
  exact ⟨μ1,h1,env,R1,re.stp s1 R0,t,h',e2,λμ2 H2 v s2 R2 hv=>k μ2 H2 v (s1.trans s2) R2 hv⟩
 | true=>
  rw [if_pos rfl] at e2
  rw [if_pos rfl]
  obtain ⟨rfl,rfl⟩:=zaf.mp e2
  exact k μ1 H1 _ s1 R1 rfl
theorem zot (ha:IT' X a ft):IT' X (.UnaryOp .Not a pos) (λσ=>bnd (ft σ) λt=>ok (!t)):=by
 refine PT.imp (zqt ha) λσ H Q q0=>?_
 obtain ⟨μ,h,env,R0,re,t,h',e,k⟩:=q0
 simp only [zae,zaf] at e
 obtain ⟨u,h1,e1,rfl,rfl⟩:=e
 refine ⟨μ,h,env,R0,re,u,h1,e1,λμ1 H1 v s1 R1 hv=>?_⟩
 subst hv
 exact k μ1 H1 _ s1 R1 rfl
theorem zmg {rest:List Expr} (ha:IE X a f) (hb:IE X (.BoolOp .And (b::rest) pos) g):IE X (.BoolOp .And (a::b::rest) pos) (λσ=>bnd (f σ) λx=>match x with | .d (.bl c)=>if c then g σ else ok (.d (.bl false)) | _=>λ_=>none):=by
 refine PE.imp (zpy ha hb) λσ H Q q0=>?_
 obtain ⟨μ,h,env,R0,re,r,h',e,k⟩:=q0
 simp only [zae] at e
 obtain ⟨x,h1,e1,e2⟩:=e
 refine ⟨μ,h,env,R0,re,x,h1,e1,λμ1 H1 v s1 R1 q1=>?_⟩
 cases x with
 | loc l=>cases e2
 | d d=>
  cases d with
  | bl c=>
   simp only [RepR,RepD] at q1
   refine ⟨c,q1,?_⟩
   cases c with
   | true=>
    simp only [if_true] at e2 ⊢
    exact ⟨μ1,h1,env,R1,re.stp s1 R0,r,h',e2,λμ2 H2 v s2 R2 hv=>k μ2 H2 v (s1.trans s2) R2 hv⟩
   | false=>
    simp only [Bool.false_eq_true,if_false] at e2 ⊢
    obtain ⟨rfl,rfl⟩:=zaf.mp e2
    exact k μ1 H1 _ s1 R1 (by simp only [RepR,RepD])
  | _=>cases e2
theorem zpG {rest:List Expr} (ha:IE X a f) (hb:IE X (.BoolOp .Or (b::rest) pos) g):IE X (.BoolOp .Or (a::b::rest) pos) (λσ=>bnd (f σ) λx=>match x with | .d (.bl c)=>if c then ok (.d (.bl true)) else g σ | _=>λ_=>none):=by
 refine PE.imp (zqX ha hb) λσ H Q q0=>?_
 obtain ⟨μ,h,env,R0,re,r,h',e,k⟩:=q0
 simp only [zae] at e
 obtain ⟨x,h1,e1,e2⟩:=e
 refine ⟨μ,h,env,R0,re,x,h1,e1,λμ1 H1 v s1 R1 q1=>?_⟩
 cases x with
 | loc l=>cases e2
 | d d=>
  cases d with
  | bl c=>
   simp only [RepR,RepD] at q1
   refine ⟨c,q1,?_⟩
   cases c with
   | false=>
    simp only [Bool.false_eq_true,if_false] at e2 ⊢
    exact ⟨μ1,h1,env,R1,re.stp s1 R0,r,h',e2,λμ2 H2 v s2 R2 hv=>k μ2 H2 v (s1.trans s2) R2 hv⟩
   | true=>
    simp only [if_true] at e2 ⊢
    obtain ⟨rfl,rfl⟩:=zaf.mp e2
    exact k μ1 H1 _ s1 R1 (by simp only [RepR,RepD])
  | _=>cases e2
theorem zjU {pins:List (Addr×Obj)} {σ:St} {H:Hp} {s:Shared} {A:Around} {A0:Addr->Prop} {d:D} {v:V} {u:Value} {b:Bool} {Q:Bool->Shared->Prop} {E:Value->Shared->Prop} (I:Inv X pins σ H s) (q:RdD X.K A0 H d v) (r:RelV v u) (e:tru d=some b) (k:∀ tk,Q b { s with toks:=tk }) :
  wpAny (model X.prog X.w) A (truthy u) Q E s:=by
 have hl:=zed
 have hs:sizeLine=16777216:=sizeLine_eq
 cases d with
 | non=>
  simp only [RdD,RepD] at q;subst q;cases r
  simp only [tru,Option.some.injEq] at e;subst e
  exact PyProof.Rows.truthy_none (k s.toks)
 | bl c=>
  simp only [RdD,RepD] at q;subst q;cases r
  simp only [tru,Option.some.injEq] at e;subst e
  exact wpAny_truthy_bool (k s.toks)
 | int i=>
  simp only [RdD,RepD] at q;subst q
  obtain ⟨t,rfl⟩:=r
  simp only [tru,Option.some.injEq] at e;subst e
  exact PySem.P.truthy_int (k s.toks)
 | str x=>
  simp only [RdD,RepD] at q;subst q
  obtain ⟨t,rfl⟩:=r
  simp only [tru] at e
  split at e
  ·rename_i hf
   simp only [Option.some.injEq] at e
   have hx:x.length<=big:=of_decide_eq_true hf
   unfold big at hx
   refine PySem.P.truthy_str (by rw [zai];omega) ?_
   have e2:(((zac x).length:Int) != 0)=b:=by
    rw [<-e,zai]
    cases x<;>simp
    omega
   rw [e2]
   exact k _
  ·cases e
 | tup xs=>
  simp only [RdD,RepD] at q
  obtain ⟨a,vs,rfl,q,zs⟩:=q
  cases r
  simp only [tru,Option.some.injEq] at e
  obtain ⟨its,ri,pl,hz⟩:=I.tuple q
  have hlen:=ri.length
  have h1:=zs.length
  refine PyProof.Rows.truthy_tuple pl (by simp only [List.size_toArray];omega) ?_
  have e2:(!its.toArray.isEmpty)=b:=by
   rw [zcq ri,<-e]
   clear hlen ri pl q hz
   cases xs<;>cases vs<;>first | rfl | (simp at h1)
  rw [e2]
  exact k _
 | lst xs=>
  obtain ⟨a,vs,rfl,q,zs⟩:=q
  cases r
  simp only [tru,Option.some.injEq] at e
  obtain ⟨its,ri,pl,hz⟩:=I.list q
  have hlen:=ri.length
  have h1:=zs.length
  refine wpAny_truthy_list pl.isList (by simp only [List.size_toArray];omega) ?_
  have e2:(!its.toArray.isEmpty)=b:=by
   rw [zcq ri,<-e]
   clear hlen ri pl q hz
   cases xs<;>cases vs<;>first | rfl | (simp at h1)
  rw [e2]
  exact k _
theorem zoq (ha:IE X a f):IE X (.UnaryOp .Not a pos) (λσ=>bnd (f σ) λx=>bnd (rd x) λd=>bnd (opt (tru d)) λt=>ok (.d (.bl (!t)))):=by
 intro pins s σ H Q I q0
 obtain ⟨μ,h,env,R0,re,r,h',e,k⟩:=q0
 simp only [zae,za7,zaf] at e
 obtain ⟨x,h1,e1,d,h2,e2,t,h3,⟨e3,rfl⟩,rfl,rfl⟩:=e
 have z:=ha pins s σ H (λy H1=>∃ A0 d,RdD X.K A0 H1 d y/\tru d=some t/\Q (.bl (!t)) H1) I ⟨μ,h,env,R0,re,x,h1,e1,λμ1 H1 v s1 R1 q1=>by
  obtain ⟨rfl,z⟩:=zbN R1 q1 e2
  exact ⟨_,d,z,e3,k μ1 H1 _ s1 R1 (by simp only [RepR,RepD])⟩⟩
 refine PyProof.Rows.UnaryOp_ (thn z λv s1 ⟨y,H1,I1,r1,A0,d',z1,z2,q1⟩=>PyProof.Rows.not_of ?_)
 exact zjU I1 z1 r1 z2 λtk=>⟨.bl (!t),H1,I1.tok _,rfl,q1⟩
theorem zpU (ha:IE X a f):IE X (.UnaryOp .USub a pos) (λσ=>bnd (f σ) λx=>match x with | .d (.int i)=>ok (.d (.int (-i))) | _=>λ_=>none):=by
 refine PE.imp (zrv zpb ha) λσ H Q q0=>?_
 obtain ⟨μ,h,env,R0,re,r,h',e,k⟩:=q0
 simp only [zae] at e
 obtain ⟨x,h1,e1,e2⟩:=e
 refine ⟨μ,h,env,R0,re,x,h1,e1,λμ1 H1 v s1 R1 q1=>?_⟩
 cases x with
 | loc l=>cases e2
 | d d=>
  cases d with
  | int i=>
   simp only [RepR,RepD] at q1
   obtain ⟨rfl,rfl⟩:=zaf.mp e2
   exact ⟨i,q1,k μ1 H1 _ s1 R1 (by simp only [RepR,RepD])⟩
  | _=>cases e2
theorem zpq (hc:IT' X c ft) (ha:IE X a f) (hb:IE X b g):IE X (.IfExp c a b pos) (λσ=>bnd (ft σ) λt=>if t then f σ else g σ):=by
 refine PE.imp (zld hc ha hb) λσ H Q q0=>?_
 obtain ⟨μ,h,env,R0,re,r,h',e,k⟩:=q0
 simp only [zae] at e
 obtain ⟨t,h1,e1,e2⟩:=e
 refine ⟨μ,h,env,R0,re,t,h1,e1,λμ1 H1 v s1 R1 hv=>?_⟩
 subst hv
 cases t with
 | true=>
  simp only [if_true] at e2 ⊢
  exact ⟨μ1,h1,env,R1,re.stp s1 R0,r,h',e2,λμ2 H2 v s2 R2 hv=>k μ2 H2 v (s1.trans s2) R2 hv⟩
 | false=>
  simp only [Bool.false_eq_true,if_false] at e2 ⊢
  exact ⟨μ1,h1,env,R1,re.stp s1 R0,r,h',e2,λμ2 H2 v s2 R2 hv=>k μ2 H2 v (s1.trans s2) R2 hv⟩
theorem zpc:IA X [] (λ_=>ok []):=by
 refine PA.imp zc9 λσ H Q q0=>?_
 obtain ⟨μ,h,env,R0,re,r,h',e,k⟩:=q0
 obtain ⟨rfl,rfl⟩:=zaf.mp e
 exact k μ H [] Stp.refl R0 .nil
theorem zmu {fs:IT.Env->M (List R)} (ha:IE X e f) (hr:IA X es fs) (hs:starEach (e::es) X.env=(false,eval e X.env)::starEach es X.env):IA X (e::es) (λσ=>bnd (f σ) λr=>bnd (fs σ) λrs=>ok (r::rs)):=by
 refine PA.imp (zby ha hr hs) λσ H Q q0=>?_
 obtain ⟨μ,h,env,R0,re,r,h',e,k⟩:=q0
 simp only [zae,zaf] at e
 obtain ⟨x,h1,e1,xs,h2,e2,rfl,rfl⟩:=e
 exact ⟨μ,h,env,R0,re,x,h1,e1,λμ1 H1 v s1 R1 q1=>⟨μ1,h1,env,R1,re.stp s1 R0,xs,h2,e2,λμ2 H2 vs s2 R2 q2=>k μ2 H2 (v::vs) (s1.trans s2) R2 (.cons (q1.stp s2 R1) q2)⟩⟩
theorem zp8 {n:Nat} {fs:IT.Env->M (List R)} (h:IA X es fs) (hl:es.length<=1000) (hf:∀ σ h rs h',fs σ h=some (rs,h')->rs.length=es.length):IE X (.Tuple es n pos) (λσ=>bnd (fs σ) λrs=>bnd (fzs rs) λds=>ok (.d (.tup ds))):=by
 refine PE.imp (zpB h) λσ H Q q0=>?_
 obtain ⟨μ,h,env,R0,re,r,h',e,k⟩:=q0
 simp only [zae,zaf] at e
 obtain ⟨rs,h1,e1,ds,h2,e2,rfl,rfl⟩:=e
 refine ⟨μ,h,env,R0,re,rs,h1,e1,λμ1 H1 vs s1 R1 q1=>⟨?_,λp hp=>?_⟩⟩
 ·rw [<-q1.length,hf _ _ _ _ e1]
  have:(1000:Nat)<=sizeLine:=by decide
  omega
 ·obtain ⟨s2,R2,q2⟩:=zjL R1 q1 e2
  have s3:Stp μ1 h2 H1 μ1 h2 (upd H1 p (.tup vs)):=Stp.fresh hp
  refine k μ1 _ (.ref p) ((s1.trans s2).trans s3) (R2.fresh hp) ?_
  simp only [RepR,RepD]
  exact ⟨p,vs,rfl,SqT.of zaD,RepDs.stp s3 R2 q2⟩
theorem znn {fs:IT.Env->M (List R)} (h:IA X es fs) (hl:es.length<=1000) (hf:∀ σ h rs h',fs σ h=some (rs,h')->rs.length=es.length):IL X (.List es pos) (λσ=>bnd (fs σ) λrs=>fzs rs):=by
 refine PE.imp (zp0 h) λσ H Q q0=>?_
 obtain ⟨μ,h,env,R0,re,ds,h',e,k⟩:=q0
 simp only [zae] at e
 obtain ⟨rs,h1,e1,e2⟩:=e
 refine ⟨μ,h,env,R0,re,rs,h1,e1,λμ1 H1 vs s1 R1 q1=>⟨?_,λp hp=>?_⟩⟩
 ·rw [<-q1.length,hf _ _ _ _ e1]
  have:(1000:Nat)<=sizeLine:=by decide
  omega
 ·obtain ⟨s2,R2,q2⟩:=zjL R1 q1 e2
  exact k μ1 H1 p vs (s1.trans s2) R2 q2 hp
theorem zj9 {fl:IT.Env->M (List D)} (m:Bool) (h:IL X e fl):IE X e (λσ=>bnd (fl σ) λxs=>if m then alloc xs else ok (.d (.lst xs))):=by
 refine PE.imp h λσ H Q q0=>?_
 obtain ⟨μ,h,env,R0,re,r,h',e,k⟩:=q0
 simp only [zae] at e
 obtain ⟨xs,h1,e1,e2⟩:=e
 refine ⟨μ,h,env,R0,re,xs,h1,e1,λμ1 H1 a vs s1 R1 q1 ha=>?_⟩
 cases m with
 | true=>
  simp only [if_true,alloc,Option.some.injEq,Prod.mk.injEq] at e2
  obtain ⟨rfl,rfl⟩:=e2
  refine k (μ1++[a]) _ (.ref a) (s1.trans (Stp.alloc R1 ha)) (R1.alloc ha q1) ⟨a,?_,rfl⟩
  rw [<-R1.len]
  simp
 | false=>
  simp only [Bool.false_eq_true,if_false] at e2
  obtain ⟨rfl,rfl⟩:=zaf.mp e2
  have s2:Stp μ1 h1 H1 μ1 h1 (upd H1 a (.lst vs)):=Stp.fresh ha
  refine k μ1 _ (.ref a) (s1.trans s2) (R1.fresh ha) ?_
  simp only [RepR,RepD]
  refine ⟨a,vs,rfl,.inl ⟨λl=>?_,.inl zaD⟩,RepDs.stp s2 R1 q1⟩
  obtain ⟨ws,z,_⟩:=R1.liveAt l
  rw [ha] at z;cases z
end
end IT
set_option linter.all false
set_option maxHeartbeats 4000000
namespace IT
open PySem PySem.Spec L2
section
variable {K:PySem.W.Frag} {A0:Addr->Prop} {H:Hp}
theorem ze5 (x y:List Nat):(zac x==zac y)=(x==y):=by
 by_cases e:x=y
 ·subst e;simp
 ·rw [beq_eq_false_iff_ne.mpr e,beq_eq_false_iff_ne.mpr (λz=>e (zce z))]
structure zbM (X:Cx) (s:Shared) (H:Hp):Prop where
 lst:∀ a vs,SqL X.K H a vs->∃ its:List Value,Vals vs its/\s.heap.IsList a its.toArray
 tup:∀ a vs,SqT X.K H a vs->∃ its:List Value,Vals vs its/\s.heap.IsTuple a its.toArray
theorem zbn {X:Cx} {pins:List (Addr×Obj)} {σ:St} {s:Shared} (I:Inv X pins σ H s):zbM X s H:=
 ⟨λa vs q=>let ⟨its,r,p,_⟩:=I.list q;⟨its,r,p.isList⟩,λa vs q=>let ⟨its,r,p,_⟩:=I.tuple q;⟨its,r,p⟩⟩
theorem zbI {α:Type} (xs ys:List α) (f:α->α->Bool) (hl:xs.length=ys.length) (e:Nat->Bool) (he:∀ (j:Nat) (x y:α),xs[j]?=some x->ys[j]?=some y->e j=f x y) :
  (List.range xs.length).all e=(xs.zip ys).all λp=>f p.1 p.2:=by
 rw [Bool.eq_iff_iff,List.all_eq_true,List.all_eq_true]
 constructor
 ·intro h p hp
  obtain ⟨j,hj,e1⟩:=List.getElem_of_mem hp
  have hj':j<xs.length/\j<ys.length:=by simp at hj;omega
  have e2:p=(xs[j]'hj'.1,ys[j]'hj'.2):=by rw [<-e1,List.getElem_zip]
  rw [e2,<-he j _ _ (List.getElem?_eq_getElem hj'.1) (List.getElem?_eq_getElem hj'.2)]
  exact h j (by simpa using hj'.1)
 ·intro h j hj
  have hj1:j<xs.length:=by simpa using hj
  have hj2:j<ys.length:=by omega
  rw [he j _ _ (List.getElem?_eq_getElem hj1) (List.getElem?_eq_getElem hj2)]
  refine h (xs[j],ys[j]) ?_
  rw [List.mem_iff_getElem]
  exact ⟨j,by simp;omega,by simp⟩
theorem zbW:∀ xs ys:List D,xs.length=ys.length->D.eqbs xs ys=(xs.zip ys).all λp=>p.1.eqb p.2
 | [],[],_=>rfl
 | x::xs,y::ys,h=>by
  simp only [D.eqbs,List.zip_cons_cons,List.all_cons]
  rw [zbW xs ys (by simpa using h)]
theorem zbQ:∀ xs ys:List D,xs.length≠ys.length->D.eqbs xs ys=false
 | [],[],h=>absurd rfl h
 | [],_::_,_=>rfl
 | _::_,[],_=>rfl
 | x::xs,y::ys,h=>by
  simp only [D.eqbs]
  rw [zbQ xs ys (by simpa using h),Bool.and_false]
theorem zc4 {vs:List V} {its:List Value} (r:Vals vs its) {j:Nat} {v:V} (e:vs[j]?=some v) (h:j<its.length):RelV v its[j]:=by
 obtain ⟨u,e1,r1⟩:=r.get e
 rw [List.getElem?_eq_getElem h] at e1
 cases e1
 exact r1
mutual
theorem D.eqb_refl:∀ x:D,x.eqb x=true
 | .non=>rfl
 | .bl a=>by simp [D.eqb]
 | .int a=>by simp [D.eqb]
 | .str a=>by simp [D.eqb]
 | .tup a=>by simp only [D.eqb];exact D.eqbs_refl a
 | .lst a=>by simp only [D.eqb];exact D.eqbs_refl a
theorem D.eqbs_refl:∀ x:List D,D.eqbs x x=true
 | []=>rfl
 | a::r=>by simp only [D.eqbs,Bool.and_eq_true];exact ⟨D.eqb_refl a,D.eqbs_refl r⟩
end
section
variable {X:Cx} {s:Shared}
theorem zje (S:zbM X s H) {a:Addr} {vs ws:List V} (q:SqT X.K H a vs) (q':SqT X.K H a ws):vs=ws:=by
 obtain ⟨its,ri,o,h1,_,_,h2⟩:=S.tup a vs q
 obtain ⟨its',ri',o',h1',_,_,h2'⟩:=S.tup a ws q'
 rw [h1] at h1';cases h1';rw [h2] at h2';cases h2'
 exact Vals.inj ri ri'
theorem zkk (S:zbM X s H) {a:Addr} {vs ws:List V} (q:SqL X.K H a vs) (q':SqL X.K H a ws):vs=ws:=by
 obtain ⟨its,ri,o,h1,_,_,h2⟩:=S.lst a vs q
 obtain ⟨its',ri',o',h1',_,_,h2'⟩:=S.lst a ws q'
 rw [h1] at h1';cases h1';rw [h2] at h2';cases h2'
 exact Vals.inj ri ri'
theorem zjI (S:zbM X s H) {a:Addr} {vs ws:List V} (q:SqL X.K H a vs) (q':SqT X.K H a ws):False:=by
 obtain ⟨its,ri,p⟩:=S.lst a vs q
 obtain ⟨its',ri',p'⟩:=S.tup a ws q'
 exact SeqAt.ne_of_list_tuple p p' rfl
mutual
theorem RepD.inj (S:zbM X s H):∀ (x y:D) (v:V),RepD X.K A0 H x v->RepD X.K A0 H y v->x=y
 | .non,y,v,qx,qy=>by
  simp only [RepD] at qx;subst qx
  cases y<;>simp_all [RepD]
 | .bl c,y,v,qx,qy=>by
  simp only [RepD] at qx;subst qx
  cases y<;>simp_all [RepD]
 | .int c,y,v,qx,qy=>by
  simp only [RepD] at qx;subst qx
  cases y<;>simp_all [RepD]
 | .str c,y,v,qx,qy=>by
  simp only [RepD] at qx;subst qx
  cases y with
  | str b=>simp only [RepD,V.str.injEq] at qy;rw [zce qy]
  | _=>simp [RepD] at qy
 | .tup c,y,v,qx,qy=>by
  simp only [RepD] at qx
  obtain ⟨a,vs,rfl,q,zs⟩:=qx
  cases y with
  | tup b=>
   simp only [RepD] at qy
   obtain ⟨a',vs',e,q',zs'⟩:=qy
   cases e
   have e2:=zje S q q'
   subst e2
   rw [RepDs.inj S c b vs zs zs']
  | lst b=>
   simp only [RepD] at qy
   obtain ⟨a',vs',e,q',zs'⟩:=qy
   cases e
   exact (zjI S q'.sq q).elim
  | _=>simp [RepD] at qy
 | .lst c,y,v,qx,qy=>by
  simp only [RepD] at qx
  obtain ⟨a,vs,rfl,q,zs⟩:=qx
  cases y with
  | lst b=>
   simp only [RepD] at qy
   obtain ⟨a',vs',e,q',zs'⟩:=qy
   cases e
   have e2:=zkk S q.sq q'.sq
   subst e2
   rw [RepDs.inj S c b vs zs zs']
  | tup b=>
   simp only [RepD] at qy
   obtain ⟨a',vs',e,q',zs'⟩:=qy
   cases e
   exact (zjI S q.sq q').elim
  | _=>simp [RepD] at qy
theorem RepDs.inj (S:zbM X s H):∀ (x y:List D) (v:List V),RepDs X.K A0 H x v->RepDs X.K A0 H y v->x=y
 | [],y,v,qx,qy=>by
  simp only [RepDs] at qx
  subst qx
  cases y with
  | nil=>rfl
  | cons _ _=>have:=qy.length;simp at this
 | x::xs,y,v,qx,qy=>by
  simp only [RepDs] at qx
  obtain ⟨w,ws,rfl,q1,q2⟩:=qx
  cases y with
  | nil=>have:=qy.length;simp at this
  | cons y ys=>
   simp only [RepDs] at qy
   obtain ⟨w',ws',e,q1',q2'⟩:=qy
   cases e
   rw [RepD.inj S x y w q1 q1',RepDs.inj S xs ys ws q2 q2']
end
end
noncomputable def za3 (xs ys:List D) (j:Nat):Bool:=match xs[j]?,ys[j]? with
 | some x,some y=>x.eqb y
 | _,_=>false
section
variable {X:Cx} {s:Shared}
mutual
theorem zhI (S:zbM X s H):∀ (x y:D) (A:Around) (v w:V) (u t:Value),RdD X.K A0 H x v->RdD X.K A0 H y w->RelV v u->RelV w t->A.units+min x.dep y.dep<cLine->SeqAt.EqAt A s u t (x.eqb y)
 | .non,y,A,v,w,u,t,qx,qy,ru,rt,hu=>by
  simp only [RdD,RepD] at qx
  subst qx
  cases ru
  cases y with
  | non=>simp only [RdD,RepD] at qy;subst qy;cases rt;exact SeqAt.EqAt.same _
  | bl b=>simp only [RdD,RepD] at qy;subst qy;cases rt;exact SeqAt.EqAt.none_bool b
  | int b=>simp only [RdD,RepD] at qy;subst qy;obtain ⟨t',rfl⟩:=rt;exact SeqAt.EqAt.none_int b t'
  | str b=>simp only [RdD,RepD] at qy;subst qy;obtain ⟨t',rfl⟩:=rt;exact SeqAt.EqAt.none_str _ t'
  | tup b=>
   simp only [RdD,RepD] at qy
   obtain ⟨a,vs,rfl,q,_⟩:=qy
   cases rt
   obtain ⟨its,_,p⟩:=S.tup a vs q
   exact SeqAt.EqAt.none_tuple p (by omega)
  | lst b=>
   obtain ⟨a,vs,rfl,q,_⟩:=qy
   cases rt
   obtain ⟨its,_,p⟩:=S.lst a vs q
   exact SeqAt.EqAt.none_list p (by omega)
 | .bl c,y,A,v,w,u,t,qx,qy,ru,rt,hu=>by
  simp only [RdD,RepD] at qx
  subst qx
  cases ru
  cases y with
  | non=>simp only [RdD,RepD] at qy;subst qy;cases rt;exact SeqAt.EqAt.bool_none c
  | bl b=>simp only [RdD,RepD] at qy;subst qy;cases rt;exact SeqAt.EqAt.bool_bool c b
  | int b=>simp only [RdD,RepD] at qy;subst qy;obtain ⟨t',rfl⟩:=rt;exact SeqAt.EqAt.bool_int c b t'
  | str b=>simp only [RdD,RepD] at qy;subst qy;obtain ⟨t',rfl⟩:=rt;exact SeqAt.EqAt.bool_str c _ t'
  | tup b=>
   simp only [RdD,RepD] at qy
   obtain ⟨a,vs,rfl,q,_⟩:=qy
   cases rt
   obtain ⟨its,_,p⟩:=S.tup a vs q
   exact SeqAt.EqAt.bool_tuple c p (by omega)
  | lst b=>
   obtain ⟨a,vs,rfl,q,_⟩:=qy
   cases rt
   obtain ⟨its,_,p⟩:=S.lst a vs q
   exact SeqAt.EqAt.bool_list c p (by omega)
 | .int c,y,A,v,w,u,t,qx,qy,ru,rt,hu=>by
  simp only [RdD,RepD] at qx
  subst qx
  obtain ⟨u',rfl⟩:=ru
  cases y with
  | non=>simp only [RdD,RepD] at qy;subst qy;cases rt;exact SeqAt.EqAt.int_none c u'
  | bl b=>simp only [RdD,RepD] at qy;subst qy;cases rt;exact SeqAt.EqAt.int_bool c u' b
  | int b=>simp only [RdD,RepD] at qy;subst qy;obtain ⟨t',rfl⟩:=rt;exact SeqAt.EqAt.int_int c u' b t'
  | str b=>simp only [RdD,RepD] at qy;subst qy;obtain ⟨t',rfl⟩:=rt;exact SeqAt.EqAt.int_str c u' _ t'
  | tup b=>
   simp only [RdD,RepD] at qy
   obtain ⟨a,vs,rfl,q,_⟩:=qy
   cases rt
   obtain ⟨its,_,p⟩:=S.tup a vs q
   exact SeqAt.EqAt.int_tuple c u' p (by omega)
  | lst b=>
   obtain ⟨a,vs,rfl,q,_⟩:=qy
   cases rt
   obtain ⟨its,_,p⟩:=S.lst a vs q
   exact SeqAt.EqAt.int_list c u' p (by omega)
 | .str c,y,A,v,w,u,t,qx,qy,ru,rt,hu=>by
  simp only [RdD,RepD] at qx
  subst qx
  obtain ⟨u',rfl⟩:=ru
  cases y with
  | non=>simp only [RdD,RepD] at qy;subst qy;cases rt;exact SeqAt.EqAt.str_none _ u'
  | bl b=>simp only [RdD,RepD] at qy;subst qy;cases rt;exact SeqAt.EqAt.str_bool _ u' b
  | int b=>simp only [RdD,RepD] at qy;subst qy;obtain ⟨t',rfl⟩:=rt;exact SeqAt.EqAt.str_int _ u' b t'
  | str b=>
   simp only [RdD,RepD] at qy
   subst qy
   obtain ⟨t',rfl⟩:=rt
   have:=SeqAt.EqAt.str_str (A:=A) (s:=s) (zac c) u' (zac b) t'
   rw [ze5] at this
   exact this
  | tup b=>
   simp only [RdD,RepD] at qy
   obtain ⟨a,vs,rfl,q,_⟩:=qy
   cases rt
   obtain ⟨its,_,p⟩:=S.tup a vs q
   exact SeqAt.EqAt.str_tuple _ u' p (by omega)
  | lst b=>
   obtain ⟨a,vs,rfl,q,_⟩:=qy
   cases rt
   obtain ⟨its,_,p⟩:=S.lst a vs q
   exact SeqAt.EqAt.str_list _ u' p (by omega)
 | .tup c,y,A,v,w,u,t,qx,qy,ru,rt,hu=>by
  simp only [RdD,RepD] at qx
  obtain ⟨a,vs,rfl,q,zs⟩:=qx
  cases ru
  obtain ⟨its,ri,p⟩:=S.tup a vs q
  have hu0:A.units<cLine:=by omega
  cases y with
  | non=>simp only [RdD,RepD] at qy;subst qy;cases rt;exact SeqAt.EqAt.tuple_none p hu0
  | bl b=>simp only [RdD,RepD] at qy;subst qy;cases rt;exact SeqAt.EqAt.tuple_bool b p hu0
  | int b=>simp only [RdD,RepD] at qy;subst qy;obtain ⟨t',rfl⟩:=rt;exact SeqAt.EqAt.tuple_int b t' p hu0
  | str b=>simp only [RdD,RepD] at qy;subst qy;obtain ⟨t',rfl⟩:=rt;exact SeqAt.EqAt.tuple_str _ t' p hu0
  | lst b=>
   obtain ⟨a',vs',rfl,q',_⟩:=qy
   cases rt
   obtain ⟨its',_,p'⟩:=S.lst a' vs' q'
   exact SeqAt.EqAt.tuple_list p p' hu0
  | tup b=>
   simp only [RdD,RepD] at qy
   obtain ⟨a',vs',rfl,q',zs'⟩:=qy
   cases rt
   obtain ⟨its',ri',p'⟩:=S.tup a' vs' q'
   have key:=pairs_D S c b A.in1 vs vs' its its' zs zs' ri ri' (by
    show A.units+1+_<cLine
    simp only [D.dep] at hu
    omega)
   by_cases hab:a=a'
   ·subst hab
    have e2:=zje S q q'
    subst e2
    have e1:=RepDs.inj S c b vs zs zs'
    subst e1
    refine (show D.eqb (.tup c) (.tup c)=true from D.eqb_refl _)▸SeqAt.EqAt.same _
   ·refine SeqAt.EqAt.of_refs hab ?_
    have:=SeqAt.RcAt.tuples (e:=za3 c b) p p' hu0 (λj h1 h2=>by
     have:=key j (by simpa using h1) (by simpa using h2)
     simpa using this)
    have e3:((List.range (min its.toArray.size its'.toArray.size)).all (za3 c b)&&its.toArray.size==its'.toArray.size)=D.eqbs c b:=by
     have l1:=zs.length
     have l2:=zs'.length
     have l3:=ri.length
     have l4:=ri'.length
     by_cases hl:c.length=b.length
     ·have hm:min its.toArray.size its'.toArray.size=c.length:=by simp;omega
      rw [hm,zbW c b hl,zbI c b (λx y=>x.eqb y) hl (za3 c b) (λj x y h1 h2=>by simp [za3,h1,h2])]
      have:(its.toArray.size==its'.toArray.size)=true:=by simp;omega
      rw [this,Bool.and_true]
     ·rw [zbQ c b hl]
      have:(its.toArray.size==its'.toArray.size)=false:=by simp;omega
      rw [this,Bool.and_false]
    rw [e3] at this
    exact this
 | .lst c,y,A,v,w,u,t,qx,qy,ru,rt,hu=>by
  obtain ⟨a,vs,rfl,q,zs⟩:=qx
  cases ru
  obtain ⟨its,ri,p⟩:=S.lst a vs q
  have hu0:A.units<cLine:=by omega
  cases y with
  | non=>simp only [RdD,RepD] at qy;subst qy;cases rt;exact SeqAt.EqAt.list_none p hu0
  | bl b=>simp only [RdD,RepD] at qy;subst qy;cases rt;exact SeqAt.EqAt.list_bool b p hu0
  | int b=>simp only [RdD,RepD] at qy;subst qy;obtain ⟨t',rfl⟩:=rt;exact SeqAt.EqAt.list_int b t' p hu0
  | str b=>simp only [RdD,RepD] at qy;subst qy;obtain ⟨t',rfl⟩:=rt;exact SeqAt.EqAt.list_str _ t' p hu0
  | tup b=>
   simp only [RdD,RepD] at qy
   obtain ⟨a',vs',rfl,q',_⟩:=qy
   cases rt
   obtain ⟨its',_,p'⟩:=S.tup a' vs' q'
   exact SeqAt.EqAt.list_tuple p p' hu0
  | lst b=>
   obtain ⟨a',vs',rfl,q',zs'⟩:=qy
   cases rt
   obtain ⟨its',ri',p'⟩:=S.lst a' vs' q'
   have key:=pairs_D S c b A.in1 vs vs' its its' zs zs' ri ri' (by
    show A.units+1+_<cLine
    simp only [D.dep] at hu
    omega)
   by_cases hab:a=a'
   ·subst hab
    have e2:=zkk S q q'
    subst e2
    have e1:=RepDs.inj S c b vs zs zs'
    subst e1
    refine (show D.eqb (.lst c) (.lst c)=true from D.eqb_refl _)▸SeqAt.EqAt.same _
   ·refine SeqAt.EqAt.of_refs hab ?_
    show SeqAt.RcAt A s _ _ (D.eqbs c b)
    have l1:=zs.length
    have l2:=zs'.length
    have l3:=ri.length
    have l4:=ri'.length
    by_cases hl:c.length=b.length
    ·have:=SeqAt.RcAt.lists (e:=za3 c b) p p' (by simp;omega) hu0 (λj h1 h2=>by
      have:=key j (by simpa using h1) (by simpa using h2)
      simpa using this)
     have hm:its.toArray.size=c.length:=by simp;omega
     rw [hm,zbI c b (λx y=>x.eqb y) hl (za3 c b) (λj x y h1 h2=>by simp [za3,h1,h2]),<-zbW c b hl] at this
     exact this
    ·rw [zbQ c b hl]
     exact SeqAt.RcAt.lists_lengths p p' (by simp;omega) hu0
theorem pairs_D (S:zbM X s H):∀ (xs ys:List D) (A:Around) (vs ws:List V) (us ts:List Value),RepDs X.K A0 H xs vs->RepDs X.K A0 H ys ws->Vals vs us->Vals ws ts->A.units+min (D.deps xs) (D.deps ys)<cLine →
  ∀ (j:Nat) (h1:j<us.length) (h2:j<ts.length),SeqAt.EqAt A s us[j] ts[j] (za3 xs ys j)
 | [],ys,A,vs,ws,us,ts,qx,qy,ru,rt,hu,j,h1,h2=>by
  have l1:=qx.length
  have l2:=ru.length
  rw [List.length_nil] at l1
  omega
 | x :: xs,ys,A,vs,ws,us,ts,qx,qy,ru,rt,hu,j,h1,h2=>by
  rw [RepDs] at qx
  obtain ⟨v,vs,rfl,qx1,qx2⟩:=qx
  cases ru with
  | cons ru1 ru2=>
   cases ys with
   | nil=>
    have l1:=qy.length
    have l2:=rt.length
    rw [List.length_nil] at l1
    omega
   | cons y ys=>
    rw [RepDs] at qy
    obtain ⟨w,ws,rfl,qy1,qy2⟩:=qy
    cases rt with
    | cons rt1 rt2=>
     simp only [D.deps] at hu
     cases j with
     | zero=>
      simp only [List.getElem_cons_zero,za3,List.getElem?_cons_zero]
      exact zhI S x y A v w _ _ (RdD.of qx1) (RdD.of qy1) ru1 rt1 (by omega)
     | succ j=>
      simp only [List.getElem_cons_succ]
      have:=pairs_D S xs ys A vs ws _ _ qx2 qy2 ru2 rt2 (by omega) j (by simpa using h1) (by simpa using h2)
      simpa only [za3,List.getElem?_cons_succ] using this
end
end
end
end IT
set_option linter.all false
set_option maxHeartbeats 4000000
set_option maxRecDepth 100000
namespace IT
open PySem PySem.Spec L2
open PySem.StrLaws Builtin.Str
theorem zet (x y:List Nat) (i:Nat):At (zac x) (zac y) (zac x).length i↔(i+y.length<=x.length/\y.isPrefixOf (x.drop i)=true):=by
 unfold At subAt
 rw [zai,zai,beq_toList]
 have e:((zac x).cps.extract i (i+y.length)).toList=(x.drop i).take y.length:=by
  simp [zac,List.extract_eq_take_drop]
 rw [e,List.isPrefixOf_iff_prefix,List.prefix_iff_eq_take]
 simp only [zac,beq_iff_eq]
 constructor
 ·rintro ⟨h1,h2⟩;exact ⟨h1,h2.symm⟩
 ·rintro ⟨h1,h2⟩;exact ⟨h1,h2.symm⟩
theorem zgM {x y:List Nat} {i:Nat} (hy:y≠[]) (h:y.isPrefixOf (x.drop i)=true):i+y.length<=x.length:=by
 have h1:=(List.isPrefixOf_iff_prefix.mp h).length_le
 have h2:0<y.length:=List.length_pos_iff.mpr hy
 simp at h1
 omega
theorem zfl {y:List Nat}:∀ {x:List Nat} {i:Nat},i<=x.length->y.isPrefixOf (x.drop i)=true->(∀ k,k<i->¬ y.isPrefixOf (x.drop k)=true)->fnd y x=some i
 | [],i,hi,h,hn=>by
  have e:i=0:=by simpa using hi
  subst e
  simp only [fnd]
  rw [if_pos (by simpa using h)]
 | c::r,0,hi,h,hn=>by
  simp only [fnd]
  rw [if_pos (by simpa using h)]
 | c::r,i+1,hi,h,hn=>by
  simp only [fnd]
  rw [if_neg (by simpa using hn 0 (by omega)),zfl (x:=r) (i:=i) (by simpa using hi) (by simpa using h) (λk hk=>by simpa using hn (k+1) (by omega))]
theorem fnd_none {y:List Nat}:∀ {x:List Nat},(∀ k,k<=x.length->¬ y.isPrefixOf (x.drop k)=true)->fnd y x=none
 | [],hn=>by
  simp only [fnd]
  rw [if_neg (by simpa using hn 0 (by simp))]
 | c::r,hn=>by
  simp only [fnd]
  rw [if_neg (by simpa using hn 0 (by simp)),fnd_none (x:=r) (λk hk=>by simpa using hn (k+1) (by simpa using hk))]
theorem zg9 {x y:List Nat} (limit:Nat) (hl:1<=limit):(fnd y x=none/\occurrences (zac x) (zac y) 0 (zac x).length limit=[])\/∃ i r,fnd y x=some i/\i+y.length<=x.length/\occurrences (zac x) (zac y) 0 (zac x).length limit=i::r:=by
 have fits:∀ k,k<=x.length->y.isPrefixOf (x.drop k)=true->k+y.length<=x.length:=λk hk h=>by
  have h1:=(List.isPrefixOf_iff_prefix.mp h).length_le
  simp at h1
  omega
 rcases occ_head (zac x) (zac y) limit hl with ⟨e,hn⟩ | ⟨i,r,e,h,hn⟩
 ·exact .inl ⟨fnd_none λk hk h=>hn k ((zet x y k).mpr ⟨fits k hk h,h⟩),e⟩
 ·have h':=(zet x y i).mp h
  refine .inr ⟨i,r,zfl (by omega) h'.2 (λk hk q=>hn k hk ((zet x y k).mpr ⟨fits k (by omega) q,q⟩)),h'.1,e⟩
theorem zmm (x y:List Nat):(!(occurrences (zac x) (zac y) 0 (zac x).length 1).isEmpty)=(fnd y x).isSome:=by
 rcases zg9 (x:=x) (y:=y) 1 (by omega) with ⟨e1,e2⟩ | ⟨i,r,e1,_,e2⟩
 ·rw [e1,e2];rfl
 ·rw [e1,e2];rfl
theorem zhl (x:List Nat) (i j:Nat):strSub (zac x) i j=zac ((x.drop i).take (j-i)):=by
 have:=strSub_toList (zac x) i j
 have e:strSub (zac x) i j=zac (strSub (zac x) i j).cps.toList:=rfl
 rw [e,this]
 simp [zac]
theorem zjH {y x:List Nat} (n:Nat) (h:fnd y x=none):splS y n x=[x]:=by
 cases n with
 | zero=>rfl
 | succ n=>simp [splS,h]
theorem zfM {x y:List Nat} (hy:y≠[]):∀ (cuts:List Nat) (a f n:Nat),a<=x.length->ChainG (zac x) (zac y) (zac x).length a cuts f->(∀ k,f<=k->¬ At (zac x) (zac y) (zac x).length k)->x.length-a<=n →
  partsFrom (zac x) (zac y).length a cuts=(splS y n (x.drop a)).map zac
 | [],a,f,n,ha,h,hn,hl=>by
  have e:f=a:=h
  subst e
  have e2:fnd y (x.drop f)=none:=fnd_none λk hk q=>by
   rw [List.drop_drop] at q
   exact hn (f+k) (by omega) ((zet x y _).mpr ⟨zgM hy q,q⟩)
  rw [zjH n e2]
  simp only [partsFrom,List.map_cons,List.map_nil,zhl,zai]
  rw [List.take_of_length_le (by simp)]
 | c :: r,a,f,n,ha,h,hn,hl=>by
  obtain ⟨h1,h2,h3,h4⟩:=h
  have h2':=(zet x y c).mp h2
  have hy':0<y.length:=List.length_pos_iff.mpr hy
  have e2:fnd y (x.drop a)=some (c-a):=by
   refine zfl (by simp;omega) ?_ λk hk q=>?_
   ·rw [List.drop_drop,show a+(c-a)=c by omega];exact h2'.2
   ·rw [List.drop_drop] at q
    exact h3 (a+k) (by omega) (by omega) ((zet x y _).mpr ⟨zgM hy q,q⟩)
  rw [zai y] at h4
  cases n with
  | zero=>omega
  | succ n=>
   simp only [splS,e2,partsFrom,List.map_cons,List.drop_drop,zhl]
   rw [zai y,show a+(c-a+y.length)=c+y.length by omega]
   rw [<-zfM hy r (c+y.length) f n h2'.1 h4 hn (by omega),zai y]
theorem zoh {x y:List Nat} (h:∀ c∈y,c∈x):Builtin.Str.strKind (zac y)<=Builtin.Str.strKind (zac x):=by
 have mono:∀ n,(zac x).cps.all (·<n)=true->(zac y).cps.all (·<n)=true:=by
  intro n hx
  simp [zac] at hx ⊢
  intro c hc
  exact hx c (h c hc)
 unfold Builtin.Str.strKind
 by_cases h1:(zac x).cps.all (·<256)=true
 ·rw [if_pos h1,if_pos (mono _ h1)];omega
 ·rw [if_neg h1]
  by_cases h2:(zac x).cps.all (·<65536)=true
  ·rw [if_pos h2,if_pos (mono _ h2)];split<;>omega
  ·rw [if_neg h2];split
   ·omega
   ·split<;>omega
theorem zqi {x y:List Nat} (hy:y≠[]) (h:(decide ((zac x).length<(zac y).length)||decide (Builtin.Str.strKind (zac x)<Builtin.Str.strKind (zac y)))=true):fnd y x=none:=by
 refine fnd_none λk hk q=>?_
 have h1:=zgM hy q
 have hp:=List.isPrefixOf_iff_prefix.mp q
 have h2:=zoh (x:=x) (y:=y) λc hc=>List.mem_of_mem_drop (hp.subset hc)
 simp [zai] at h
 omega
theorem ssi (lo hi:Option Int) (n:Nat):strSliceIndices lo hi 1 n=(List.range (HT.sIx n n hi-HT.sIx n 0 lo)).map λk=>HT.sIx n 0 lo+k:=by
 have clip:∀ v:Int,(max 0 (min (if v<0 then v+(n:Int) else v) (n:Int)))=(((if v<0 then (v+(n:Int)).toNat else min v.toNat n):Nat):Int):=by
  intro v
  by_cases hv:v<0
  ·simp only [if_pos hv];omega
  ·simp only [if_neg hv];omega
 have rng:∀ i j:Nat,sliceRange (i:Int) (j:Int) 1=(List.range (j-i)).map λk=>i+k:=by
  intro i j
  unfold sliceRange
  have h1:(1:Int)>0:=by omega
  simp only [h1,if_true,Int.ediv_one]
  have e:(if (i:Int)<(j:Int) then (j:Int)-i+1-1 else 0).toNat=j-i:=by split<;>omega
  rw [e]
  refine List.map_congr_left λk _=>?_
  omega
 unfold strSliceIndices
 have h1:(1:Int)>0:=by omega
 simp only [h1,if_true]
 cases lo with
 | none=>
  cases hi with
  | none=>exact rng 0 n
  | some u=>simp only [clip];exact rng 0 _
 | some l=>
  cases hi with
  | none=>simp only [clip];exact rng _ n
  | some u=>simp only [clip];exact rng _ _
theorem pick_run (x:List Nat) (i:Nat):∀ k,i+k<=x.length->(((List.range k).map λm=>i+m).filterMap λj=>x[j]?)=(x.drop i).take k
 | 0,_=>by simp
 | k+1,h=>by
  rw [List.range_succ,List.map_append,List.filterMap_append,pick_run x i k (by omega),List.take_succ]
  congr 1
  have hx:i+k<x.length:=by omega
  simp [List.getElem?_eq_getElem hx]
theorem zjb (x:List Nat) (lo hi:Option Int):Txt.slice (zac x) lo hi=zac (cut x lo hi):=by
 have eI:∀ n d o,sIx n d o=HT.sIx n d o:=λn d o=>by cases o<;>rfl
 unfold Txt.slice cut
 rw [zai,ssi,eI,eI]
 have h1:=HT.sIx_le x.length x.length (Nat.le_refl _) hi
 have h2:=HT.sIx_le x.length 0 (Nat.zero_le _) lo
 generalize HT.sIx x.length x.length hi=j at *
 generalize HT.sIx x.length 0 lo=i at *
 have e:((List.map (λk=>i+k) (List.range (j-i))).filterMap λk=>(zac x).cps[k]?)=(x.drop i).take (j-i):=by
  have:=pick_run x i (j-i)
  by_cases hij:i<=j
  ·simpa [zac] using this (by omega)
  ·have z:j-i=0:=by omega
   rw [z];simp
 split
 ·rename_i hc
  have hl:j-i=x.length:=by simpa using hc
  rw [hl]
  by_cases hn:x.length=0
  ·have:x=[]:=List.length_eq_zero_iff.mp hn
   subst this
   simp
  ·have:i=0:=by omega
   subst this
   simp
 ·rw [e];rfl
end IT
set_option linter.all false
set_option maxHeartbeats 4000000
set_option maxRecDepth 100000
namespace PySem
open Sem (wp)
open Builtin AutoSeq1
theorem zgY (l:Addr) (items:Array Value) (n:Nat) (dd:Option Addr) (sl:Array (Option Value)) (b:Addr) (items2:Array Value) (n2:Nat) (dd2:Option Addr) (sl2:Array (Option Value)) (hc0:items.size+items2.size<=sizeLine) :
  Meets (Builtin.«list.__add__» ⟨[.ref l,.ref b],[]⟩) (λ_ R s=>s.heap.get? l=some { cls:=.type "list",dict:=dd,data:=.seq items n,slots:=sl }/\s.heap.get? b=some { cls:=.type "list",dict:=dd2,data:=.seq items2 n2,slots:=sl2 }/\R (.ok (.ret (Value.ref s.heap.objs.size))) { s with heap:=s.heap.push { cls:=Value.type "list",data:=Data.seq (items++items2) } }):=
 .of_wp λprog w A R s h=>by obtain ⟨hp,g,d,tk,os⟩:=s;obtain ⟨hl,hb,h⟩:=h;have f1:=idx_int;have f2:=sub_tuple_tuple;have f3:=sub_list_list;have f4:=sub_tuple_list;have f5:=sub_list_tuple;wp_walk using wpAny_loadPart' hl,wpAny_loadPart' hb;exact ⟨_,rfl,h⟩
theorem zeE (l:Addr) (items:Array Value) (n:Nat) (b:Addr) (items2:Array Value) (n2:Nat) (dd2:Option Addr) (sl2:Array (Option Value)) (hc0:¬(!items.isEmpty&&Builtin.List.listTooLong (items.size+items2.size))=true) (hc1:items.size<=sizeLine) (hs2:items.size+items2.size<=sizeLine+1) :
  Meets (Builtin.«list.extend» ⟨[.ref l,.ref b],[]⟩) (λ_ R s=>s.heap.get? l=some { cls:=.type "list",dict:=none,data:=.seq items n,slots:=#[] }/\s.heap.get? b=some { cls:=.type "list",dict:=dd2,data:=.seq items2 n2,slots:=sl2 }/\R (.ok (.ret Value.none)) { s with heap:=s.heap.update l (Obj.mapSeq λx=>x++items2),toks:=s.toks }):=
 .of_wp λprog w A R s h=>by
  obtain ⟨hp,g,d,tk,os⟩:=s;obtain ⟨hl,hb,h⟩:=h;have f1:=idx_int;have f2:=sub_tuple_tuple;have f3:=sub_list_list;have f4:=sub_tuple_list;have f5:=sub_list_tuple;
  have hz':(items++items2).size<=sizeLine+1:=by rw [Array.size_append];exact hs2
  wp_walk using (wpAny_updateSeq hl rfl (hz:=hc1) (_hz':=hz')),wpAny_loadPart' hl,wpAny_loadPart' hb;exact ⟨_,rfl,h⟩
end PySem
namespace IT
open PySem PySem.Spec L2
section
variable {X:Cx}
theorem znk:OpR X (binaryOp .Add) (λx y H Q=>∃ l b xs zs,x=.ref l/\y=.ref b/\SqL X.K H l xs/\SqL X.K H b zs/\xs.length+zs.length<=sizeLine/\∀ p,H p=none->Q (.ref p) (upd H p (.lst (xs++zs)))):=by
 intro pins s σ H x y v u Q I rx ry h
 obtain ⟨l,b,xs,zs,rfl,rfl,hH,hB,hz,q⟩:=h
 cases rx
 cases ry
 obtain ⟨its,r,⟨o,n,e,hc,hd,hs⟩,_⟩:=I.list hH
 obtain ⟨its2,r2,⟨o2,n2,e2,hc2,hd2,hs2⟩,_⟩:=I.list hB
 have hl:=r.length
 have hl2:=r2.length
 obtain ⟨cls,dd,data,sl⟩:=o
 obtain ⟨cls2,dd2,data2,sl2⟩:=o2
 simp only at hc hd hs hc2 hd2 hs2
 subst hc hd hs hc2 hd2 hs2
 refine concat_meets ⟨_,e,rfl⟩ ⟨_,e2,rfl⟩ noFill_list_add seq_list_add F.slot_list_add F.entry_list_add (F.args_list_add_2 _ _) (zgY l its.toArray n none sl b its2.toArray n2 none sl2 (by rw [List.size_toArray,List.size_toArray];omega)) ⟨e,e2,?_⟩
 have ea:its.toArray++its2.toArray=(its++its2).toArray:=by simp
 rw [ea]
 exact ⟨.ref _,_,I.lnew (t':=s.toks) (r.append r2) (by rw [List.length_append];omega),rfl,q _ I.fresh⟩
theorem zhX:MtM X "list.extend" (λx vs H Q=>∃ l b xs zs,x=.ref l/\vs=[.ref b]/\H l=some (.lst xs)/\SqL X.K H b zs/\xs.length+zs.length<=sizeLine/\Q .non (upd H l (.lst (xs++zs)))):=by
 intro pins s σ H x vs v us Q I rx rv h
 obtain ⟨l,b,xs,zs,rfl,rfl,hH,hB,hz,q⟩:=h
 cases rx
 obtain ⟨u,rfl,ru⟩:=rv.one
 cases ru
 obtain ⟨z,its,n,r,hl,e⟩:=I.lstM hH
 obtain ⟨its2,r2,⟨o2,n2,e2,hc2,hd2,hs2⟩,_⟩:=I.list hB
 have hl2:=r2.length
 obtain ⟨cls2,dd2,data2,sl2⟩:=o2
 simp only at hc2 hd2 hs2
 subst hc2 hd2 hs2
 have hsz:its.toArray.size+its2.toArray.size<=sizeLine:=by rw [List.size_toArray,List.size_toArray];omega
 have hlong:¬ (!its.toArray.isEmpty&&Builtin.List.listTooLong (its.toArray.size+its2.toArray.size))=true:=by
  rw [zkM hsz,Bool.and_false]
  exact Bool.false_ne_true
 refine call_meets F.slot_list_extend ⟨_,e,rfl⟩ F.entry_list_extend (F.args_list_extend_2 _ _)
  (zeE l its.toArray n b its2.toArray n2 none sl2 hlong (by rw [List.size_toArray];omega) (by omega)) ⟨e,e2,?_⟩
 refine ⟨.non,_,I.lset (its':=its++its2) hH e (by simp) (r.append r2) ?_,rfl,q⟩
 rw [List.length_append]
 omega
end
end IT
set_option linter.all false
set_option maxHeartbeats 4000000
namespace IT
open PySem PySem.Spec L2
section
variable {A0:Addr->Prop} {H:Hp} {X:Cx} {s:Shared}
theorem zpf (S:zbM X s H) (x y:D) (A:Around) (v w:V) (u t:Value) (qx:RdD X.K A0 H x v) (qy:RdD X.K A0 H y w) (ru:RelV v u) (rt:RelV w t) (hu:A.units+min x.dep y.dep<cLine):SeqAt.RcAt A s u t (x.eqb y):=by
 cases x with
 | non=>
  simp only [RdD,RepD] at qx;subst qx
  cases ru
  cases y with
  | non=>simp only [RdD,RepD] at qy;subst qy;cases rt;exact SeqAt.RcAt.none_none  
  | bl b=>simp only [RdD,RepD] at qy;subst qy;cases rt;exact SeqAt.RcAt.none_bool  b
  | int b=>simp only [RdD,RepD] at qy;subst qy;obtain ⟨t',rfl⟩:=rt;exact SeqAt.RcAt.none_int  b t'
  | str b=>simp only [RdD,RepD] at qy;subst qy;obtain ⟨t',rfl⟩:=rt;exact SeqAt.RcAt.none_str  _ t'
  | tup b=>(simp only [RdD,RepD] at qy;obtain ⟨a,vs,rfl,q,_⟩:=qy;cases rt;obtain ⟨its,_,p⟩:=S.tup a vs q;exact SeqAt.RcAt.none_tuple  p (by omega))
  | lst b=>(obtain ⟨a,vs,rfl,q,_⟩:=qy;cases rt;obtain ⟨its,_,p⟩:=S.lst a vs q;exact SeqAt.RcAt.none_list  p (by omega))
 | bl c=>
  simp only [RdD,RepD] at qx;subst qx
  cases ru
  cases y with
  | non=>simp only [RdD,RepD] at qy;subst qy;cases rt;exact SeqAt.RcAt.bool_none c 
  | bl b=>simp only [RdD,RepD] at qy;subst qy;cases rt;exact SeqAt.RcAt.bool_bool c b
  | int b=>simp only [RdD,RepD] at qy;subst qy;obtain ⟨t',rfl⟩:=rt;exact SeqAt.RcAt.bool_int c b t'
  | str b=>simp only [RdD,RepD] at qy;subst qy;obtain ⟨t',rfl⟩:=rt;exact SeqAt.RcAt.bool_str c _ t'
  | tup b=>(simp only [RdD,RepD] at qy;obtain ⟨a,vs,rfl,q,_⟩:=qy;cases rt;obtain ⟨its,_,p⟩:=S.tup a vs q;exact SeqAt.RcAt.bool_tuple c p (by omega))
  | lst b=>(obtain ⟨a,vs,rfl,q,_⟩:=qy;cases rt;obtain ⟨its,_,p⟩:=S.lst a vs q;exact SeqAt.RcAt.bool_list c p (by omega))
 | int c=>
  simp only [RdD,RepD] at qx;subst qx
  obtain ⟨u',rfl⟩:=ru
  cases y with
  | non=>simp only [RdD,RepD] at qy;subst qy;cases rt;exact SeqAt.RcAt.int_none c u' 
  | bl b=>simp only [RdD,RepD] at qy;subst qy;cases rt;exact SeqAt.RcAt.int_bool c u' b
  | int b=>simp only [RdD,RepD] at qy;subst qy;obtain ⟨t',rfl⟩:=rt;exact SeqAt.RcAt.int_int c u' b t'
  | str b=>simp only [RdD,RepD] at qy;subst qy;obtain ⟨t',rfl⟩:=rt;exact SeqAt.RcAt.int_str c u' _ t'
  | tup b=>(simp only [RdD,RepD] at qy;obtain ⟨a,vs,rfl,q,_⟩:=qy;cases rt;obtain ⟨its,_,p⟩:=S.tup a vs q;exact SeqAt.RcAt.int_tuple c u' p (by omega))
  | lst b=>(obtain ⟨a,vs,rfl,q,_⟩:=qy;cases rt;obtain ⟨its,_,p⟩:=S.lst a vs q;exact SeqAt.RcAt.int_list c u' p (by omega))
 | str c=>
  simp only [RdD,RepD] at qx;subst qx
  obtain ⟨u',rfl⟩:=ru
  cases y with
  | non=>simp only [RdD,RepD] at qy;subst qy;cases rt;exact SeqAt.RcAt.str_none _ u' 
  | bl b=>simp only [RdD,RepD] at qy;subst qy;cases rt;exact SeqAt.RcAt.str_bool _ u' b
  | int b=>simp only [RdD,RepD] at qy;subst qy;obtain ⟨t',rfl⟩:=rt;exact SeqAt.RcAt.str_int _ u' b t'
  | str b=>simp only [RdD,RepD] at qy;subst qy;obtain ⟨t',rfl⟩:=rt;(have z:=SeqAt.RcAt.str_str (A:=A) (s:=s) (zac c) u' (zac b) t';rw [ze5] at z;exact z)
  | tup b=>(simp only [RdD,RepD] at qy;obtain ⟨a,vs,rfl,q,_⟩:=qy;cases rt;obtain ⟨its,_,p⟩:=S.tup a vs q;exact SeqAt.RcAt.str_tuple _ u' p (by omega))
  | lst b=>(obtain ⟨a,vs,rfl,q,_⟩:=qy;cases rt;obtain ⟨its,_,p⟩:=S.lst a vs q;exact SeqAt.RcAt.str_list _ u' p (by omega))
 | tup c=>
  simp only [RdD,RepD] at qx;obtain ⟨a,vs,rfl,q,zs⟩:=qx
  cases ru;have hu0:A.units<cLine:=by omega
  obtain ⟨its,ri,p⟩:=S.tup a vs q
  cases y with
  | non=>simp only [RdD,RepD] at qy;subst qy;cases rt;exact SeqAt.RcAt.tuple_none  p hu0
  | bl b=>simp only [RdD,RepD] at qy;subst qy;cases rt;exact SeqAt.RcAt.tuple_bool b p hu0
  | int b=>simp only [RdD,RepD] at qy;subst qy;obtain ⟨t',rfl⟩:=rt;exact SeqAt.RcAt.tuple_int b t' p hu0
  | str b=>simp only [RdD,RepD] at qy;subst qy;obtain ⟨t',rfl⟩:=rt;exact SeqAt.RcAt.tuple_str _ t' p hu0
  | lst b=>(obtain ⟨a',vs',rfl,q',_⟩:=qy;cases rt;obtain ⟨its',_,p'⟩:=S.lst a' vs' q';exact SeqAt.RcAt.tuple_list p p' hu0)
  | tup b=>
   simp only [RdD,RepD] at qy;obtain ⟨a',vs',rfl,q',zs'⟩:=qy
   cases rt;obtain ⟨its',ri',p'⟩:=S.tup a' vs' q'
   have key:=pairs_D S c b A.in1 vs vs' its its' zs zs' ri ri' (by show A.units+1+_<cLine;simp only [D.dep] at hu;omega)
   have l1:=zs.length;have l2:=zs'.length;have l3:=ri.length;have l4:=ri'.length
   show SeqAt.RcAt A s _ _ (D.eqbs c b)
   have:=SeqAt.RcAt.tuples (e:=za3 c b) p p' hu0 (λj h1 h2=>by have:=key j (by simpa using h1) (by simpa using h2);simpa using this)
   have e3:((List.range (min its.toArray.size its'.toArray.size)).all (za3 c b)&&its.toArray.size==its'.toArray.size)=D.eqbs c b:=by
    by_cases hl:c.length=b.length
    ·have hm:min its.toArray.size its'.toArray.size=c.length:=by simp;omega
     rw [hm,zbW c b hl,zbI c b (λx y=>x.eqb y) hl (za3 c b) (λj x y h1 h2=>by simp [za3,h1,h2])]
     have:(its.toArray.size==its'.toArray.size)=true:=by simp;omega
     rw [this,Bool.and_true]
    ·rw [zbQ c b hl]
     have:(its.toArray.size==its'.toArray.size)=false:=by simp;omega
     rw [this,Bool.and_false]
   rw [e3] at this
   exact this
 | lst c=>
  obtain ⟨a,vs,rfl,q,zs⟩:=qx
  cases ru;have hu0:A.units<cLine:=by omega
  obtain ⟨its,ri,p⟩:=S.lst a vs q
  cases y with
  | non=>simp only [RdD,RepD] at qy;subst qy;cases rt;exact SeqAt.RcAt.list_none  p hu0
  | bl b=>simp only [RdD,RepD] at qy;subst qy;cases rt;exact SeqAt.RcAt.list_bool b p hu0
  | int b=>simp only [RdD,RepD] at qy;subst qy;obtain ⟨t',rfl⟩:=rt;exact SeqAt.RcAt.list_int b t' p hu0
  | str b=>simp only [RdD,RepD] at qy;subst qy;obtain ⟨t',rfl⟩:=rt;exact SeqAt.RcAt.list_str _ t' p hu0
  | tup b=>(simp only [RdD,RepD] at qy;obtain ⟨a',vs',rfl,q',_⟩:=qy;cases rt;obtain ⟨its',_,p'⟩:=S.tup a' vs' q';exact SeqAt.RcAt.list_tuple p p' hu0)
  | lst b=>
   obtain ⟨a',vs',rfl,q',zs'⟩:=qy
   cases rt;obtain ⟨its',ri',p'⟩:=S.lst a' vs' q'
   have key:=pairs_D S c b A.in1 vs vs' its its' zs zs' ri ri' (by show A.units+1+_<cLine;simp only [D.dep] at hu;omega)
   have l1:=zs.length;have l2:=zs'.length;have l3:=ri.length;have l4:=ri'.length
   show SeqAt.RcAt A s _ _ (D.eqbs c b)
   by_cases hl:c.length=b.length
   ·have:=SeqAt.RcAt.lists (e:=za3 c b) p p' (by simp;omega) hu0 (λj h1 h2=>by have:=key j (by simpa using h1) (by simpa using h2);simpa using this)
    have hm:its.toArray.size=c.length:=by simp;omega
    rw [hm,zbI c b (λx y=>x.eqb y) hl (za3 c b) (λj x y h1 h2=>by simp [za3,h1,h2]),<-zbW c b hl] at this
    exact this
   ·rw [zbQ c b hl]
    exact SeqAt.RcAt.lists_lengths p p' (by simp;omega) hu0
theorem zlL (S:zbM X s H) (x y:D) (A:Around) (v w:V) (u t:Value) (qx:RdD X.K A0 H x v) (qy:RdD X.K A0 H y w) (ru:RelV v u) (rt:RelV w t) (hu:A.units+min x.dep y.dep<cLine):SeqAt.RcNeAt A s u t (!x.eqb y):=by
 cases x with
 | non=>
  simp only [RdD,RepD] at qx;subst qx
  cases ru
  cases y with
  | non=>simp only [RdD,RepD] at qy;subst qy;cases rt;exact SeqAt.RcNeAt.none_none  
  | bl b=>simp only [RdD,RepD] at qy;subst qy;cases rt;exact SeqAt.RcNeAt.none_bool  b
  | int b=>simp only [RdD,RepD] at qy;subst qy;obtain ⟨t',rfl⟩:=rt;exact SeqAt.RcNeAt.none_int  b t'
  | str b=>simp only [RdD,RepD] at qy;subst qy;obtain ⟨t',rfl⟩:=rt;exact SeqAt.RcNeAt.none_str  _ t'
  | tup b=>(simp only [RdD,RepD] at qy;obtain ⟨a,vs,rfl,q,_⟩:=qy;cases rt;obtain ⟨its,_,p⟩:=S.tup a vs q;exact SeqAt.RcNeAt.none_tuple  p (by omega))
  | lst b=>(obtain ⟨a,vs,rfl,q,_⟩:=qy;cases rt;obtain ⟨its,_,p⟩:=S.lst a vs q;exact SeqAt.RcNeAt.none_list  p (by omega))
 | bl c=>
  simp only [RdD,RepD] at qx;subst qx
  cases ru
  cases y with
  | non=>simp only [RdD,RepD] at qy;subst qy;cases rt;exact SeqAt.RcNeAt.bool_none c 
  | bl b=>simp only [RdD,RepD] at qy;subst qy;cases rt;exact SeqAt.RcNeAt.bool_bool c b
  | int b=>simp only [RdD,RepD] at qy;subst qy;obtain ⟨t',rfl⟩:=rt;exact SeqAt.RcNeAt.bool_int c b t'
  | str b=>simp only [RdD,RepD] at qy;subst qy;obtain ⟨t',rfl⟩:=rt;exact SeqAt.RcNeAt.bool_str c _ t'
  | tup b=>(simp only [RdD,RepD] at qy;obtain ⟨a,vs,rfl,q,_⟩:=qy;cases rt;obtain ⟨its,_,p⟩:=S.tup a vs q;exact SeqAt.RcNeAt.bool_tuple c p (by omega))
  | lst b=>(obtain ⟨a,vs,rfl,q,_⟩:=qy;cases rt;obtain ⟨its,_,p⟩:=S.lst a vs q;exact SeqAt.RcNeAt.bool_list c p (by omega))
 | int c=>
  simp only [RdD,RepD] at qx;subst qx
  obtain ⟨u',rfl⟩:=ru
  cases y with
  | non=>simp only [RdD,RepD] at qy;subst qy;cases rt;exact SeqAt.RcNeAt.int_none c u' 
  | bl b=>simp only [RdD,RepD] at qy;subst qy;cases rt;exact SeqAt.RcNeAt.int_bool c u' b
  | int b=>simp only [RdD,RepD] at qy;subst qy;obtain ⟨t',rfl⟩:=rt;exact SeqAt.RcNeAt.int_int c u' b t'
  | str b=>simp only [RdD,RepD] at qy;subst qy;obtain ⟨t',rfl⟩:=rt;exact SeqAt.RcNeAt.int_str c u' _ t'
  | tup b=>(simp only [RdD,RepD] at qy;obtain ⟨a,vs,rfl,q,_⟩:=qy;cases rt;obtain ⟨its,_,p⟩:=S.tup a vs q;exact SeqAt.RcNeAt.int_tuple c u' p (by omega))
  | lst b=>(obtain ⟨a,vs,rfl,q,_⟩:=qy;cases rt;obtain ⟨its,_,p⟩:=S.lst a vs q;exact SeqAt.RcNeAt.int_list c u' p (by omega))
 | str c=>
  simp only [RdD,RepD] at qx;subst qx
  obtain ⟨u',rfl⟩:=ru
  cases y with
  | non=>simp only [RdD,RepD] at qy;subst qy;cases rt;exact SeqAt.RcNeAt.str_none _ u' 
  | bl b=>simp only [RdD,RepD] at qy;subst qy;cases rt;exact SeqAt.RcNeAt.str_bool _ u' b
  | int b=>simp only [RdD,RepD] at qy;subst qy;obtain ⟨t',rfl⟩:=rt;exact SeqAt.RcNeAt.str_int _ u' b t'
  | str b=>simp only [RdD,RepD] at qy;subst qy;obtain ⟨t',rfl⟩:=rt;(have z:=SeqAt.RcNeAt.str_str (A:=A) (s:=s) (zac c) u' (zac b) t';rw [ze5] at z;exact z)
  | tup b=>(simp only [RdD,RepD] at qy;obtain ⟨a,vs,rfl,q,_⟩:=qy;cases rt;obtain ⟨its,_,p⟩:=S.tup a vs q;exact SeqAt.RcNeAt.str_tuple _ u' p (by omega))
  | lst b=>(obtain ⟨a,vs,rfl,q,_⟩:=qy;cases rt;obtain ⟨its,_,p⟩:=S.lst a vs q;exact SeqAt.RcNeAt.str_list _ u' p (by omega))
 | tup c=>
  simp only [RdD,RepD] at qx;obtain ⟨a,vs,rfl,q,zs⟩:=qx
  cases ru;have hu0:A.units<cLine:=by omega
  obtain ⟨its,ri,p⟩:=S.tup a vs q
  cases y with
  | non=>simp only [RdD,RepD] at qy;subst qy;cases rt;exact SeqAt.RcNeAt.tuple_none  p hu0
  | bl b=>simp only [RdD,RepD] at qy;subst qy;cases rt;exact SeqAt.RcNeAt.tuple_bool b p hu0
  | int b=>simp only [RdD,RepD] at qy;subst qy;obtain ⟨t',rfl⟩:=rt;exact SeqAt.RcNeAt.tuple_int b t' p hu0
  | str b=>simp only [RdD,RepD] at qy;subst qy;obtain ⟨t',rfl⟩:=rt;exact SeqAt.RcNeAt.tuple_str _ t' p hu0
  | lst b=>(obtain ⟨a',vs',rfl,q',_⟩:=qy;cases rt;obtain ⟨its',_,p'⟩:=S.lst a' vs' q';exact SeqAt.RcNeAt.tuple_list p p' hu0)
  | tup b=>
   simp only [RdD,RepD] at qy;obtain ⟨a',vs',rfl,q',zs'⟩:=qy
   cases rt;obtain ⟨its',ri',p'⟩:=S.tup a' vs' q'
   have key:=pairs_D S c b A.in1 vs vs' its its' zs zs' ri ri' (by show A.units+1+_<cLine;simp only [D.dep] at hu;omega)
   have l1:=zs.length;have l2:=zs'.length;have l3:=ri.length;have l4:=ri'.length
   show SeqAt.RcNeAt A s _ _ (!D.eqbs c b)
   have:=SeqAt.RcNeAt.tuples (e:=za3 c b) p p' hu0 (λj h1 h2=>by have:=key j (by simpa using h1) (by simpa using h2);simpa using this)
   have e3:((List.range (min its.toArray.size its'.toArray.size)).all (za3 c b)&&its.toArray.size==its'.toArray.size)=D.eqbs c b:=by
    by_cases hl:c.length=b.length
    ·have hm:min its.toArray.size its'.toArray.size=c.length:=by simp;omega
     rw [hm,zbW c b hl,zbI c b (λx y=>x.eqb y) hl (za3 c b) (λj x y h1 h2=>by simp [za3,h1,h2])]
     have:(its.toArray.size==its'.toArray.size)=true:=by simp;omega
     rw [this,Bool.and_true]
    ·rw [zbQ c b hl]
     have:(its.toArray.size==its'.toArray.size)=false:=by simp;omega
     rw [this,Bool.and_false]
   rw [e3] at this
   exact this
 | lst c=>
  obtain ⟨a,vs,rfl,q,zs⟩:=qx
  cases ru;have hu0:A.units<cLine:=by omega
  obtain ⟨its,ri,p⟩:=S.lst a vs q
  cases y with
  | non=>simp only [RdD,RepD] at qy;subst qy;cases rt;exact SeqAt.RcNeAt.list_none  p hu0
  | bl b=>simp only [RdD,RepD] at qy;subst qy;cases rt;exact SeqAt.RcNeAt.list_bool b p hu0
  | int b=>simp only [RdD,RepD] at qy;subst qy;obtain ⟨t',rfl⟩:=rt;exact SeqAt.RcNeAt.list_int b t' p hu0
  | str b=>simp only [RdD,RepD] at qy;subst qy;obtain ⟨t',rfl⟩:=rt;exact SeqAt.RcNeAt.list_str _ t' p hu0
  | tup b=>(simp only [RdD,RepD] at qy;obtain ⟨a',vs',rfl,q',_⟩:=qy;cases rt;obtain ⟨its',_,p'⟩:=S.tup a' vs' q';exact SeqAt.RcNeAt.list_tuple p p' hu0)
  | lst b=>
   obtain ⟨a',vs',rfl,q',zs'⟩:=qy
   cases rt;obtain ⟨its',ri',p'⟩:=S.lst a' vs' q'
   have key:=pairs_D S c b A.in1 vs vs' its its' zs zs' ri ri' (by show A.units+1+_<cLine;simp only [D.dep] at hu;omega)
   have l1:=zs.length;have l2:=zs'.length;have l3:=ri.length;have l4:=ri'.length
   show SeqAt.RcNeAt A s _ _ (!D.eqbs c b)
   by_cases hl:c.length=b.length
   ·have:=SeqAt.RcNeAt.lists (e:=za3 c b) p p' (by simp;omega) hu0 (λj h1 h2=>by have:=key j (by simpa using h1) (by simpa using h2);simpa using this)
    have hm:its.toArray.size=c.length:=by simp;omega
    rw [hm,zbI c b (λx y=>x.eqb y) hl (za3 c b) (λj x y h1 h2=>by simp [za3,h1,h2]),<-zbW c b hl] at this
    exact this
   ·rw [zbQ c b hl]
    exact SeqAt.RcNeAt.lists_lengths p p' (by simp;omega) hu0
end
section
variable {X:Cx}
theorem zk1:OpR X (binaryOp .Add) (λx y H Q=>∃ a b ys,x=.ref a/\y=.ref b/\SqT X.K H a []/\SqT X.K H b ys/\Q (.ref b) H):=by
 intro pins s σ H x y v u Q I rx ry h
 obtain ⟨a,b,ys,rfl,rfl,ha,hb,q⟩:=h
 cases rx;cases ry
 obtain ⟨its,r1,p1,_⟩:=I.tuple ha
 obtain ⟨its2,r2,p2,_⟩:=I.tuple hb
 have hi:its=[]:=r1.nil_iff.mpr rfl
 subst hi
 obtain ⟨⟨cls,dd,data,sl⟩,ho,hc,n,hd⟩:=id p1
 obtain ⟨⟨cls2,dd2,data2,sl2⟩,ho2,hc2,n2,hd2⟩:=id p2
 simp only at hc hd hc2 hd2
 subst hc hd hc2 hd2
 refine PySem.concat_meets ⟨_,ho,rfl⟩ ⟨_,ho2,rfl⟩ PySem.noFill_tuple_add PySem.seq_tuple_add PySem.F.slot_tuple_add PySem.F.entry_tuple_add (PySem.F.args_tuple_add_2 _ _) (PyProof.Rows.tuple_addW0 a b _ its2.toArray n n2 dd dd2 sl sl2 ?_) ⟨ho,ho2,?_⟩
 ·rfl
 ·exact ⟨.ref b,H,I,rfl,q⟩
theorem zkp {i j:Int} (h1:0<=i) (h2:0<=j):Builtin.bitAnd i j=((i.toNat &&& j.toNat:Nat):Int):=by
 unfold Builtin.bitAnd
 rw [decide_eq_true h1,decide_eq_true h2]
theorem zkD {i j:Int} (h1:0<=i) (h2:0<=j):Builtin.bitOr i j=((i.toNat ||| j.toNat:Nat):Int):=by
 unfold Builtin.bitOr Builtin.bitAnd Builtin.bitNot
 rw [decide_eq_false (show ¬ 0<=-i-1 by omega),decide_eq_false (show ¬ 0<=-j-1 by omega)]
 simp only
 rw [show-(-i-1)-1=i by omega,show-(-j-1)-1=j by omega]
 omega
theorem zlD:OpD X (binaryOp .BitAnd) (bop .band):=by
 intro pins s σ H v u v' u' Q I rv ru q
 obtain ⟨μ,h,a,b,z,R0,qa,qb,e,k⟩:=q
 cases a with
 | int i=>
  cases b with
  | int j=>
   simp only [RdD,RepD] at qa qb
   (change (if _=true then _ else _)=some _ at e;simp only [Bool.and_eq_true,decide_eq_true_eq] at e)
   split at e
   ·rename_i hf
    cases e
    exact zpV pins s σ H v u v' u' Q I rv ru ⟨i,j,qa,qb,by show Q (V.int (Builtin.bitAnd i j)) H;rw [zkp hf.1 hf.2];exact k μ H _ Stp.refl R0 (by simp only [RepD])⟩
   ·cases e
  | _=>exact zag e
 | _=>cases b<;>exact zag e
theorem zm8:OpD X (binaryOp .BitOr) (bop .bor):=by
 intro pins s σ H v u v' u' Q I rv ru q
 obtain ⟨μ,h,a,b,z,R0,qa,qb,e,k⟩:=q
 cases a with
 | int i=>
  cases b with
  | int j=>
   simp only [RdD,RepD] at qa qb
   (change (if _=true then _ else _)=some _ at e;simp only [Bool.and_eq_true,decide_eq_true_eq] at e)
   split at e
   ·rename_i hf
    cases e
    exact zrg pins s σ H v u v' u' Q I rv ru ⟨i,j,qa,qb,by show Q (V.int (Builtin.bitOr i j)) H;rw [zkD hf.1 hf.2];exact k μ H _ Stp.refl R0 (by simp only [RepD])⟩
   ·cases e
  | _=>exact zag e
 | _=>cases b<;>exact zag e
theorem znl:OpD X (binaryOp .Add) (bop .add):=by
 intro pins s σ H v u v' u' Q I rv ru q
 obtain ⟨μ,h,a,b,z,R0,qa,qb,e,k⟩:=q
 cases a with
 | int i=>
  cases b with
  | int j=>
   simp only [RdD,RepD] at qa qb
   replace e:=Option.some.inj e
   subst e
   exact zqe pins s σ H v u v' u' Q I rv ru ⟨i,j,qa,qb,k μ H _ Stp.refl R0 (by simp only [RepD])⟩
  | _=>exact zag e
 | str x=>
  cases b with
  | str y=>
   simp only [RdD,RepD] at qa qb
   change (if _=true then _ else _)=some _ at e
   split at e
   ·rename_i hf
    cases e
    exact zim pins s σ H v u v' u' Q I rv ru ⟨zac x,zac y,qa,qb,by rw [zai,zai];exact of_decide_eq_true hf,by rw [zkr];exact k μ H _ Stp.refl R0 (by simp only [RepD])⟩
   ·cases e
  | _=>exact zag e
 | tup xs=>
  cases b with
  | tup ys=>
   simp only [RdD,RepD] at qa qb
   obtain ⟨p,vs,rfl,q1,z1⟩:=qa
   obtain ⟨p',vs',rfl,q2,z2⟩:=qb
   change (if _=true then _ else _)=some _ at e
   split at e
   ·rename_i hf
    cases e
    have l1:=z1.length
    have l2:=z2.length
    have hlen:xs.length+ys.length<=sizeLine:=of_decide_eq_true hf
    by_cases hv:vs=[]
    ·subst hv
     have hx:xs=[]:=by cases xs with | nil=>rfl | cons _ _=>simp at l1
     subst hx
     exact zk1 pins s σ H _ _ v' u' Q I rv ru ⟨p,p',vs',rfl,rfl,q1,q2,k μ H _ Stp.refl R0 (by simp only [RepD];exact ⟨p',vs',rfl,q2,z2⟩)⟩
    refine zn6 pins s σ H _ _ v' u' Q I rv ru ⟨p,p',vs,vs',rfl,rfl,q1,q2,hv,by omega,λhn=>?_,λ_ r hr=>?_⟩
    ·subst hn
     cases ys with
     | nil=>
      rw [List.append_nil] at k
      exact k μ H _ Stp.refl R0 (by simp only [RepD];exact ⟨p,vs,rfl,q1,z1⟩)
     | cons _ _=>simp at l2
    ·have s2:Stp μ h H μ h (upd H r (.tup (vs++vs'))):=Stp.fresh hr
     refine k μ _ (.ref r) s2 (R0.fresh hr) ?_
     simp only [RepD]
     exact ⟨r,vs++vs',rfl,SqT.of zaD,RepDs.stp s2 R0 (z1.app z2)⟩
   ·cases e
  | _=>exact zag e
 | lst xs=>
  cases b with
  | lst ys=>
   obtain ⟨p,vs,rfl,q1,z1⟩:=qa
   obtain ⟨p',vs',rfl,q2,z2⟩:=qb
   change (if _=true then _ else _)=some _ at e
   split at e
   ·rename_i hf
    cases e
    have l1:=z1.length
    have l2:=z2.length
    have hlen:xs.length+ys.length<=sizeLine:=of_decide_eq_true hf
    refine znk pins s σ H _ _ v' u' Q I rv ru ⟨p,p',vs,vs',rfl,rfl,q1,q2,by omega,λr hr=>?_⟩
    have s2:Stp μ h H μ h (upd H r (.lst (vs++vs'))):=Stp.fresh hr
    refine k μ _ (.ref r) s2 (R0.fresh hr) ?_
    simp only [RepD]
    refine ⟨r,vs++vs',rfl,.inl ⟨λl=>?_,.inl zaD⟩,RepDs.stp s2 R0 (z1.app z2)⟩
    obtain ⟨ws,w,_⟩:=R0.liveAt l
    rw [hr] at w;cases w
   ·cases e
  | _=>exact zag e
 | _=>cases b<;>exact zag e
theorem znC:OpD X (binaryOp .Pow) (bop .pow):=by
 intro pins s σ H v u v' u' Q I rv ru q
 obtain ⟨μ,h,a,b,z,R0,qa,qb,e,k⟩:=q
 cases a with
 | int i=>
  cases b with
  | int j=>
   simp only [RdD,RepD] at qa qb
   change (if _=true then _ else _)=some _ at e
   split at e
   ·rename_i hf
    simp only [Bool.and_eq_true] at hf
    cases e
    exact zp5 pins s σ H v u v' u' Q I rv ru ⟨i,j,qa,qb,⟨of_decide_eq_true hf.1.1,of_decide_eq_true hf.1.2,of_decide_eq_true hf.2⟩,k μ H _ Stp.refl R0 (by simp only [RepD])⟩
   ·cases e
  | _=>exact zag e
 | _=>cases b<;>exact zag e
theorem zmx:OpD X (binaryOp .Sub) (bop .sub):=by
 intro pins s σ H v u v' u' Q I rv ru q
 obtain ⟨μ,h,a,b,z,R0,qa,qb,e,k⟩:=q
 cases a with
 | int i=>
  cases b with
  | int j=>
   simp only [RdD,RepD] at qa qb
   replace e:=Option.some.inj e
   subst e
   exact zpi pins s σ H v u v' u' Q I rv ru ⟨i,j,qa,qb,k μ H _ Stp.refl R0 (by simp only [RepD])⟩
  | _=>exact zag e
 | _=>cases b<;>exact zag e
theorem zk9:OpD X (binaryOp .FloorDiv) (bop .fdiv):=by
 intro pins s σ H v u v' u' Q I rv ru q
 obtain ⟨μ,h,a,b,z,R0,qa,qb,e,k⟩:=q
 cases a with
 | int i=>
  cases b with
  | int j=>
   simp only [RdD,RepD] at qa qb
   change (if _=true then _ else _)=some _ at e
   split at e
   ·rename_i hf
    rw [Bool.and_eq_true] at hf
    cases e
    have h0:(0:Int)<j:=of_decide_eq_true hf.1
    have h1:j<1000000000000000000000000000000000000000000000000000000000000:=of_decide_eq_true hf.2
    subst qa qb
    obtain ⟨t1,rfl⟩:=rv
    obtain ⟨t2,rfl⟩:=ru
    refine PyProof.Rows.floordiv_int (by omega) ?_ (.inl (PyProof.noPylong_of_log2 ?_))
    ·have ef:i.fdiv j=i / j:=Int.fdiv_eq_ediv_of_nonneg i (by omega)
     rw [ef]
     exact ⟨.int (i / j),H,I.tok _,⟨_,rfl⟩,k μ H _ Stp.refl R0 (by simp only [RepD])⟩
    ·have hj:j.natAbs<2 ^ 200:=by
      omega
     have hj0:j.natAbs≠0:=by omega
     have:=(Nat.log2_lt hj0).mpr hj
     omega
   ·cases e
  | _=>exact zag e
 | _=>cases b<;>exact zag e
theorem znU:OpD X (binaryOp .Mod) (bop .mod):=by
 intro pins s σ H v u v' u' Q I rv ru q
 obtain ⟨μ,h,a,b,z,R0,qa,qb,e,k⟩:=q
 cases a with
 | int i=>
  cases b with
  | int j=>
   simp only [RdD,RepD] at qa qb
   change (if _=true then _ else _)=some _ at e
   split at e
   ·rename_i hf
    cases e
    exact zpS pins s σ H v u v' u' Q I rv ru ⟨i,j,qa,qb,of_decide_eq_true hf,k μ H _ Stp.refl R0 (by simp only [RepD])⟩
   ·cases e
  | _=>exact zag e
 | _=>cases b<;>exact zag e
theorem zp3 (hu:X.A.units+64<cLine):OpD X (compareOp .Eq) (cop .eq):=by
 intro pins s σ H v u v' u' Q I rv ru q
 obtain ⟨μ,h,a,b,z,R0,qa,qb,e,k⟩:=q
 (delta cop at e;(try dsimp only at e))
 split at e
 ·rename_i hf
  cases e
  have hd:min a.dep b.dep<=60:=of_decide_eq_true hf
  exact zpf (zbn I) a b X.A v u v' u' qa qb rv ru (by omega) X.prog X.w X.xe _ ⟨.bl _,H,I,rfl,k μ H _ Stp.refl R0 (by simp only [RepD])⟩
 ·cases e
theorem zqo (hu:X.A.units+64<cLine):OpD X (compareOp .NotEq) (cop .ne):=by
 intro pins s σ H v u v' u' Q I rv ru q
 obtain ⟨μ,h,a,b,z,R0,qa,qb,e,k⟩:=q
 (delta cop at e;(try dsimp only at e))
 split at e
 ·rename_i hf
  cases e
  have hd:min a.dep b.dep<=60:=of_decide_eq_true hf
  exact zlL (zbn I) a b X.A v u v' u' qa qb rv ru (by omega) X.prog X.w X.xe _ ⟨.bl _,H,I,rfl,k μ H _ Stp.refl R0 (by simp only [RepD])⟩
 ·cases e
theorem zpw:OpD X (compareOp .Lt) (cop .lt):=by
 intro pins s σ H v u v' u' Q I rv ru q
 obtain ⟨μ,h,a,b,z,R0,qa,qb,e,k⟩:=q
 cases a with
 | int i=>
  cases b with
  | int j=>
   simp only [RdD,RepD] at qa qb
   replace e:=Option.some.inj e
   subst e
   exact zrz pins s σ H v u v' u' Q I rv ru ⟨i,j,qa,qb,k μ H _ Stp.refl R0 (by simp only [RepD])⟩
  | _=>exact zag e
 | _=>cases b<;>exact zag e
theorem zqn:OpD X (compareOp .LtE) (cop .le):=by
 intro pins s σ H v u v' u' Q I rv ru q
 obtain ⟨μ,h,a,b,z,R0,qa,qb,e,k⟩:=q
 cases a with
 | int i=>
  cases b with
  | int j=>
   simp only [RdD,RepD] at qa qb
   replace e:=Option.some.inj e
   subst e
   exact zqK pins s σ H v u v' u' Q I rv ru ⟨i,j,qa,qb,k μ H _ Stp.refl R0 (by simp only [RepD])⟩
  | _=>exact zag e
 | _=>cases b<;>exact zag e
theorem zpR:OpD X (compareOp .Gt) (cop .gt):=by
 intro pins s σ H v u v' u' Q I rv ru q
 obtain ⟨μ,h,a,b,z,R0,qa,qb,e,k⟩:=q
 cases a with
 | int i=>
  cases b with
  | int j=>
   simp only [RdD,RepD] at qa qb
   replace e:=Option.some.inj e
   subst e
   exact zqZ pins s σ H v u v' u' Q I rv ru ⟨i,j,qa,qb,k μ H _ Stp.refl R0 (by simp only [RepD])⟩
  | _=>exact zag e
 | _=>cases b<;>exact zag e
theorem zp9:OpD X (compareOp .GtE) (cop .ge):=by
 intro pins s σ H v u v' u' Q I rv ru q
 obtain ⟨μ,h,a,b,z,R0,qa,qb,e,k⟩:=q
 cases a with
 | int i=>
  cases b with
  | int j=>
   simp only [RdD,RepD] at qa qb
   replace e:=Option.some.inj e
   subst e
   exact zqJ pins s σ H v u v' u' Q I rv ru ⟨i,j,qa,qb,k μ H _ Stp.refl R0 (by simp only [RepD])⟩
  | _=>exact zag e
 | _=>cases b<;>exact zag e
theorem zkY (hu:X.A.units+64<cLine):OpD X (compareOp .In) (cop .isin):=by
 intro pins s σ H v u v' u' Q I rv ru q
 obtain ⟨μ,h,a,b,z,R0,qa,qb,e,k⟩:=q
 have S:=zbn I
 (delta cop at e;(try dsimp only at e))
 have ans:∀ (xs:List D) (ws:List V) (its:List Value),RepDs X.K (Live μ h) H xs ws->Vals ws its->a.dep<=60 →
   ∃ f:Value->Bool,(∀ y,y∈its.toArray->SeqAt.EqAt X.A.in1 s y v' (f y))/\its.toArray.any f=xs.any λy=>y.eqb a:=by
  intro xs ws its q r hd
  classical
  refine ⟨λy=>decide (∃ (x:D) (w:V),RepD X.K (Live μ h) H x w/\RelV w y/\x.eqb a=true),λy hy=>?_,?_⟩
  ·obtain ⟨j,hj,e1⟩:=List.getElem_of_mem (show y∈its by simpa using hy)
   have hj2:j<ws.length:=by rw [r.length];exact hj
   obtain ⟨x,hx,qx⟩:=q.get' (List.getElem?_eq_getElem hj2)
   have rx:RelV ws[j] y:=by
    have:=zc4 r (List.getElem?_eq_getElem hj2) hj
    rw [e1] at this
    exact this
   have base:∀ (x:D) (w:V),RepD X.K (Live μ h) H x w->RelV w y->SeqAt.EqAt X.A.in1 s y v' (x.eqb a):=λx w qx rx=>
    zhI S x a X.A.in1 w v y v' (RdD.of qx) qa rx rv (by show X.A.units+1+_<cLine;omega)
   dsimp only
   by_cases hx':∃ (x:D) (w:V),RepD X.K (Live μ h) H x w/\RelV w y/\x.eqb a=true
   ·rw [decide_eq_true hx']
    obtain ⟨x',w',q',r',e'⟩:=hx'
    rw [<-e']
    exact base x' w' q' r'
   ·rw [decide_eq_false hx']
    cases ex:x.eqb a with
    | true=>exact absurd ⟨x,_,qx,rx,ex⟩ hx'
    | false=>rw [<-ex];exact base x _ qx rx
  ·rw [Bool.eq_iff_iff,List.any_eq_true,Array.any_eq_true']
   constructor
   ·rintro ⟨y,hy,hf⟩
    obtain ⟨x',w',q',r',e'⟩:=of_decide_eq_true hf
    obtain ⟨j,hj,e1⟩:=List.getElem_of_mem (show y∈its by simpa using hy)
    have hj2:j<ws.length:=by rw [r.length];exact hj
    obtain ⟨x,hx,qx⟩:=q.get' (List.getElem?_eq_getElem hj2)
    have rx:RelV ws[j] y:=by
     have:=zc4 r (List.getElem?_eq_getElem hj2) hj
     rw [e1] at this
     exact this
    have ew:=RelV.inj rx r'
    refine ⟨x,List.mem_of_getElem? hx,?_⟩
    rw [RepD.inj S x x' w' (ew▸qx) q']
    exact e'
   ·rintro ⟨x,hx,ex⟩
    obtain ⟨j,hj,e1⟩:=List.getElem_of_mem hx
    obtain ⟨w,hw,qx⟩:=q.get (List.getElem?_eq_getElem hj)
    rw [e1] at qx
    obtain ⟨y,hy,ry⟩:=r.get hw
    exact ⟨y,by simpa using List.mem_of_getElem? hy,decide_eq_true ⟨x,w,qx,ry,ex⟩⟩
 cases b with
 | tup ys=>
  simp only [items] at e
  split at e
  ·rename_i hf
   cases e
   simp only [RdD,RepD] at qb
   obtain ⟨p,vs,rfl,q1,z1⟩:=qb
   cases ru
   obtain ⟨its,r1,p1⟩:=S.tup p vs q1
   obtain ⟨f,hf1,hf2⟩:=ans ys vs its z1 r1 (of_decide_eq_true hf)
   exact SeqAt.in_tupleAt f p1 hf1 ⟨.bl _,H,I,rfl,by rw [hf2];exact k μ H _ Stp.refl R0 (by simp only [RepD])⟩
  ·cases e
 | lst ys=>
  simp only [items] at e
  split at e
  ·rename_i hf
   cases e
   obtain ⟨p,vs,rfl,q1,z1⟩:=qb
   cases ru
   obtain ⟨its,r1,p1⟩:=S.lst p vs q1
   obtain ⟨f,hf1,hf2⟩:=ans ys vs its z1 r1 (of_decide_eq_true hf)
   exact SeqAt.in_listAt f p1 hf1 ⟨.bl _,H,I,rfl,by rw [hf2];exact k μ H _ Stp.refl R0 (by simp only [RepD])⟩
  ·cases e
 | str x=>
  simp only [items] at e
  cases a with
  | str y=>
   cases e
   simp only [RdD,RepD] at qa qb
   subst qa qb
   refine zjB pins s σ H _ _ v' u' Q I rv ru ⟨zac y,zac x,rfl,rfl,?_⟩
   rw [zmm]
   exact k μ H _ Stp.refl R0 (by simp only [RepD])
  | _=>cases e
 | _=>simp [items] at e
theorem ziz (hu:X.A.units+64<cLine):OpD X (compareOp .NotIn) (cop .notin):=by
 intro pins s σ H v u v' u' Q I rv ru q
 obtain ⟨μ,h,a,b,z,R0,qa,qb,e,k⟩:=q
 have S:=zbn I
 (delta cop at e;(try dsimp only at e))
 have ans:∀ (xs:List D) (ws:List V) (its:List Value),RepDs X.K (Live μ h) H xs ws->Vals ws its->a.dep<=60 →
   ∃ f:Value->Bool,(∀ y,y∈its.toArray->SeqAt.EqAt X.A.in1 s y v' (f y))/\its.toArray.any f=xs.any λy=>y.eqb a:=by
  intro xs ws its q r hd
  classical
  refine ⟨λy=>decide (∃ (x:D) (w:V),RepD X.K (Live μ h) H x w/\RelV w y/\x.eqb a=true),λy hy=>?_,?_⟩
  ·obtain ⟨j,hj,e1⟩:=List.getElem_of_mem (show y∈its by simpa using hy)
   have hj2:j<ws.length:=by rw [r.length];exact hj
   obtain ⟨x,hx,qx⟩:=q.get' (List.getElem?_eq_getElem hj2)
   have rx:RelV ws[j] y:=by
    have:=zc4 r (List.getElem?_eq_getElem hj2) hj
    rw [e1] at this
    exact this
   have base:∀ (x:D) (w:V),RepD X.K (Live μ h) H x w->RelV w y->SeqAt.EqAt X.A.in1 s y v' (x.eqb a):=λx w qx rx=>
    zhI S x a X.A.in1 w v y v' (RdD.of qx) qa rx rv (by show X.A.units+1+_<cLine;omega)
   dsimp only
   by_cases hx':∃ (x:D) (w:V),RepD X.K (Live μ h) H x w/\RelV w y/\x.eqb a=true
   ·rw [decide_eq_true hx']
    obtain ⟨x',w',q',r',e'⟩:=hx'
    rw [<-e']
    exact base x' w' q' r'
   ·rw [decide_eq_false hx']
    cases ex:x.eqb a with
    | true=>exact absurd ⟨x,_,qx,rx,ex⟩ hx'
    | false=>rw [<-ex];exact base x _ qx rx
  ·rw [Bool.eq_iff_iff,List.any_eq_true,Array.any_eq_true']
   constructor
   ·rintro ⟨y,hy,hf⟩
    obtain ⟨x',w',q',r',e'⟩:=of_decide_eq_true hf
    obtain ⟨j,hj,e1⟩:=List.getElem_of_mem (show y∈its by simpa using hy)
    have hj2:j<ws.length:=by rw [r.length];exact hj
    obtain ⟨x,hx,qx⟩:=q.get' (List.getElem?_eq_getElem hj2)
    have rx:RelV ws[j] y:=by
     have:=zc4 r (List.getElem?_eq_getElem hj2) hj
     rw [e1] at this
     exact this
    have ew:=RelV.inj rx r'
    refine ⟨x,List.mem_of_getElem? hx,?_⟩
    rw [RepD.inj S x x' w' (ew▸qx) q']
    exact e'
   ·rintro ⟨x,hx,ex⟩
    obtain ⟨j,hj,e1⟩:=List.getElem_of_mem hx
    obtain ⟨w,hw,qx⟩:=q.get (List.getElem?_eq_getElem hj)
    rw [e1] at qx
    obtain ⟨y,hy,ry⟩:=r.get hw
    exact ⟨y,by simpa using List.mem_of_getElem? hy,decide_eq_true ⟨x,w,qx,ry,ex⟩⟩
 cases b with
 | tup ys=>
  simp only [items] at e
  split at e
  ·rename_i hf
   cases e
   simp only [RdD,RepD] at qb
   obtain ⟨p,vs,rfl,q1,z1⟩:=qb
   cases ru
   obtain ⟨its,r1,p1⟩:=S.tup p vs q1
   obtain ⟨f,hf1,hf2⟩:=ans ys vs its z1 r1 (of_decide_eq_true hf)
   exact SeqAt.notIn_tupleAt f p1 hf1 ⟨.bl _,H,I,rfl,by rw [hf2];exact k μ H _ Stp.refl R0 (by simp only [RepD])⟩
  ·cases e
 | lst ys=>
  simp only [items] at e
  split at e
  ·rename_i hf
   cases e
   obtain ⟨p,vs,rfl,q1,z1⟩:=qb
   cases ru
   obtain ⟨its,r1,p1⟩:=S.lst p vs q1
   obtain ⟨f,hf1,hf2⟩:=ans ys vs its z1 r1 (of_decide_eq_true hf)
   exact SeqAt.notIn_listAt f p1 hf1 ⟨.bl _,H,I,rfl,by rw [hf2];exact k μ H _ Stp.refl R0 (by simp only [RepD])⟩
  ·cases e
 | str x=>
  simp only [items] at e
  cases a with
  | str y=>
   cases e
   simp only [RdD,RepD] at qa qb
   subst qa qb
   refine zgg pins s σ H _ _ v' u' Q I rv ru ⟨zac y,zac x,rfl,rfl,?_⟩
   rw [zmm]
   exact k μ H _ Stp.refl R0 (by simp only [RepD])
  | _=>cases e
 | _=>simp [items] at e
end
end IT
set_option linter.all false
set_option maxHeartbeats 4000000
set_option maxRecDepth 100000
namespace PySem
open Sem (wp)
open Builtin
theorem zcI:fillsNumberSlot (.type "tuple") "mul"=pure false:=
 fillsNumberSlot_seq (id:="tuple.__mul__") (r:=some (.builtin "tuple.__rmul__")) F.slot_tuple_mul.lookup (by decide +kernel) F.slot_tuple_rmul.lookup (by decide +kernel)
theorem zef:seqRepeat? (.type "tuple")=pure (some (.builtin "tuple.__mul__")):=by
 unfold seqRepeat?
 rw [seqSlot_of (T:="tuple") (name:="__mul__") (id:="tuple.__mul__") F.slot_tuple_mul.lookup (by decide +kernel),seqSlot_of (T:="tuple") (name:="__rmul__") (id:="tuple.__rmul__") F.slot_tuple_rmul.lookup (by decide +kernel)]
 rfl
theorem zfG (a:Int) (t:Tok) (l:Addr) (items:Array Value) (n:Nat) (dd:Option Addr) (sl:Array (Option Value)) :
  Meets (Builtin.«int.__rmul__» ⟨[.int a t,.ref l],[]⟩) (λ_ R s=>s.heap.get? l=some { cls:=.type "tuple",dict:=dd,data:=.seq items n,slots:=sl }/\R (.ok (.ret Value.notImplemented)) s):=
 .of_wp λprog w A R s h=>by obtain ⟨hp,g,d,tk,os⟩:=s;obtain ⟨hl,h⟩:=h;wp_walk;exact ⟨_,rfl,h⟩
theorem zfn (t:Tok) (l:Addr) (items:Array Value) (n:Nat) (dd:Option Addr) (sl:Array (Option Value)) :
  Meets (Builtin.«tuple.__mul__» ⟨[.ref l,.int 1 t],[]⟩) (λ_ R s=>s.heap.get? l=some { cls:=.type "tuple",dict:=dd,data:=.seq items n,slots:=sl }/\R (.ok (.ret (.ref l))) s):=
 .of_wp λprog w A R s h=>by obtain ⟨hp,g,d,tk,os⟩:=s;obtain ⟨hl,h⟩:=h;wp_walk;exact ⟨_,rfl,h⟩
end PySem
namespace PySem
open Sem (wp)
open Builtin
theorem zfi (t:Tok) (l:Addr) (items:Array Value) (n:Nat) (dd:Option Addr) (sl:Array (Option Value)) (hc:items.isEmpty=false) :
  Meets (Builtin.«tuple.__mul__» ⟨[.ref l,.int 0 t],[]⟩) (λ_ R s=>s.heap.get? l=some { cls:=.type "tuple",dict:=dd,data:=.seq items n,slots:=sl }/\R (.ok (.ret (.ref s.heap.objs.size))) { s with heap:=s.heap.push { cls:=.type "tuple",data:=.seq #[] } }):=
 .of_wp λprog w A R s h=>by obtain ⟨hp,g,d,tk,os⟩:=s;obtain ⟨hl,h⟩:=h;wp_walk;exact ⟨_,rfl,h⟩
theorem zcL (items:Array Value):∀ (m:Nat) (acc:Array Value),((List.replicate m items).foldl (·++·) acc).toList=acc.toList++(List.replicate m items.toList).flatten
 | 0,acc=>by simp
 | m+1,acc=>by rw [List.replicate_succ,List.foldl_cons,zcL items m,List.replicate_succ,List.flatten_cons,Array.toList_append,List.append_assoc]
theorem zgW (items:Array Value) (m:Nat):((List.replicate m items).foldl (·++·) #[]).size=items.size*m:=by
 rw [<-Array.length_toList,zcL]
 induction m with
 | zero=>simp
 | succ m ih=>
  rw [List.replicate_succ,List.flatten_cons,<-List.append_assoc]
  simp only [List.length_append,List.nil_append] at ih ⊢
  rw [Array.length_toList,Nat.mul_succ]
  omega
theorem ze7 (k:Int) (t:Tok) (l:Addr) (items:Array Value) (n:Nat) (dd:Option Addr) (sl:Array (Option Value)) (hc:items.isEmpty=false) (h1:1<k) (h2:k<=16777216) (h3:items.size*k.toNat<=sizeLine) :
  Meets (Builtin.«tuple.__mul__» ⟨[.ref l,.int k t],[]⟩) (λ_ R s=>s.heap.get? l=some { cls:=.type "tuple",dict:=dd,data:=.seq items n,slots:=sl }/\R (.ok (.ret (.ref s.heap.objs.size))) { s with heap:=s.heap.push { cls:=.type "tuple",data:=.seq ((List.replicate k.toNat items).foldl (·++·) #[]) } }):=
 .of_wp λprog w A R s h=>by
  obtain ⟨hp,g,d,tk,os⟩:=s
  obtain ⟨hl,h⟩:=h
  have hk:(items.size:Int)*k=((items.size*k.toNat:Nat):Int):=by
   rw [Int.natCast_mul,Int.toNat_of_nonneg (by omega)]
  rw [sizeLine_eq] at h3
  have c1:(decide (k < -(2 ^ 63))||decide (k ≥ 2 ^ 63))=false:=by simp;omega
  have c2:(items.isEmpty||k==1)=false:=by rw [hc];simp;omega
  have c3:(decide (k<=0)||items.isEmpty)=false:=by rw [hc];simp;omega
  have c4:¬ ((items.size:Int)*k>(2 ^ 63-1) / 8):=by rw [hk];omega
  have c5:Tuple.tupleTooMany ((items.size:Int)*k)=false:=by
   rw [hk];unfold Tuple.tupleTooMany;rw [sizeLine_eq];exact decide_eq_false (by omega)
  wp_walk
  rw [if_neg (by rw [c1];decide)]
  wp_walk
  dsimp only
  rw [if_neg (by rw [c2];decide)]
  rw [if_neg (by rw [c3];decide)]
  rw [if_neg c4]
  rw [if_neg (by rw [c5];decide)]
  wp_walk
  rw [if_neg (by rw [zgW,sizeLine_eq];omega)]
  wp_walk
  exact ⟨_,rfl,h⟩
end PySem
set_option linter.all false
set_option maxHeartbeats 4000000
set_option maxRecDepth 100000
namespace IT
open PySem PySem.Spec L2
section
variable {X:Cx}
theorem Vals.rep {xs:List V} {us:List Value} (r:Vals xs us):∀ m:Nat,Vals (List.replicate m xs).flatten (List.replicate m us).flatten
 | 0=>.nil
 | m+1=>by rw [List.replicate_succ,List.replicate_succ,List.flatten_cons,List.flatten_cons];exact r.append (Vals.rep r m)
theorem RepDs.rep {K:PySem.W.Frag} {A:Addr->Prop} {H:Hp} {xs:List D} {vs:List V} (q:RepDs K A H xs vs):∀ m:Nat,RepDs K A H (List.replicate m xs).flatten (List.replicate m vs).flatten
 | 0=>.nil
 | m+1=>by rw [List.replicate_succ,List.replicate_succ,List.flatten_cons,List.flatten_cons];exact q.app (RepDs.rep q m)
theorem zku {α:Type} (xs:List α):∀ m:Nat,(List.replicate m xs).flatten.length=xs.length*m
 | 0=>by simp
 | m+1=>by rw [List.replicate_succ,List.flatten_cons,List.length_append,zku xs m,Nat.mul_succ,Nat.add_comm]
theorem zgQ:OpR X (binaryOp .Mult) (λx y H Q=>∃ p k xs,x=.ref p/\y=.int k/\SqT X.K H p xs/\xs≠[]/\((k=1/\Q (.ref p) H)\/(k=0/\∀ r,H r=none->Q (.ref r) (upd H r (.tup []))) ∨
  (1<k/\k<=16777216/\xs.length*k.toNat<=sizeLine/\∀ r,H r=none->Q (.ref r) (upd H r (.tup (List.replicate k.toNat xs).flatten))))):=by
 intro pins s σ H x y v u Q I rx ry q
 obtain ⟨p,k,xs,rfl,rfl,hq,hn,q⟩:=q
 cases rx
 obtain ⟨t,rfl⟩:=ry
 obtain ⟨its,r,pt,hz⟩:=I.tuple hq
 have hl:=r.length
 obtain ⟨⟨cls,dd,data,sl⟩,ho,hc,n,hd⟩:=id pt
 simp only at hc hd
 subst hc hd
 have hne:its.toArray.isEmpty=false:=by
  cases its with
  | nil=>cases xs with
   | nil=>exact absurd rfl hn
   | cons _ _=>simp at hl
  | cons _ _=>simp
 refine wpAny_binaryOp_repeat_ref (T:="tuple") (U:="int") (by decide) ⟨_,ho,rfl⟩ (λs'=>typeIs_int s' k t) zcI F.fills_int_mul F.slot_int_rmul zef F.slot_int_index.lookup
  (call_meets F.slot_int_rmul (typeIs_int s k t) F.entry_int_rmul (F.args_int_rmul_2 _ _) (zfG k t p its.toArray n dd sl)
   ⟨ho,rfl,⟨_,ho,rfl⟩,?_⟩)
 rcases q with ⟨rfl,q⟩ | ⟨rfl,q⟩ | ⟨k1,k2,k3,q⟩
 ·exact call_meets F.slot_tuple_mul ⟨_,ho,rfl⟩ F.entry_tuple_mul (F.args_tuple_mul_2 _ _) (zfn t p its.toArray n dd sl) ⟨ho,⟨.ref p,H,I,rfl,q⟩⟩
 ·refine call_meets F.slot_tuple_mul ⟨_,ho,rfl⟩ F.entry_tuple_mul (F.args_tuple_mul_2 _ _) (zfi t p its.toArray n dd sl hne) ⟨ho,?_⟩
  have hf:H s.heap.objs.size=none:=I.hok.fresh (Nat.le_refl _)
  refine ⟨.ref s.heap.objs.size,upd H s.heap.objs.size (.tup []),I.laid (t':=s.toks) (λb u e=>Heap.get?_push_of_some _ e) (Nat.le_refl _) ?_,rfl,q _ hf⟩
  exact ⟨Nat.zero_le _,[],.nil,zb8.new _ _⟩
 ·refine call_meets F.slot_tuple_mul ⟨_,ho,rfl⟩ F.entry_tuple_mul (F.args_tuple_mul_2 _ _) (ze7 k t p its.toArray n dd sl hne k1 k2 (by rw [List.size_toArray,<-hl];exact k3)) ⟨ho,?_⟩
  have hf:H s.heap.objs.size=none:=I.hok.fresh (Nat.le_refl _)
  have e:(List.replicate k.toNat its.toArray).foldl (·++·) #[]=((List.replicate k.toNat its).flatten).toArray:=by
   apply Array.ext'
   rw [zcL]
   simp
  rw [e]
  refine ⟨.ref s.heap.objs.size,upd H s.heap.objs.size (.tup (List.replicate k.toNat xs).flatten),I.laid (t':=s.toks) (λb u e=>Heap.get?_push_of_some _ e) (Nat.le_refl _) ?_,rfl,q _ hf⟩
  exact ⟨by rw [zku];exact k3,_,Vals.rep r _,zb8.new _ _⟩
theorem zn5:OpD X (binaryOp .Mult) (bop .mul):=by
 intro pins s σ H v u v' u' Q I rv ru q
 obtain ⟨μ,h,a,b,z,R0,qa,qb,e,k⟩:=q
 cases a with
 | int i=>
  cases b with
  | int j=>
   simp only [RdD,RepD] at qa qb
   change (if _=true then _ else _)=some _ at e
   split at e
   ·rename_i hf
    cases e
    refine zol pins s σ H v u v' u' Q I rv ru ⟨i,j,qa,qb,?_,k μ H _ Stp.refl R0 (by simp only [RepD])⟩
    rw [Bool.or_eq_true] at hf
    rcases hf with hf | hf
    ·simp only [zgu,Bool.and_eq_true] at hf
     exact .inl ⟨of_decide_eq_true hf.1,of_decide_eq_true hf.2⟩
    ·simp only [zgu,Bool.and_eq_true] at hf
     exact .inr ⟨of_decide_eq_true hf.1,of_decide_eq_true hf.2⟩
   ·cases e
  | _=>exact zag e
 | tup xs=>
  cases b with
  | int j=>
   simp only [RdD,RepD] at qa qb
   obtain ⟨p,vs,rfl,q1,z1⟩:=qa
   have l1:=z1.length
   change (if _=true then _ else _)=some _ at e
   split at e
   ·cases e
   ·rename_i hne
    cases e
    simp only [Bool.or_eq_true,Bool.not_eq_true',not_or,decide_eq_true_eq] at hne
    obtain ⟨⟨⟨n1,n2⟩,n3⟩,n4⟩:=hne
    have n4:fit (xs.length*j.toNat)=true:=by simpa using n4
    have n4:xs.length*j.toNat<=sizeLine:=of_decide_eq_true n4
    have hn:vs≠[]:=by
     rintro rfl
     cases xs with
     | nil=>simp at n1
     | cons _ _=>simp at l1
    by_cases h0:j=0
    ·subst h0
     refine zgQ pins s σ H _ u v' u' Q I rv ru ⟨p,0,vs,rfl,qb,q1,hn,.inr (.inl ⟨rfl,λr hr=>?_⟩)⟩
     have s2:Stp μ h H μ h (upd H r (.tup [])):=Stp.fresh hr
     refine k μ _ (.ref r) s2 (R0.fresh hr) ?_
     simp only [RepD]
     exact ⟨r,[],rfl,SqT.of zaD,.nil⟩
    ·by_cases h1:j=1
     ·subst h1
      refine zgQ pins s σ H _ u v' u' Q I rv ru ⟨p,1,vs,rfl,qb,q1,hn,.inl ⟨rfl,k μ H _ Stp.refl R0 ?_⟩⟩
      simp only [RepD]
      rw [show (List.replicate (1:Int).toNat xs).flatten=xs from by simp]
      exact ⟨p,vs,rfl,q1,z1⟩
     ·refine zgQ pins s σ H _ u v' u' Q I rv ru ⟨p,j,vs,rfl,qb,q1,hn,.inr (.inr ⟨by omega,by omega,by rw [<-l1];exact n4,λr hr=>?_⟩)⟩
      have s2:Stp μ h H μ h (upd H r (.tup (List.replicate j.toNat vs).flatten)):=Stp.fresh hr
      refine k μ _ (.ref r) s2 (R0.fresh hr) ?_
      simp only [RepD]
      exact ⟨r,_,rfl,SqT.of zaD,RepDs.stp s2 R0 (RepDs.rep z1 _)⟩
  | _=>exact zag e
 | _=>cases b<;>exact zag e
theorem zhu {A0:Addr->Prop} {H:Hp} {K:PySem.W.Frag} {a:D} {v:V} (q:RdD K A0 H a v):decide (v=.non)=zm4 a:=by
 cases a with
 | non=>simp only [RdD,RepD] at q;subst q;rfl
 | bl b=>simp only [RdD,RepD] at q;subst q;rfl
 | int b=>simp only [RdD,RepD] at q;subst q;rfl
 | str b=>simp only [RdD,RepD] at q;subst q;rfl
 | tup b=>simp only [RdD,RepD] at q;obtain ⟨p,vs,rfl,_⟩:=q;rfl
 | lst b=>obtain ⟨p,vs,rfl,_⟩:=q;rfl
theorem zmO:OpD X (compareOp .Is) (cop .isN):=by
 intro pins s σ H v u v' u' Q I rv ru q
 obtain ⟨μ,h,a,b,z,R0,qa,qb,e,k⟩:=q
 cases b with
 | non=>
  simp only [RdD,RepD] at qb
  replace e:=Option.some.inj e
  subst e
  exact zos pins s σ H v u v' u' Q I rv ru ⟨qb,by rw [zhu qa];exact k μ H _ Stp.refl R0 (by simp only [RepD])⟩
 | bl c=>
  cases a with
  | bl d=>
   simp only [RdD,RepD] at qa qb
   replace e:=Option.some.inj e
   subst e qa qb
   have e1:v'=Value.bool d:=rv
   have e2:u'=Value.bool c:=ru
   subst e1 e2
   exact PyProof.Rows.is_bool ⟨.bl (d==c),H,I,rfl,k μ H _ Stp.refl R0 (by simp only [RepD])⟩
  | _=>exact zag e
 | _=>cases a<;>exact zag e
theorem zif:OpD X (compareOp .IsNot) (cop .isnotN):=by
 intro pins s σ H v u v' u' Q I rv ru q
 obtain ⟨μ,h,a,b,z,R0,qa,qb,e,k⟩:=q
 cases b with
 | non=>
  simp only [RdD,RepD] at qb
  replace e:=Option.some.inj e
  subst e
  exact znR pins s σ H v u v' u' Q I rv ru ⟨qb,by rw [zhu qa];exact k μ H _ Stp.refl R0 (by simp only [RepD])⟩
 | bl c=>
  cases a with
  | bl d=>
   simp only [RdD,RepD] at qa qb
   replace e:=Option.some.inj e
   subst e qa qb
   have e1:v'=Value.bool d:=rv
   have e2:u'=Value.bool c:=ru
   subst e1 e2
   exact PyProof.Rows.isnot_bool ⟨.bl (d != c),H,I,rfl,k μ H _ Stp.refl R0 (by simp only [RepD])⟩
  | _=>exact zag e
 | _=>cases a<;>exact zag e
theorem zkw {α:Type} {xs:List α} {i:Int} {x:α} (e:at' xs i=some x):∃ j,ixN xs.length i=some j/\xs[j]?=some x:=by
 unfold at' at e
 cases q:ixn xs.length i with
 | none=>rw [q] at e;cases e
 | some j=>rw [q] at e;exact ⟨j,q,e⟩
theorem ix':IxR X (λv u H Q=>∃ μ h a b z,Rep X.K μ h H/\RdD X.K (Live μ h) H a v/\RdD X.K (Live μ h) H b u/\idxD a b=some z/\∀ μ' H' w,Stp μ h H μ' h H'->Rep X.K μ' h H'->RepD X.K (Live μ' h) H' z w->Q w H'):=by
 intro value slice pins s σ H v u v' u' Q I rv ru q hs
 obtain ⟨μ,h,a,b,z,R0,qa,qb,e,k⟩:=q
 cases a with
 | tup xs=>
  cases b with
  | int i=>
   simp only [RdD,RepD] at qa qb
   obtain ⟨p,vs,rfl,q1,z1⟩:=qa
   obtain ⟨j,e1,e2⟩:=zkw (show at' xs i=some z from e)
   obtain ⟨w,e3,qw⟩:=z1.get e2
   refine zoX value slice pins s σ H _ u v' u' Q I rv ru ⟨p,vs,i,w,rfl,qb,q1,?_,k μ H w Stp.refl R0 qw⟩ hs
   unfold atI
   rw [<-z1.length,e1]
   exact e3
  | _=>exact zag e
 | lst xs=>
  cases b with
  | int i=>
   simp only [RdD,RepD] at qb
   obtain ⟨p,vs,rfl,q1,z1⟩:=qa
   obtain ⟨j,e1,e2⟩:=zkw (show at' xs i=some z from e)
   obtain ⟨w,e3,qw⟩:=z1.get e2
   refine znG value slice pins s σ H _ u v' u' Q I rv ru ⟨p,vs,i,w,rfl,qb,q1,?_,k μ H w Stp.refl R0 qw⟩ hs
   unfold atI
   rw [<-z1.length,e1]
   exact e3
  | _=>exact zag e
 | str x=>
  cases b with
  | int i=>
   simp only [RdD,RepD] at qa qb
   (delta idxD at e;(try dsimp only at e))
   split at e
   ·rename_i hf
    cases ec:at' x i with
    | none=>rw [ec] at e;cases e
    | some c=>
     rw [ec] at e
     cases e
     obtain ⟨j,e1,e2⟩:=zkw ec
     refine zqk value slice pins s σ H _ u v' u' Q I rv ru ⟨zac x,i,c,qa,qb,by rw [zai];exact of_decide_eq_true hf,?_,k μ H _ Stp.refl R0 (by simp only [RepD];rfl)⟩ hs
     show atI x i=some c
     unfold atI
     rw [e1]
     exact e2
   ·cases e
  | _=>exact zag e
 | _=>exact zag e
theorem zph {a b:Expr} {pos:Pos} {f g:IT.Env->M R} (ha:IE X a f) (hb:IE X b g) (hs:zgP b):IE X (.Subscript a b pos) (λσ=>bnd (f σ) λx=>bnd (g σ) λy=>mD idxD x y):=by
 refine PE.imp (zrB ix' ha hb hs) λσ H Q q=>?_
 obtain ⟨μ,h,env,R0,re,r,h',e,k⟩:=q
 simp only [mD,zae,zaf,za7] at e
 obtain ⟨x,h1,e1,y,h2,e2,dx,h3,e3,dy,h4,e4,z,h5,⟨e5,rfl⟩,rfl,rfl⟩:=e
 refine ⟨μ,h,env,R0,re,x,h1,e1,λμ1 H1 v s1 R1 q1=>⟨μ1,h1,env,R1,re.stp s1 R0,y,h2,e2,λμ2 H2 u s2 R2 q2=>?_⟩⟩
 obtain ⟨rfl,zx⟩:=zbN R2 (q1.stp s2 R1) e3
 obtain ⟨rfl,zy⟩:=zbN R2 q2 e4
 exact ⟨μ2,_,dx,dy,z,R2,zx,zy,e5,λμ3 H3 w s3 R3 q3=>k μ3 H3 w ((s1.trans s2).trans s3) R3 q3⟩
end
end IT
set_option linter.all false
set_option maxHeartbeats 4000000
set_option maxRecDepth 100000
namespace HT
open PySem PyProof.Rows
section
variable {prog:Program} {w:World} {A:Around} {E:Value->Shared->Prop} {s:Shared}
theorem getItem_tuple_whole {t sl:Addr} {items:Array Value} {vl vu:Value} {lo hi:Option Int} {Q:Value->Shared->Prop} (ht:IsTup s.heap t items) (hs:s.heap.IsSliceOf sl vl vu .none) (pl:IsPart vl lo) (pu:IsPart vu hi)
  (hw:sIx items.size 0 lo=0/\sIx items.size items.size hi=items.size) (h:Q (.ref t) s):wpAny (model prog w) A (getItem (.ref t) (.ref sl)) Q E s:=by
 obtain ⟨os,hos,hcs,hds⟩:=id hs
 have hTs:s.TypeIs (.ref sl) "slice":=⟨os,hos,hcs⟩
 unfold getItem
 try with_reducible refine wpAny_holding ?_
 first | refine wpAny_bind (wpAny_pure ?_) | skip
 refine wpAny_bind (wpAny_sequenceKey ht.typeIs (by decide) ?_)
 refine wpAny_bind (wpAny_callSpecial?_slot (name:=Str.ofString "__getitem__") ht.typeIs PyProof.Rows.slot_tuple_getitem
  (wpAny_call_entry PyProof.Rows.slot_tuple_getitem ht.typeIs entry_tuple_getitem ?_ (args_tuple_getitem _ _)))
 show wpAny _ _ (Builtin.Tuple.tupleItemsOf (.ref t) >>= _) _ _ s
 refine wpAny_bind (tupleItemsOf_ ht ?_)
 refine wpAny_bind (wpAny_typeOf hTs ?_)
 rw [if_pos (by decide)]
 refine wpAny_bind (zb3 hs pl pu ?_)
 have hyes:(((sIx items.size 0 lo:Nat):Int)==0&&(1:Int)==1&&(sIx items.size items.size hi-sIx items.size 0 lo)==items.size)=true:=by
  rw [hw.1,hw.2]
  simp
 show wpAny _ _ (if (((sIx items.size 0 lo:Nat):Int)==0&&(1:Int)==1&&(sIx items.size items.size hi-sIx items.size 0 lo)==items.size)=true then _ else _) _ _ s
 rw [if_pos hyes]
 unfold Builtin.Tuple.tupleIsExact
 refine wpAny_bind (wpAny_bind (wpAny_typeOf ht.typeIs (wpAny_pure ?_)))
 rw [if_pos (by decide)]
 first
  | exact wpAny_bind (wpAny_rule (wpAny_pure ⟨_,rfl,wpAny_pure h⟩))
  | exact wpAny_bind (wpAny_rule (wpAny_bind (wpAny_pure (wpAny_pure ⟨_,rfl,wpAny_pure h⟩))))
  | exact wpAny_bind (wpAny_rule (wpAny_bind (wpAny_pure ⟨_,rfl,wpAny_pure h⟩)))
end
end HT
namespace IT
open PySem PySem.Spec L2
section
variable {X:Cx}
theorem znh:SlR X (λx lo hi H Q=>∃ a xs,x=.ref a/\SqT X.K H a xs/\(HT.sIx xs.length 0 lo=0/\HT.sIx xs.length xs.length hi=xs.length)/\Q (.ref a) H):=by
 intro pins s σ H x v vl vu lo hi sl Q I rx hs pl pu h
 obtain ⟨a,xs,rfl,hx,hw,q⟩:=h
 cases rx
 obtain ⟨its,r,ht,hz⟩:=I.tuple hx
 have hlen:its.toArray.size=xs.length:=by rw [List.size_toArray];exact r.length.symm
 refine ⟨"tuple",_,PyProof.Rows.slot_tuple_getitem.lookup,ht.typeIs,?_⟩
 exact HT.getItem_tuple_whole ht hs pl pu (by rw [hlen];exact hw) ⟨.ref a,H,I,rfl,q⟩
theorem zhv (n d:Nat) (o:Option Int):sIx n d o=HT.sIx n d o:=by cases o<;>rfl
theorem RepDs.cut {K:PySem.W.Frag} {A:Addr->Prop} {H:Hp} {xs:List D} {vs:List V} (q:RepDs K A H xs vs) (lo hi:Option Int):RepDs K A H (IT.cut xs lo hi) (cutV vs lo hi):=by
 unfold IT.cut cutV
 rw [zhv,zhv,q.length]
 exact (q.drop _).take _
theorem sl':SlR X (λv lo hi H Q=>∃ μ h a z,Rep X.K μ h H/\RdD X.K (Live μ h) H a v/\cutD a lo hi=some z/\∀ μ' H' w,Stp μ h H μ' h H'->Rep X.K μ' h H'->RepD X.K (Live μ' h) H' z w->Q w H'):=by
 intro pins s σ H x v vl vu lo hi sl Q I rx hs pl pu q
 obtain ⟨μ,h,a,z,R0,qa,e,k⟩:=q
 cases a with
 | tup xs=>
  simp only [RdD,RepD] at qa
  obtain ⟨p,vs,rfl,q1,z1⟩:=qa
  cases e
  by_cases hw:HT.sIx vs.length 0 lo=0/\HT.sIx vs.length vs.length hi=vs.length
  ·refine znh pins s σ H _ v vl vu lo hi sl Q I rx hs pl pu ⟨p,vs,rfl,q1,hw,k μ H _ Stp.refl R0 ?_⟩
   simp only [RepD]
   refine ⟨p,vs,rfl,q1,?_⟩
   have e2:cut xs lo hi=xs:=by
    unfold cut
    rw [zhv,zhv,z1.length,hw.1,hw.2,List.drop_zero,Nat.sub_zero,<-z1.length,List.take_length]
   rw [e2]
   exact z1
  ·refine zqA pins s σ H _ v vl vu lo hi sl Q I rx hs pl pu ⟨p,vs,rfl,q1,hw,λr hr=>?_⟩
   have s2:Stp μ h H μ h (upd H r (.tup (cutV vs lo hi))):=Stp.fresh hr
   refine k μ _ (.ref r) s2 (R0.fresh hr) ?_
   simp only [RepD]
   exact ⟨r,cutV vs lo hi,rfl,SqT.of zaD,RepDs.stp s2 R0 (z1.cut lo hi)⟩
 | lst xs=>
  obtain ⟨p,vs,rfl,q1,z1⟩:=qa
  cases e
  refine zn2 pins s σ H _ v vl vu lo hi sl Q I rx hs pl pu ⟨p,vs,rfl,q1,λr hr=>?_⟩
  have s2:Stp μ h H μ h (upd H r (.lst (cutV vs lo hi))):=Stp.fresh hr
  refine k μ _ (.ref r) s2 (R0.fresh hr) ?_
  simp only [RepD]
  refine ⟨r,cutV vs lo hi,rfl,.inl ⟨λl=>?_,.inl zaD⟩,RepDs.stp s2 R0 (z1.cut lo hi)⟩
  obtain ⟨ws,w,_⟩:=R0.liveAt l
  rw [hr] at w;cases w
 | str xs=>
  (delta cutD at e;(try dsimp only at e))
  split at e
  ·rename_i hf
   cases e
   simp only [RdD,RepD] at qa
   subst qa
   obtain ⟨t,rfl⟩:=(show ∃ t',v=Value.str (zac xs) t' from rx)
   have hz:(zac xs).length<=sizeLine:=by rw [zai];exact of_decide_eq_true hf
   have fin:∀ t' k',EP X pins σ Q (.str (Txt.slice (zac xs) lo hi) t') { s with toks:=k' }:=λt' k'=>⟨.str (Txt.slice (zac xs) lo hi),H,I.tok _,⟨_,rfl⟩,k μ H _ Stp.refl R0 (by rw [zjb];simp only [RepD])⟩
   obtain ⟨os,hos,hcs,hds⟩:=id hs
   have part:∀ {v:Value} {o:Option Int},IsPart v o->∃ p:Option (Int×Tok),v=partValue p/\p.map (·.1)=o:=by
    intro v o p
    cases p with
    | none=>exact ⟨none,rfl,rfl⟩
    | int i t=>exact ⟨some (i,t),rfl,rfl⟩
   obtain ⟨p1,rfl,e1⟩:=part pl
   obtain ⟨p2,rfl,e2⟩:=part pu
   refine ⟨"str",_,PySem.F.slot_str_getitem.lookup,typeIs_str _ _ _,wpAny_getItem_str_slice (l:=p1) (u:=p2) (st:=none) ⟨os,hos,hcs,hds⟩ rfl ?_⟩
   unfold sliceMade slicePicked
   rw [e1,e2]
   exact post_val_or_str ⟨Nat.le_trans (Txt.slice_le _ lo hi) hz,fin⟩
  ·cases e
 | _=>cases e
inductive tO (K:PySem.W.Frag) (f:IT.Env->M R) (σ:St) (H:Hp) (Q:Option Int->Hp->Prop):Prop where
 | mk (μ:List Addr) (h:Sto) (env:IT.Env) (R0:Rep K μ h H) (re:RepE K μ h H env σ) (d:D) (h':Sto) (o:Option Int) (e:f env h=some (.d d,h')) (ep:part d=some o) (k:∀ μ' H',Stp μ h H μ' h' H'->Rep K μ' h' H'->Q o H')
theorem PO.imp {oe:Option Expr} {t t':TO} (h:PO X oe t) (i:∀ σ H Q,t' σ H Q->t σ H Q):PO X oe t':=λpins s σ H Q I q=>h pins s σ H Q I (i σ H Q q)
theorem zmA:PO X none (tO X.K λ_=>ok (.d .non)):=by
 refine PO.imp zm0 λσ H Q q0=>?_
 obtain ⟨μ,h,env,R0,re,d,h',o,e,ep,k⟩:=q0
 simp only [zaf,R.d.injEq] at e
 obtain ⟨rfl,rfl⟩:=e
 simp only [part,Option.some.injEq] at ep
 subst ep
 exact k μ H Stp.refl R0
theorem ziA {e:Expr} {f:IT.Env->M R} (h:IE X e f):PO X (some e) (tO X.K f):=by
 intro pins s σ H Q I ⟨μ,h0,env,R0,re,d,h',o,ef,ep,k⟩
 rw [evalPart_some]
 refine thn (h pins s σ H (λx H1=>(∃ i,x=.int i/\Q (some i) H1)\/(x=.non/\Q none H1)) I ⟨μ,h0,env,R0,re,.d d,h',ef,λμ1 H1 v s1 R1 q1=>?_⟩) λu s1 ⟨x,H1,I1,r1,q1⟩=>?_
 ·cases d with
  | int i=>
   simp only [RepR,RepD] at q1
   simp only [part,Option.some.injEq] at ep
   subst ep
   exact .inl ⟨i,q1,k μ1 H1 s1 R1⟩
  | non=>
   simp only [RepR,RepD] at q1
   simp only [part,Option.some.injEq] at ep
   subst ep
   exact .inr ⟨q1,k μ1 H1 s1 R1⟩
  | _=>simp [part] at ep
 ·rcases q1 with ⟨i,rfl,q⟩ | ⟨rfl,q⟩
  ·obtain ⟨t,rfl⟩:=r1
   exact ⟨some i,H1,I1,.int i t,q⟩
  ·cases r1
   exact ⟨none,H1,I1,.none,q⟩
theorem zqu {a:Expr} {lo hi:Option Expr} {p2 pos:Pos} {f g k:IT.Env->M R} (ha:IE X a f) (hl:PO X lo (tO X.K g)) (hu:PO X hi (tO X.K k)):IE X (.Subscript a (.Slice lo hi none p2) pos)
  (λσ=>bnd (f σ) λx=>bnd (g σ) λl=>bnd (k σ) λu=>bnd (rd x) λx=>bnd (rd l) λl=>bnd (rd u) λu=>bnd (opt (sliD x l u)) λz=>ok (.d z)):=by
 refine PE.imp (zkX sl' ha hl hu) λσ H Q q0=>?_
 obtain ⟨μ,h,env,R0,re,r,h',e,kk⟩:=q0
 simp only [zae,zaf,za7] at e
 obtain ⟨x,h1,e1,l,h2,e2,u,h3,e3,dx,h4,e4,dl,h5,e5,du,h6,e6,z,h7,⟨e7,rfl⟩,rfl,rfl⟩:=e
 (delta sliD at e7;(try dsimp only at e7))
 have isd:∀ (r:R) (d:D) (h h':Sto),rd r h=some (d,h')->∀ o,part d=some o->r=.d d/\h'=h:=by
  intro r d h h' e o ep
  cases r with
  | d x=>simp only [rd,zaf] at e;exact ⟨by rw [e.1],e.2.symm⟩
  | loc l=>
   obtain ⟨o,_,_,rfl,_⟩:=zd6 e
   simp [part] at ep
 cases pl:part dl with
 | none=>rw [pl] at e7;cases e7
 | some lo'=>
  cases pu:part du with
  | none=>rw [pl,pu] at e7;cases e7
  | some hi'=>
   rw [pl,pu] at e7
   replace e7:cutD dx lo' hi'=some z:=e7
   obtain ⟨rfl,hh5⟩:=isd l dl h4 h5 e5 lo' pl
   subst hh5
   obtain ⟨rfl,hh6⟩:=isd u du _ h6 e6 hi' pu
   subst hh6
   refine ⟨μ,h,env,R0,re,x,h1,e1,λμ1 H1 v s1 R1 q1=>⟨μ1,h1,env,R1,re.stp s1 R0,dl,h2,lo',e2,pl,λμ2 H2 s2 R2=>⟨μ2,h2,env,R2,re.stp (s1.trans s2) R0,du,h3,hi',e3,pu,λμ3 H3 s3 R3=>?_⟩⟩⟩
   obtain ⟨rfl,zx⟩:=zbN R3 ((q1.stp s2 R1).stp s3 R2) e4
   exact ⟨μ3,_,dx,z,R3,zx,e7,λμ4 H4 w s4 R4 q4=>kk μ4 H4 w (((s1.trans s2).trans s3).trans s4) R4 q4⟩
inductive zl7 (K:PySem.W.Frag) (g:List D->Option D) (vs:List V) (H:Hp) (Q:VK):Prop where
 | mk (μ:List Addr) (h:Sto) (ds:List D) (z:D) (R0:Rep K μ h H) (pr:Paired (RdD K (Live μ h) H) ds vs) (e:g ds=some z) (k:∀ μ' H' w,Stp μ h H μ' h H'->Rep K μ' h H'->RepD K (Live μ' h) H' z w->Q w H')
noncomputable def znq (X:Cx) (f:Value) (g:List D->Option D):Prop:=zdH X f λvs H Q=>zl7 X.K g vs H Q
theorem zfh {t:Bi} {fs:IT.Env->M (List R)} {σ:St} {H:Hp} {Q:VK}
  (q:tE X.K (λσ=>bnd (fs σ) λrs=>bnd (rds rs) λds=>bnd (opt (biD t ds)) λz=>ok (.d z)) σ H Q) :
  tAs X.K fs σ H λvs H1=>zl7 X.K (biD t) vs H1 Q:=by
 obtain ⟨μ,h,env,R0,re,r,h',e,k⟩:=q
 simp only [zae,zaf,za7] at e
 obtain ⟨rs,h1,e1,ds,h2,e2,z,h3,⟨e3,rfl⟩,rfl,rfl⟩:=e
 refine ⟨μ,h,env,R0,re,rs,h1,e1,λμ1 H1 vs s1 R1 q1=>?_⟩
 obtain ⟨rfl,zs⟩:=ziL R1 q1 e2
 exact ⟨μ1,_,ds,z,R1,zs,e3,λμ2 H2 w s2 R2 q2=>k μ2 H2 w (s1.trans s2) R2 q2⟩
theorem ziG:znq X (.builtin "len") (biD .len):=by
 intro pins s σ H vs us Q I r q
 obtain ⟨μ,h,ds,z,R0,pr,e,k⟩:=q
 cases pr with
 | nil=>exact zag e
 | @cons d v ds vs qd pr=>
  cases pr with
  | cons _ _=>cases d<;>exact zag e
  | nil=>
   cases d with
   | tup xs=>
    simp only [RdD,RepD] at qd
    obtain ⟨p,ws,rfl,q1,z1⟩:=qd
    replace e:=Option.some.inj e
    subst e
    exact zfC pins s σ H _ us Q I r ⟨.ref p,ws.length,rfl,.inr ⟨ws,q1,rfl⟩,k μ H _ Stp.refl R0 (by simp only [RepD];rw [z1.length])⟩
   | lst xs=>
    obtain ⟨p,ws,rfl,q1,z1⟩:=qd
    replace e:=Option.some.inj e
    subst e
    exact zfC pins s σ H _ us Q I r ⟨.ref p,ws.length,rfl,.inl ⟨ws,q1,rfl⟩,k μ H _ Stp.refl R0 (by simp only [RepD];rw [z1.length])⟩
   | str x=>
    simp only [RdD,RepD] at qd
    subst qd
    (delta biD at e;(try dsimp only at e))
    split at e
    ·rename_i hf
     cases e
     exact zfC pins s σ H _ us Q I r ⟨.str (zac x),x.length,rfl,⟨by rw [zai];exact of_decide_eq_true hf,by rw [zai]⟩,k μ H _ Stp.refl R0 (by simp only [RepD])⟩
    ·cases e
   | _=>exact zag e
theorem zg0:znq X (.type "tuple") (biD .tuple):=by
 intro pins s σ H vs us Q I r q
 obtain ⟨μ,h,ds,z,R0,pr,e,k⟩:=q
 cases pr with
 | nil=>exact zag e
 | @cons d v ds vs qd pr=>
  cases pr with
  | cons _ _=>cases d<;>exact zag e
  | nil=>
   cases d with
   | tup xs=>
    simp only [RdD,RepD] at qd
    obtain ⟨p,ws,rfl,q1,z1⟩:=qd
    replace e:=Option.some.inj e
    subst e
    exact zc1 pins s σ H _ us Q I r ⟨p,ws,rfl,.inr ⟨q1,k μ H _ Stp.refl R0 (by simp only [RepD];exact ⟨p,ws,rfl,q1,z1⟩)⟩⟩
   | lst xs=>
    obtain ⟨p,ws,rfl,q1,z1⟩:=qd
    replace e:=Option.some.inj e
    subst e
    refine zc1 pins s σ H _ us Q I r ⟨p,ws,rfl,.inl ⟨q1,λl hl=>?_⟩⟩
    have s2:Stp μ h H μ h (upd H l (.tup ws)):=Stp.fresh hl
    refine k μ _ (.ref l) s2 (R0.fresh hl) ?_
    simp only [RepD]
    exact ⟨l,ws,rfl,SqT.of zaD,RepDs.stp s2 R0 z1⟩
   | _=>exact zag e
end
end IT
set_option linter.all false
set_option maxHeartbeats 4000000
set_option maxRecDepth 100000
namespace IT
open PySem PySem.Spec L2
section
variable {X:Cx}
theorem Rep.placeL {K:PySem.W.Frag} {μ:List Addr} {h:Sto} {H:Hp} (R0:Rep K μ h H) {l:Nat} {a:Addr} {o:Ob} (e:μ[l]?=some a) (ho:h[l]?=some o) (il:o.isL=true):∃ vs,H a=some (.lst vs)/\RepDs K (Live μ h) H o.items vs:=
 (R0.obj l a o e ho).isL il
theorem Rep.placeO {K:PySem.W.Frag} {μ:List Addr} {h:Sto} {H:Hp} (R0:Rep K μ h H) {l:Nat} {a:Addr} (e:μ[l]?=some a):∃ o,h[l]?=some o:=by
 have hl:l<h.length:=by rw [<-R0.len];exact (List.getElem?_eq_some_iff.mp e).1
 exact ⟨h[l],List.getElem?_eq_getElem hl⟩
theorem zi0 {o e:Expr} {es:List Expr} {name:Str} {apos cpos:Pos} {f:IT.Env->M R} {fs:IT.Env->M (List R)} (ho:IE X o f) (ha:IA X (e::es) fs) (hname:name=("append":Str))
  (hbase:attributeBase o name X.env (eval o X.env)=eval o X.env)
  (hfew:((backTo cpos (starEach (e::es) X.env)).all (λx=>!x.1)&&(backToKw cpos (keywordEach [] X.env)).all (λx=>x.1.isSome)
   && decide ((e::es).length+([]:List Keyword).length+(if ([]:List Keyword).isEmpty then 0 else 1)<30))=true)
  (hline:(apos.endLine==cpos.line)=true) (hs:starEach (e::es) X.env=(false,eval e X.env)::starEach es X.env) (hplain:(backTo cpos (starEach es X.env)).any (·.1)=false) :
  IE X (.Call (.Attribute o name apos) (e::es) [] cpos) (λσ=>bnd (f σ) λx=>bnd (zep x) λ_=>bnd (fs σ) λrs=>meth .append x rs):=by
 subst hname
 refine PE.imp (zh6 PySem.F.plainAttrs_list PySem.F.slot_list_append PySem.F.type_list_append zju ho ha hbase hfew hline hs hplain) λσ H Q q0=>?_
 obtain ⟨μ,h,env,R0,re,r,h',e,k⟩:=q0
 simp only [zae] at e
 obtain ⟨x,h1,e1,_,h1',e0,rs,h2,e2,e3⟩:=e
 obtain ⟨l,o1,rfl,ho1,il1,rfl⟩:=zeK e0
 refine ⟨μ,h,env,R0,re,.loc l,_,e1,λμ1 H1 v s1 R1 q1=>?_⟩
 ·skip
  obtain ⟨a,ea,rfl⟩:=q1
  obtain ⟨vs1,hH1,z1⟩:=R1.placeL ea ho1 il1
  refine ⟨.inl ⟨rfl,vs1,.inl (.inl hH1)⟩,μ1,_,env,R1,re.stp s1 R0,rs,h2,e2,λμ2 H2 ws s2 R2 q2=>?_⟩
  cases q2 with
  | nil=>exact zag e3
  | @cons rr w rs' ws' qr q2=>
   cases q2 with
   | cons _ _=>exact zag e3
   | nil=>
    (delta meth at e3;(try dsimp only at e3);simp only [zae] at e3)
    obtain ⟨d,h3,e4,e5⟩:=e3
    obtain ⟨s3,R3,zd⟩:=ziW R2 qr e4
    have ea2:=s2.pre l a ea
    split at e5
    ·rename_i xs hx
     split at e5
     ·rename_i hlen
      simp only [Option.some.injEq,Prod.mk.injEq] at e5
      obtain ⟨rfl,rfl⟩:=e5
      obtain ⟨vs3,hH3,z3⟩:=R3.placeL ea2 hx rfl
      have hlen':vs3.length<sizeLine:=by
       have:=z3.length
       have h4:xs.length<big:=of_decide_eq_true hlen
       have h5:big=sizeLine:=rfl
       simp only [Ob.items] at this
       omega
      refine ⟨a,vs3,w,rfl,rfl,hH3,hlen',?_⟩
      obtain ⟨s4,R4⟩:=write R3 ea2 hx (z3.app (RepDs.one zd))
      exact k μ2 _ .non (((s1.trans s2).trans s3).trans s4) R4 (by simp only [RepR,RepD])
     ·cases e5
    ·cases e5
noncomputable def spF (K:PySem.W.Frag) (np:Nat) (m:List R->M R):Sp:=λvs H Q _=>vs.length=np/\∃ μ h rs,Rep K μ h H/\zbJ K μ h H rs vs/\Post K μ h H (RepR K) (m rs h) Q
structure zqC (X:Cx) (n:Nat) (x:Str) (np:Nat) (dfl:List D) (m:List R->M R):Prop where
 ex:∃ f fd ps dvs,FnOk X.prog X.w X.K X.mg X.base CX0 n f fd ps (spF X.K np m)/\X.mg x=some (.ref f)/\PySem.W.keepIn X.K (.ref f)=true/\(∀ A H,RepDs X.K A H dfl dvs)/\(∀ j,j<=dfl.length->∃ ds,zaV X.K fd ps ds/\Vals (dvs.drop j) ds)
 fill:∀ rs,m rs=m (zbj np dfl rs)
 len:∀ rs h p,m rs h=some p->(zbj np dfl rs).length=np
theorem zdv {np:Nat} {dfl:List D} {rs:List R} (h:rs.length+dfl.length<np):zbj np dfl rs=rs:=by unfold zbj;rw [if_pos h]
theorem zdc {np:Nat} {dfl:List D} {rs:List R} (h:¬ rs.length+dfl.length<np):zbj np dfl rs=rs++(dfl.drop (rs.length+dfl.length-np)).map R.d:=by unfold zbj;rw [if_neg h]
theorem zbJ.app {K:PySem.W.Frag} {μ:List Addr} {h:Sto} {H:Hp} {rs ss:List R} {vs ws:List V} (a:zbJ K μ h H rs vs) (b:zbJ K μ h H ss ws):zbJ K μ h H (rs++ss) (vs++ws):=by
 induction a with
 | nil=>exact b
 | cons q _ ih=>exact .cons q ih
theorem RepDs.rs {K:PySem.W.Frag} {μ:List Addr} {h:Sto} {H:Hp}:∀ {ds:List D} {vs:List V},RepDs K (Live μ h) H ds vs->zbJ K μ h H (ds.map R.d) vs
 | [],vs,q=>by simp only [RepDs] at q;subst q;exact .nil
 | x::xs,vs,q=>by
  simp only [RepDs] at q
  obtain ⟨v,r,rfl,h1,h2⟩:=q
  exact .cons h1 h2.rs
theorem znt {n np:Nat} {dfl:List D} {x:Str} {m:List R->M R} {e:Expr} {es:List Expr} {p pos:Pos} {fs:IT.Env->M (List R)} (hF:zqC X n x np dfl m) (hr:Room n X.A) (hg:Gl X x) (ha:IA X (e::es) fs) (hf:∀ σ h rs h',fs σ h=some (rs,h')->rs.length=(e::es).length)
  (hdb:(x==("__debug__":Str))=false) (he:starEach (e::es) X.env=(false,eval e X.env)::starEach es X.env) (hpl:(backTo pos (starEach es X.env)).any (·.1)=false) :
  IE X (.Call (.Name x p) (e::es) [] pos) (λσ=>bnd (fs σ) λrs=>m rs):=by
 obtain ⟨f,fd,ps,dvs,F,hm,hk,hd,hb⟩:=hF.ex
 by_cases hj:(e::es).length+dfl.length-np<=dfl.length/\¬ (e::es).length+dfl.length<np
 ·obtain ⟨hj,hj2⟩:=hj
  obtain ⟨ds,hb,hv⟩:=hb _ hj
  refine PE.imp (zjY F hr hg hm hk hb hv zok ha hdb he hpl) λσ H Q q0=>?_
  obtain ⟨μ,h,env,R0,re,r,h',ee,k⟩:=q0
  simp only [zae] at ee
  obtain ⟨rs,h1,e1,e2⟩:=ee
  refine ⟨μ,h,env,R0,re,rs,h1,e1,λμ1 H1 vs s1 R1 q1=>?_⟩
  have hlen:=hF.len _ _ _ e2
  rw [hF.fill rs] at e2
  have qq:zbJ X.K μ1 h1 H1 (zbj np dfl rs) (vs++dvs.drop ((e::es).length+dfl.length-np)):=by
   rw [zdc (by rw [hf _ _ _ _ e1];exact hj2),hf _ _ _ _ e1]
   exact q1.app (RepDs.drop _ (hd _ _)).rs
  exact ⟨by rw [<-qq.length];exact hlen,μ1,h1,zbj np dfl rs,R1,qq,r,h',e2,λμ2 H2 v s2 R2 q2=>k μ2 H2 v (s1.trans s2) R2 q2⟩
 ·obtain ⟨ds,hb,hv⟩:=hb dfl.length (Nat.le_refl _)
  refine PE.imp (zjY F hr hg hm hk hb hv zok ha hdb he hpl) λσ H Q q0=>?_
  obtain ⟨μ,h,env,R0,re,r,h',ee,k⟩:=q0
  simp only [zae] at ee
  obtain ⟨rs,h1,e1,e2⟩:=ee
  refine ⟨μ,h,env,R0,re,rs,h1,e1,λμ1 H1 vs s1 R1 q1=>?_⟩
  exfalso
  have hlen:=hF.len _ _ _ e2
  have hrs:=hf _ _ _ _ e1
  by_cases hs:rs.length+dfl.length<np
  ·rw [zdv hs] at hlen
   omega
  ·rw [zdc hs] at hlen
   simp only [List.length_append,List.length_map,List.length_drop] at hlen
   omega
inductive tG (K:PySem.W.Frag) (t:Tg) (v:V) (σ:St) (H:Hp) (Q:St->Hp->Prop):Prop where
 | mk (μ:List Addr) (h:Sto) (env:IT.Env) (r:R) (env':IT.Env) (R0:Rep K μ h H) (re:RepE K μ h H env σ) (qr:RepR K μ h H r v) (e:zbd t r env h=some (env',h)) (k:∀ σ',RepE K μ h H env' σ'->Q σ' H)
inductive tGs (K:PySem.W.Frag) (ts:List Tg) (vs:List V) (σ:St) (H:Hp) (Q:St->Hp->Prop):Prop where
 | mk (μ:List Addr) (h:Sto) (env:IT.Env) (xs:List D) (env':IT.Env) (R0:Rep K μ h H) (re:RepE K μ h H env σ) (qr:RepDs K (Live μ h) H xs vs) (e:bindTs ts xs env h=some (env',h)) (k:∀ σ',RepE K μ h H env' σ'->Q σ' H)
theorem PG.imp {tg:Expr} {t t':TG} (h:PG X tg t) (i:∀ v σ H Q,t' v σ H Q->t v σ H Q):PG X tg t':=λpins s σ H v u Q I r q=>h pins s σ H v u Q I r (i v σ H Q q)
theorem PGs.imp {tg:List Expr} {t t':TGs} (h:PGs X tg t) (i:∀ v σ H Q,t' v σ H Q->t v σ H Q):PGs X tg t':=λpins s σ H v u Q I r q=>h pins s σ H v u Q I r (i v σ H Q q)
theorem zn8 {i:Nat} {x:Str} {pos:Pos} (hN:X.N.Nodup) (hi:X.N[i]?=some x) (hx:Loc X.env.scope x) (hf:X.fn x=true\/X.env.scope.names.lookup x=some .local):PG X (.Name x pos) (tG X.K (.name i)):=by
 refine PG.imp (zkl hN hi hx hf) λv σ H Q ⟨μ,h,env,r,env',R0,re,qr,e,k⟩=>?_
 simp only [zbd,zaf] at e
 obtain ⟨rfl,_⟩:=e
 exact k _ (re.set i qr)
theorem zni:PGs X [] (tGs X.K []):=by
 refine PGs.imp zjd λvs σ H Q ⟨μ,h,env,xs,env',R0,re,qx,e,k⟩=>?_
 cases xs with
 | nil=>
  simp only [RepDs] at qx
  simp only [bindTs,zaf] at e
  obtain ⟨rfl,_⟩:=e
  exact ⟨qx,k σ re⟩
 | cons _ _=>exact zag e
theorem zbs:∀ (t:Tg) (r:R) (env env':IT.Env) (h h':Sto),zbd t r env h=some (env',h')->h'=h:=by
 intro t
 refine Tg.rec (motive_1:=λt=>∀ (r:R) (env env':IT.Env) (h h':Sto),zbd t r env h=some (env',h')->h'=h)
  (motive_2:=λts=>∀ (xs:List D) (env env':IT.Env) (h h':Sto),bindTs ts xs env h=some (env',h')->h'=h) ?_ ?_ ?_ ?_ t
 ·intro i r env env' h h' e
  simp only [zbd,zaf] at e
  exact e.2.symm
 ·intro ts ih r env env' h h' e
  simp only [zbd,zae] at e
  obtain ⟨d,h1,e1,e2⟩:=e
  have hh:h1=h:=by
   cases r with
   | d x=>simp only [rd,zaf] at e1;exact e1.2.symm
   | loc l=>
    exact (zd6 e1).choose_spec.2.2.2
  subst hh
  cases d with
  | tup xs=>exact ih xs env env' _ h' e2
  | _=>cases e2
 ·intro xs env env' h h' e
  cases xs with
  | nil=>simp only [bindTs,zaf] at e;exact e.2.symm
  | cons _ _=>exact zag e
 ·intro t ts iht ihts xs env env' h h' e
  cases xs with
  | nil=>exact zag e
  | cons x xs=>
   simp only [bindTs,zae] at e
   obtain ⟨env1,h1,e1,e2⟩:=e
   have:=iht _ _ _ _ _ e1
   subst this
   exact ihts _ _ _ _ _ e2
theorem zdr:∀ (ts:List Tg) (xs:List D) (env env':IT.Env) (h h':Sto),bindTs ts xs env h=some (env',h')->xs.length=ts.length
 | [],[],_,_,_,_,_=>rfl
 | [],_::_,_,_,_,_,e=>by exact zag e
 | _::_,[],_,_,_,_,e=>by exact zag e
 | t::ts,x::xs,env,env',h,h',e=>by
  simp only [bindTs,zae] at e
  obtain ⟨env1,h2,e3,e4⟩:=e
  simp only [List.length_cons]
  rw [zdr ts xs env1 env' h2 h' e4]
theorem zkP {e:Expr} {es:List Expr} {t:Tg} {ts:List Tg} (h1:PG X e (tG X.K t)) (h2:PGs X es (tGs X.K ts)) (hs:(assignEach (e::es) X.env).map (·.2)=assign e X.env::(assignEach es X.env).map (·.2)):PGs X (e::es) (tGs X.K (t::ts)):=by
 refine PGs.imp (ze6 h1 h2 hs) λvs σ H Q ⟨μ,h,env,xs,env',R0,re,qx,e,k⟩=>?_
 cases xs with
 | nil=>exact zag e
 | cons x xs=>
  simp only [RepDs] at qx
  obtain ⟨v,r,rfl,q1,q2⟩:=qx
  simp only [bindTs,zae] at e
  obtain ⟨env1,h1',e1,e2⟩:=e
  have:=zbs _ _ _ _ _ _ e1
  subst this
  refine ⟨v,r,rfl,μ,_,env,.d x,env1,R0,re,q1,e1,λσ1 re1=>⟨μ,_,env1,xs,env',R0,re1,q2,e2,k⟩⟩
theorem zoF {es:List Expr} {n:Nat} {pos:Pos} {ts:List Tg} (hc:X.calm=true) (h:PGs X es (tGs X.K ts)) (hl:es.length=ts.length) (hn:(assignEach es X.env).length=es.length) (hst:(assignEach es X.env).findIdx? (·.1)=none):PG X (.Tuple es n pos) (tG X.K (.tup ts)):=by
 refine PG.imp (zl4 (n:=es.length) hc h hn hst) λv σ H Q ⟨μ,h,env,r,env',R0,re,qr,e,k⟩=>?_
 simp only [zbd,zae] at e
 obtain ⟨d,h1,e1,e2⟩:=e
 obtain ⟨rfl,zd⟩:=zbN R0 qr e1
 cases d with
 | tup xs=>
  simp only [RdD,RepD] at zd
  obtain ⟨a,vs,rfl,q1,z1⟩:=zd
  refine ⟨a,vs,rfl,q1,?_,μ,_,env,xs,env',R0,re,z1,e2,k⟩
  rw [<-z1.length,hl]
  exact zdr _ _ _ _ _ _ e2
 | _=>cases e2
noncomputable def RepI (K:PySem.W.Frag) (μ:List Addr) (h:Sto) (H:Hp):Ite->V->Prop
 | .r r,v=>RepR K μ h H r v
 | .en i r,v=>∃ p w,v=.ref p/\H p=some (.tup [.int i,w])/\RepR K μ h H r w
inductive tGI (K:PySem.W.Frag) (t:Tg) (v:V) (σ:St) (H:Hp) (Q:St->Hp->Prop):Prop where
 | mk (μ:List Addr) (h:Sto) (env:IT.Env) (x:Ite) (env':IT.Env) (R0:Rep K μ h H) (re:RepE K μ h H env σ) (qx:RepI K μ h H x v) (e:za9 t x env h=some (env',h)) (k:∀ σ',RepE K μ h H env' σ'->Q σ' H)
inductive tGe (K:PySem.W.Frag) (a b:Tg) (vs:List V) (σ:St) (H:Hp) (Q:St->Hp->Prop):Prop where
 | mk (μ:List Addr) (h:Sto) (env:IT.Env) (i:Int) (r:R) (w:V) (env1 env':IT.Env) (R0:Rep K μ h H) (re:RepE K μ h H env σ) (ev:vs=[.int i,w]) (qr:RepR K μ h H r w) (e1:zbd a (.d (.int i)) env h=some (env1,h)) (e2:zbd b r env1 h=some (env',h)) (k:∀ σ',RepE K μ h H env' σ'->Q σ' H)
theorem zrf {ea eb:Expr} {a b:Tg} (ha:PG X ea (tG X.K a)) (hb:PG X eb (tG X.K b)) (h1:(assignEach [ea,eb] X.env).map (·.2)=assign ea X.env::(assignEach [eb] X.env).map (·.2)) (h2:(assignEach [eb] X.env).map (·.2)=assign eb X.env::(assignEach [] X.env).map (·.2)):PGs X [ea,eb] (tGe X.K a b):=by
 refine PGs.imp (ze6 ha (ze6 hb zjd h2) h1) λvs σ H Q q0=>?_
 obtain ⟨μ,h,env,i,r,w,env1,env',R0,re,rfl,qr,e1,e2,k⟩:=q0
 exact ⟨.int i,[w],rfl,μ,h,env,.d (.int i),env1,R0,re,by simp only [RepR,RepD],e1,λσ1 re1=>⟨w,[],rfl,μ,h,env1,r,env',R0,re1,qr,e2,λσ2 re2=>⟨rfl,k σ2 re2⟩⟩⟩
theorem zf5 {t:Tg} {x:Ite} {env env':IT.Env} {h h':Sto} (e:za9 t x env h=some (env',h')):h'=h:=by
 cases x with
 | r r=>rw [za9] at e;exact zbs _ _ _ _ _ _ e
 | en i r=>
  match t,e with
  | .tup [a,b],e=>
   rw [za9,zae] at e
   obtain ⟨env1,h1,e1,e2⟩:=e
   have:=zbs _ _ _ _ _ _ e1
   subst this
   exact zbs _ _ _ _ _ _ e2
  | .name _,e=>exact zag e
  | .tup [],e=>exact zag e
  | .tup [_],e=>exact zag e
  | .tup (_::_::_::_),e=>exact zag e
theorem zlp {e:Expr} {i:Nat} (hg:PG X e (tG X.K (.name i))):PG X e (tGI X.K (.name i)):=by
 refine PG.imp hg λv σ H Q q0=>?_
 obtain ⟨μ,h,env,x,env',R0,re,qx,eb,k⟩:=q0
 cases x with
 | r r=>exact ⟨μ,h,env,r,env',R0,re,qx,by rw [za9] at eb;exact eb,k⟩
 | en i r=>exact zag eb
theorem zmy {e:Expr} {ts:List Tg} (hn:ts.length≠2) (hg:PG X e (tG X.K (.tup ts))):PG X e (tGI X.K (.tup ts)):=by
 refine PG.imp hg λv σ H Q q0=>?_
 obtain ⟨μ,h,env,x,env',R0,re,qx,eb,k⟩:=q0
 cases x with
 | r r=>exact ⟨μ,h,env,r,env',R0,re,qx,by rw [za9] at eb;exact eb,k⟩
 | en i r=>
  match ts,hn,eb with
  | [],_,eb=>exact zag eb
  | [_],_,eb=>exact zag eb
  | [_,_],hn,_=>exact absurd rfl hn
  | _::_::_::_,_,eb=>exact zag eb
theorem znP {ea eb:Expr} {n:Nat} {pos:Pos} {a b:Tg} (hc:X.calm=true) (hs:PGs X [ea,eb] (tGs X.K [a,b])) (he:PGs X [ea,eb] (tGe X.K a b)) (hn:(assignEach [ea,eb] X.env).length=2) (hst:(assignEach [ea,eb] X.env).findIdx? (·.1)=none):PG X (.Tuple [ea,eb] n pos) (tGI X.K (.tup [a,b])):=by
 have both:PGs X [ea,eb] (λvs σ H Q=>tGs X.K [a,b] vs σ H Q\/tGe X.K a b vs σ H Q):=λpins s σ H v u Q I r q=>by
  rcases q with q | q
  ·exact hs pins s σ H v u Q I r q
  ·exact he pins s σ H v u Q I r q
 refine PG.imp (zl4 (n:=2) hc both hn hst) λv σ H Q q0=>?_
 obtain ⟨μ,h,env,x,env',R0,re,qx,eb,k⟩:=q0
 cases x with
 | r r=>
  rw [za9] at eb
  simp only [zbd,zae] at eb
  obtain ⟨d,h1,e1,e2⟩:=eb
  obtain ⟨rfl,zd⟩:=zbN R0 qx e1
  cases d with
  | tup xs=>
   simp only [RdD,RepD] at zd
   obtain ⟨p,vs,rfl,q1,z1⟩:=zd
   refine ⟨p,vs,rfl,q1,?_,.inl ⟨μ,_,env,xs,env',R0,re,z1,e2,k⟩⟩
   rw [<-z1.length]
   exact zdr _ _ _ _ _ _ e2
  | _=>cases e2
 | en i r=>
  obtain ⟨p,w,rfl,hp,qr⟩:=qx
  rw [za9,zae] at eb
  obtain ⟨env1,h1,e1,e2⟩:=eb
  have:=zbs _ _ _ _ _ _ e1
  subst this
  exact ⟨p,[.int i,w],rfl,SqT.of hp,rfl,.inr ⟨μ,_,env,i,r,w,env1,env',R0,re,rfl,qr,e1,e2,k⟩⟩
end
end IT
set_option linter.all false
set_option maxHeartbeats 4000000
set_option maxRecDepth 100000
namespace IT
open PySem PySem.Spec L2
structure Wlk (K:PySem.W.Frag) (J:L2.It) (w:Wk) (μ:List Addr) (h:Sto) (H:Hp):Prop where
 go:∀ μ1 h1 H1 (i:Nat) x,Stp μ h H μ1 h1 H1->Rep K μ1 h1 H1->zbb w.l h h1=true->w.xs[i]?=some x->J.go i H1/\∀ v H',J.yld i H1 v H'->Stp μ1 h1 H1 μ1 h1 H'/\Rep K μ1 h1 H'/\RepI K μ1 h1 H' x v
 stop:∀ μ1 h1 H1,Stp μ h H μ1 h1 H1->Rep K μ1 h1 H1->zbb w.l h h1=true->J.stop w.xs.length H1
theorem zfU {xs:List D} {i:Nat} {x:Ite} (e:(xs.map dI)[i]?=some x):∃ d,xs[i]?=some d/\x=.r (.d d):=by
 rw [List.getElem?_map,Option.map_eq_some_iff] at e
 obtain ⟨d,e1,e2⟩:=e
 exact ⟨d,e1,e2.symm⟩
section
variable {K:PySem.W.Frag} {μ:List Addr} {h:Sto} {H:Hp}
theorem zhr {a:Addr} {xs:List D} {vs:List V} (R0:Rep K μ h H) (q:LsR K (Live μ h) H a vs) (z:RepDs K (Live μ h) H xs vs):Wlk K (Itl K a) ⟨xs.map dI,none⟩ μ h H:=by
 refine ⟨λμ1 h1 H1 i x st R1 _ e=>?_,λμ1 h1 H1 st R1 _=>?_⟩
 ·obtain ⟨d,ed,rfl⟩:=zfU e
  have q1:=st.lsR q
  have z1:=RepDs.stp st R0 z
  obtain ⟨v,e1,z2⟩:=z1.get ed
  refine ⟨⟨vs,v,q1.sq,e1⟩,λv' H' ⟨hH,hv⟩=>?_⟩
  subst hH
  have:=hv vs q1.sq
  rw [e1] at this
  cases this
  exact ⟨Stp.refl,R1,z2⟩
 ·exact ⟨vs,(st.lsR q).sq,by rw [List.length_map,<-z.length];exact Nat.le_refl _⟩
theorem zmN {a:Addr} {xs:List D} {vs:List V} (R0:Rep K μ h H) (q:SqT K H a vs) (z:RepDs K (Live μ h) H xs vs):Wlk K (Itt K a) ⟨xs.map dI,none⟩ μ h H:=by
 have qs:∀ μ1 h1 H1,Stp μ h H μ1 h1 H1->SqT K H1 a vs:=λμ1 h1 H1 st=>q.imp (st.rdT R0 a vs) λz=>z
 refine ⟨λμ1 h1 H1 i x st R1 _ e=>?_,λμ1 h1 H1 st R1 _=>?_⟩
 ·obtain ⟨d,ed,rfl⟩:=zfU e
  have q1:=qs _ _ _ st
  have z1:=RepDs.stp st R0 z
  obtain ⟨v,e1,z2⟩:=z1.get ed
  refine ⟨⟨vs,v,q1,e1⟩,λv' H' ⟨hH,hv⟩=>?_⟩
  subst hH
  have:=hv vs q1
  rw [e1] at this
  cases this
  exact ⟨Stp.refl,R1,z2⟩
 ·exact ⟨vs,qs _ _ _ st,by rw [List.length_map,<-z.length];exact Nat.le_refl _⟩
theorem Ob.same_isL {o o':Ob} (s:o.same o'=true) (il:o.isL=true):o'.isL=true/\o'.items=o.items:=by
 cases o with
 | lst xs=>simp only [Ob.same,Bool.and_eq_true] at s;exact ⟨s.1,(D.sames_eq _ _ s.2).symm⟩
 | fro xs=>simp only [Ob.same,Bool.and_eq_true] at s;exact ⟨s.1,(D.sames_eq _ _ s.2).symm⟩
 | ins _ _=>cases il
 | ols _=>cases il
 | dic _=>cases il
 | dfr _=>cases il
theorem zdZ:∀ {a b:List (D×D)},zbr a b=true->a=b
  | [],[],_=>rfl
  | [],_::_,h=>by cases h
  | _::_,[],h=>by cases h
  | (p1,p2)::r,(q1,q2)::t,h=>by
    simp only [zbr,Bool.and_eq_true] at h
    rw [D.same_eq _ _ h.1.1,D.same_eq _ _ h.1.2,zdZ h.2]
theorem zcA:∀ a:List (D×D),zbr a a=true
 | []=>rfl
 | p::r=>by simp only [zbr,D.same_refl,zcA r,Bool.and_self]
theorem zfD {l:Nat} {h h1:Sto} {o:Ob} (ho:h[l]?=some o) (s:zbb (some l) h h1=true):∃ o',h1[l]?=some o'/\o.same o'=true:=by
 simp only [zbb,ho] at s
 cases q:h1[l]? with
 | none=>rw [q] at s;cases s
 | some o'=>rw [q] at s;exact ⟨o',rfl,s⟩
theorem zj4 {a:Addr} {l:Nat} {o:Ob} (R0:Rep K μ h H) (ea:μ[l]?=some a) (ho:h[l]?=some o) (il:o.isL=true):Wlk K (Itl K a) ⟨o.items.map dI,some l⟩ μ h H:=by
 refine ⟨λμ1 h1 H1 i x st R1 sy e=>?_,λμ1 h1 H1 st R1 sy=>?_⟩
 ·obtain ⟨d,ed,rfl⟩:=zfU e
  obtain ⟨o',ho',eo⟩:=zfD ho sy
  obtain ⟨il',eo⟩:=Ob.same_isL eo il
  obtain ⟨vs,q1,z1⟩:=R1.placeL (st.pre l a ea) ho' il'
  rw [eo] at z1
  obtain ⟨v,e1,z2⟩:=z1.get ed
  refine ⟨⟨vs,v,.inl (.inl q1),e1⟩,λv' H' ⟨hH,hv⟩=>?_⟩
  subst hH
  have:=hv vs (.inl (.inl q1))
  rw [e1] at this
  cases this
  exact ⟨Stp.refl,R1,z2⟩
 ·obtain ⟨o',ho',eo⟩:=zfD ho sy
  obtain ⟨il',eo⟩:=Ob.same_isL eo il
  obtain ⟨vs,q1,z1⟩:=R1.placeL (st.pre l a ea) ho' il'
  rw [eo] at z1
  exact ⟨vs,.inl (.inl q1),by rw [List.length_map,<-z1.length];exact Nat.le_refl _⟩
theorem zeJ {α β:Type} {F:α->β->Prop}:∀ {xs:List α} {ys:List β} {i:Nat} {x:α},Paired F xs ys->xs[i]?=some x->∃ y,ys[i]?=some y/\F x y
 | _,_,_,_,.nil,e=>by simp at e
 | _,_,0,_,.cons r _,e=>by simp at e;subst e;exact ⟨_,rfl,r⟩
 | _,_,i+1,x,.cons _ t,e=>by
  obtain ⟨y,h1,h2⟩:=zeJ (i:=i) (x:=x) t (by simpa using e)
  exact ⟨y,by simpa using h1,h2⟩
theorem zjA {a:Addr} {l:Nat} {ls:List Nat} (R0:Rep K μ h H) (ea:μ[l]?=some a) (ho:h[l]?=some (.ols ls)):Wlk K (Itl K a) ⟨ls.map λl=>.r (.loc l),some l⟩ μ h H:=by
 have at1:∀ μ1 h1 H1,Stp μ h H μ1 h1 H1->Rep K μ1 h1 H1->zbb (some l) h h1=true->∃ vs,H1 a=some (.lst vs)/\Paired (λ(l:Nat) (v:V)=>∃ b,μ1[l]?=some b/\v=.ref b) ls vs:=by
  intro μ1 h1 H1 st R1 sy
  obtain ⟨o',ho',eo⟩:=zfD ho sy
  cases o' with
  | ols ls'=>
   simp only [Ob.same] at eo
   have:=eq_of_beq eo
   subst this
   exact R1.obj l a _ (st.pre l a ea) ho'
  | _=>cases eo
 refine ⟨λμ1 h1 H1 i x st R1 sy e=>?_,λμ1 h1 H1 st R1 sy=>?_⟩
 ·rw [List.getElem?_map,Option.map_eq_some_iff] at e
  obtain ⟨k,e,rfl⟩:=e
  obtain ⟨vs,q1,z1⟩:=at1 _ _ _ st R1 sy
  obtain ⟨v,e1,b,eb,rfl⟩:=zeJ z1 e
  refine ⟨⟨vs,.ref b,.inl (.inl q1),e1⟩,λv' H' ⟨hH,hv⟩=>?_⟩
  subst hH
  have:=hv vs (.inl (.inl q1))
  rw [e1] at this
  cases this
  exact ⟨Stp.refl,R1,b,eb,rfl⟩
 ·obtain ⟨vs,q1,z1⟩:=at1 _ _ _ st R1 sy
  exact ⟨vs,.inl (.inl q1),by rw [List.length_map,<-z1.length];exact Nat.le_refl _⟩
theorem zfO:∀ (n:Nat) (lo:Int) (i:Nat) (x:D),(zbH lo n)[i]?=some x->i<n/\x=.int (lo+i)
 | 0,lo,i,x,e=>by simp [zbH] at e
 | n+1,lo,i,x,e=>by
  cases i with
  | zero=>simp [zbH] at e;exact ⟨by omega,by rw [<-e];simp⟩
  | succ i=>
   simp only [zbH,List.getElem?_cons_succ] at e
   obtain ⟨h1,h2⟩:=zfO n (lo+1) i x e
   refine ⟨by omega,?_⟩
   rw [h2]
   congr 1
   push_cast
   omega
theorem zee:∀ (n:Nat) (lo:Int),(zbH lo n).length=n
 | 0,_=>rfl
 | n+1,lo=>by simp [zbH,zee n]
theorem zm3 (lo:Int) (n:Nat):Wlk K (Itr lo n) ⟨(zbH lo n).map dI,none⟩ μ h H:=by
 refine ⟨λμ1 h1 H1 i x st R1 _ e=>?_,λμ1 h1 H1 st R1 _=>?_⟩
 ·obtain ⟨d,ed,rfl⟩:=zfU e
  obtain ⟨h1',rfl⟩:=zfO n lo i d ed
  exact ⟨h1',λv H' ⟨hH,hv⟩=>by subst hH;exact ⟨Stp.refl,R1,by rw [hv];simp only [RepI,RepR,RepD]⟩⟩
 ·show n<=((zbH lo n).map dI).length
  rw [List.length_map,zee]
  exact Nat.le_refl _
end
noncomputable def Its (x:Str):L2.It:=⟨λi _=>i<x.cps.size,λi H v H'=>H'=H/\∃ c,x.cps[i]?=some c/\v=.str ⟨#[c]⟩,λi _=>x.cps.size<=i⟩
theorem zn0 {K:PySem.W.Frag} {μ:List Addr} {h:Sto} {H:Hp} (x:List Nat):Wlk K (Its (zac x)) ⟨(x.map λc=>D.str [c]).map dI,none⟩ μ h H:=by
 refine ⟨λμ1 h1 H1 i d st R1 _ e=>?_,λμ1 h1 H1 st R1 _=>?_⟩
 ·obtain ⟨d,ed,rfl⟩:=zfU e
  simp only [List.getElem?_map,Option.map_eq_some_iff] at ed
  obtain ⟨c,hc,rfl⟩:=ed
  refine ⟨?_,λv H' ⟨hH,c',hc',hv⟩=>?_⟩
  ·show i<x.toArray.size
   simpa using (List.getElem?_eq_some_iff.mp hc).1
  ·subst hH
   refine ⟨Stp.refl,R1,?_⟩
   have e2:x[i]?=some c':=by simpa [zac] using hc'
   rw [hc] at e2
   cases e2
   rw [hv]
   simp only [RepI,RepR,RepD]
   rfl
 ·show x.toArray.size<=_
  simp
theorem zkV {P:Program} {w:World} {K:PySem.W.Frag} {tg:Expr} (x:Str) (t:Tok) (it:Addr):Turn P w K tg (Its x) [it] it (λi h=>h.IsStrIter it (strIterType x) x t i) where
 mem:=by simp
 obj:=λi h st b hb=>by
  have e:b=it:=by simpa using hb
  subst e
  obtain ⟨o,e,c,d⟩:=st
  exact ⟨o,e,λv z=>by rw [d] at z;cases z⟩
 keep:=λi h h' st k=>by
  obtain ⟨o,e,r⟩:=st
  exact ⟨o,k it (by simp) o e,r⟩
 item:=by
  intro X hP hw hK hc i pins s σ H E I hf st hg
  subst hP hw hK
  obtain ⟨f0,f1,f2,f3,f4,f5⟩:=hf it (by simp)
  have hg':i<x.cps.size:=hg
  obtain ⟨c,hx⟩:∃ c,x.cps[i]?=some c:=⟨x.cps[i]'hg',by simp⟩
  have go:∀ h',h'.IsStrIter it (strIterType x) x t (i+1)->Heap.SameBut it s.heap h'->∃ u,some (Value.str ⟨#[c]⟩ s.toks)=some u ∧
    wpAny (model X.prog X.w) X.A (letOwnedTupleGo tg (.ref it) u) (λ_ s2=>∃ x' H',Inv X pins σ H' s2/\RelV x' u/\(Its x).yld i H x' H'/\s2.heap.IsStrIter it (strIterType x) x t (i+1)/\∀ b∈[it],H' b=none) E { s with heap:=h',toks:=s.toks+1 }:=by
   intro h' st' sb
   have I1:Inv X pins σ H { s with heap:=h',toks:=s.toks+1 }:=I.turned (t':=s.toks+1) (λb o hb e=>(sb.2 b hb).trans e) f0 f1 f3 f4 f5
   obtain ⟨o,e,cl,d⟩:=id st'
   refine ⟨_,rfl,zjF (s:={ s with heap:=h',toks:=s.toks+1 }) e cl d ?_ ⟨.str ⟨#[c]⟩,H,I1,⟨_,rfl⟩,⟨rfl,_,hx,rfl⟩,st',λb hb=>(hf b hb).1⟩⟩
   unfold strIterType
   split<;>decide
  unfold strIterType at st go ⊢
  split at st
  ·rename_i ha
   simp only [ha,if_true] at go ⊢
   exact wpAny_pyNext_ascii_item st hx go
  ·rename_i ha
   simp only [ha] at go ⊢
   exact wpAny_pyNext_wide_item st hx go
 done:=by
  intro X hP hw hK hc i pins s σ H E I hf st hg
  subst hP hw hK
  obtain ⟨f0,f1,f2,f3,f4,f5⟩:=hf it (by simp)
  have hx:x.cps[i]?=none:=by
   have hg':x.cps.size<=i:=hg
   simp;omega
  unfold strIterType at st
  split at st
  ·exact wpAny_pyNext_ascii_end (I.ok.hd hc) st hx λh' eb=>⟨rfl,I.turned (t':=s.toks) (λb o hb e=>eb b o hb e) f0 f1 f3 f4 f5⟩
  ·exact wpAny_pyNext_wide_end (I.ok.hd hc) st hx λh' eb=>⟨rfl,I.turned (t':=s.toks) (λb o hb e=>eb b o hb e) f0 f1 f3 f4 f5⟩
 self:=λ_ _ _ _ _ st h=>by
  unfold strIterType at st
  split at st
  ·exact wpAny_pyIter_striter_ascii st h
  ·exact wpAny_pyIter_striter_wide st h
inductive tI (K:PySem.W.Frag) (f:IT.Env->M Wk) (σ:St) (H:Hp) (R:It->Hp->Prop):Prop where
 | mk (μ:List Addr) (h:Sto) (env:IT.Env) (R0:Rep K μ h H) (re:RepE K μ h H env σ) (w:Wk) (h':Sto) (e:f env h=some (w,h')) (k:∀ μ' H' J,Stp μ h H μ' h' H'->Rep K μ' h' H'->Wlk K J w μ' h' H'->w.xs.length<=sizeLine->R J H')
section
variable {X:Cx} {tg:Expr}
theorem PI.imp {l:Expr} {t t':TI} (h:PI X tg l t) (i:∀ σ H R,t' σ H R->t σ H R):PI X tg l t':=λpins s σ H R I q=>h pins s σ H R I (i σ H R q)
theorem zp6 {l:Expr} {tl:TE} (hl:PE X l tl):PI X tg l (λσ H R=>tl σ H λx H1=>(∃ a xs,x=.ref a/\SqL X.K H1 a xs/\(xs.length<=sizeLine->R (Itl X.K a) H1))\/(∃ a xs,x=.ref a/\SqT X.K H1 a xs/\(xs.length<=sizeLine->R (Itt X.K a) H1))\/(∃ z:Str,x=.str z/\R (Its z) H1)):=by
 intro pins s σ H R I h
 refine thn (hl pins s σ H _ I h) λv s1 ⟨x,H1,I1,r1,q1⟩=>?_
 rcases q1 with ⟨a,xs,e,hq,q⟩ | ⟨a,xs,e,hq,q⟩ | ⟨z,e,q⟩
 ·subst e
  cases r1
  obtain ⟨its,rv,p,hz⟩:=I1.list hq
  refine wpAny_pyIter_list p.isList ?_
  refine ⟨s1.heap.objs.size,[s1.heap.objs.size],_,_,H1,rfl,I1.kept (t':=s1.toks) λb o e=>Heap.get?_push_of_some _ e,zko a _,⟨_,Heap.get?_push_size _ rfl,rfl,rfl⟩,λb hb=>?_,q hz⟩
  have e:b=s1.heap.objs.size:=by simpa using hb
  subst e
  exact I1.fpOk (Nat.le_refl _) (I1.hok.fresh (Nat.le_refl _))
 ·subst e
  cases r1
  obtain ⟨its,rv,p,hz⟩:=I1.tuple hq
  refine wpAny_pyIter_tuple (show s1.heap.IsTuple a its.toArray from p) ?_
  refine ⟨s1.heap.objs.size,[s1.heap.objs.size],_,_,H1,rfl,I1.kept (t':=s1.toks) λb o e=>Heap.get?_push_of_some _ e,zh2 a _,⟨_,Heap.get?_push_size _ rfl,rfl,rfl⟩,λb hb=>?_,q hz⟩
  have e:b=s1.heap.objs.size:=by simpa using hb
  subst e
  exact I1.fpOk (Nat.le_refl _) (I1.hok.fresh (Nat.le_refl _))
 ·subst e
  obtain ⟨t,rfl⟩:=(show ∃ t',v=Value.str z t' from r1)
  refine wpAny_pyIter_strU ?_
  refine ⟨s1.heap.objs.size,[s1.heap.objs.size],_,_,H1,rfl,I1.kept (t':=s1.toks) λb o e=>Heap.get?_push_of_some _ e,zkV z t _,⟨_,Heap.get?_push_size _ rfl,rfl,rfl⟩,λb hb=>?_,q⟩
  have e:b=s1.heap.objs.size:=by simpa using hb
  subst e
  exact I1.fpOk (Nat.le_refl _) (I1.hok.fresh (Nat.le_refl _))
theorem zdt {r:R} {o:Option (List Nat)} {h h':Sto} (e:zdG r h=some (o,h')):h'=h/\match o with
  | some ls=>∃ l,r=.loc l/\h[l]?=some (.ols ls)
  | none=>True:=by
 cases r with
 | d x=>simp only [zdG,Option.some.injEq,Prod.mk.injEq] at e;obtain ⟨rfl,rfl⟩:=e;exact ⟨rfl,trivial⟩
 | loc l=>
  (delta zdG at e;(try dsimp only at e))
  split at e
  ·rename_i ls hl
   simp only [Option.some.injEq,Prod.mk.injEq] at e
   obtain ⟨rfl,rfl⟩:=e
   exact ⟨rfl,l,rfl,hl⟩
  ·simp only [Option.some.injEq,Prod.mk.injEq] at e
   obtain ⟨rfl,rfl⟩:=e
   exact ⟨rfl,trivial⟩
noncomputable def WkIs (K:PySem.W.Frag) (v:V) (w:Wk) (μ:List Addr) (h:Sto) (H:Hp):Prop:=
 (∃ a vs,v=.ref a/\SqL K H a vs/\vs.length=w.xs.length/\Wlk K (Itl K a) w μ h H)\/(∃ a vs,v=.ref a/\SqT K H a vs/\vs.length=w.xs.length/\Wlk K (Itt K a) w μ h H)\/(∃ z:Str,v=.str z/\w.xs.length<=sizeLine/\Wlk K (Its z) w μ h H)
theorem zq8 {K:PySem.W.Frag} {μ:List Addr} {h h':Sto} {H:Hp} {r:R} {v:V} {w:Wk} (R1:Rep K μ h H) (q1:RepR K μ h H r v) (e:zbo r h=some (w,h')):h'=h/\WkIs K v w μ h H:=by
 (delta zbo at e;simp only [zae] at e)
 obtain ⟨o,h1,e1,e2⟩:=e
 obtain ⟨rfl,ho⟩:=zdt e1
 cases o with
 | some ls=>
  obtain ⟨l,rfl,ho⟩:=ho
  obtain ⟨a,ea,rfl⟩:=q1
  simp only [zaf] at e2
  obtain ⟨rfl,rfl⟩:=e2
  obtain ⟨vs,q2,z2⟩:=R1.obj l a _ ea ho
  exact ⟨rfl,.inl ⟨a,vs,rfl,.inl (.inl q2),by rw [List.length_map];exact z2.length.symm,zjA R1 ea ho⟩⟩
 | none=>
  simp only [zae] at e2
  obtain ⟨d,h2,e3,e4⟩:=e2
  cases r with
  | loc l=>
   obtain ⟨a,ea,rfl⟩:=q1
   obtain ⟨o,ho,il,rfl,rfl⟩:=zd6 e3
   obtain ⟨vs,q2,z2⟩:=R1.placeL ea ho il
   (delta wkOf items at e4;(try dsimp only at e4);simp only [zaf] at e4)
   obtain ⟨rfl,rfl⟩:=e4
   exact ⟨rfl,.inl ⟨a,vs,rfl,.inl (.inl q2),by rw [List.length_map];exact z2.length.symm,zj4 R1 ea ho il⟩⟩
  | d x=>
   simp only [rd,zaf] at e3
   obtain ⟨rfl,rfl⟩:=e3
   cases x with
   | tup xs=>
    (delta wkOf items at e4;(try dsimp only at e4);simp only [zaf] at e4)
    obtain ⟨rfl,rfl⟩:=e4
    simp only [RepR,RepD] at q1
    obtain ⟨a,vs,rfl,q2,z2⟩:=q1
    exact ⟨rfl,.inr (.inl ⟨a,vs,rfl,q2,by rw [List.length_map];exact z2.length.symm,zmN R1 q2 z2⟩)⟩
   | lst xs=>
    (delta wkOf items at e4;(try dsimp only at e4);simp only [zaf] at e4)
    obtain ⟨rfl,rfl⟩:=e4
    simp only [RepR,RepD] at q1
    obtain ⟨a,vs,rfl,q2,z2⟩:=q1
    exact ⟨rfl,.inl ⟨a,vs,rfl,q2.sq,by rw [List.length_map];exact z2.length.symm,zhr R1 q2 z2⟩⟩
   | str xs=>
    (delta wkOf items at e4;(try dsimp only at e4))
    split at e4
    ·rename_i hf
     obtain ⟨rfl,rfl⟩:=zaf.mp e4
     simp only [RepR,RepD] at q1
     subst q1
     exact ⟨rfl,.inr (.inr ⟨zac xs,rfl,by rw [List.length_map,List.length_map];exact of_decide_eq_true hf,zn0 xs⟩)⟩
    ·cases e4
   | _=>exact zag e4
theorem zqb {l:Expr} {f:IT.Env->M R} (hl:IE X l f):PI X tg l (tI X.K λσ=>bnd (f σ) λr=>zbo r):=by
 refine PI.imp (zp6 hl) λσ H R q0=>?_
 obtain ⟨μ,h,env,R0,re,w,h',e,k⟩:=q0
 simp only [zae] at e
 obtain ⟨r,h1,e1,e2⟩:=e
 refine ⟨μ,h,env,R0,re,r,h1,e1,λμ1 H1 v s1 R1 q1=>?_⟩
 obtain ⟨rfl,W⟩:=zq8 R1 q1 e2
 rcases W with ⟨a,vs,rfl,q2,hl,W⟩ | ⟨a,vs,rfl,q2,hl,W⟩ | ⟨z,rfl,hz,W⟩
 ·exact .inl ⟨a,vs,rfl,q2,λhz=>k μ1 H1 _ s1 R1 W (by rw [<-hl];exact hz)⟩
 ·exact .inr (.inl ⟨a,vs,rfl,q2,λhz=>k μ1 H1 _ s1 R1 W (by rw [<-hl];exact hz)⟩)
 ·exact .inr (.inr ⟨z,rfl,k μ1 H1 _ s1 R1 W hz⟩)
theorem zpA {e:Expr} {p pos:Pos} {f:IT.Env->M R} (hg:Gl X "range") (hm:X.mg "range"=none) (ha:IE X e f) (hs:starEach [e] X.env=[(false,eval e X.env)]):PI X tg (.Call (.Name "range" p) [e] [] pos) (tI X.K λσ=>bnd (f σ) λr=>zfq r):=by
 refine PI.imp (zjs hg hm (zby ha zc9 hs) hs) λσ H R q0=>?_
 obtain ⟨μ,h,env,R0,re,w,h',e,k⟩:=q0
 simp only [zae] at e
 obtain ⟨r,h1,e1,e2⟩:=e
 refine ⟨μ,h,env,R0,re,r,h1,e1,λμ1 H1 v s1 R1 q1=>?_⟩
 (delta zfq at e2;(try dsimp only at e2))
 split at e2
 ·rename_i n
  split at e2
  ·rename_i hb
   rw [Bool.and_eq_true] at hb
   obtain ⟨rfl,rfl⟩:=zaf.mp e2
   simp only [RepR,RepD] at q1
   have h3:n<=16777216:=of_decide_eq_true hb.2
   exact ⟨n,by rw [q1],of_decide_eq_true hb.1,by omega,k μ1 H1 _ s1 R1 (zm3 0 n.toNat) (by show ((zbH 0 n.toNat).map dI).length<=sizeLine;rw [List.length_map,zee];show n.toNat<=16777216;omega)⟩
  ·cases e2
 ·cases e2
noncomputable def zrc (K:PySem.W.Frag) (μ:List Addr) (h:Sto) (D:Ends) (fl:Fl) (σ:St) (H:Hp):Prop:=match fl with
 | .nx=>D.nx σ H
 | .brk=>D.bk σ H
 | .cnt=>D.ct σ H
 | .ret r=>∀ v,RepR K μ h H r v->D.rt v H
inductive tS (K:PySem.W.Frag) (f:IT.Env->M (Fl×IT.Env)) (D:Ends) (σ:St) (H:Hp):Prop where
 | mk (μ:List Addr) (h:Sto) (env:IT.Env) (R0:Rep K μ h H) (re:RepE K μ h H env σ) (fl:Fl) (env':IT.Env) (h':Sto) (e:f env h=some ((fl,env'),h')) (k:∀ μ' H' σ',Stp μ h H μ' h' H'->Rep K μ' h' H'->RepE K μ' h' H' env' σ'->zrc K μ' h' D fl σ' H')
theorem PS.imp {st:Stmt} {t t':TS} (h:PS X st t) (i:∀ D σ H,t' D σ H->t D σ H):PS X st t':=λpins s σ H D I q=>h pins s σ H D I (i D σ H q)
theorem PSs.imp {st:List Stmt} {t t':TS} (h:PSs X st t) (i:∀ D σ H,t' D σ H->t D σ H):PSs X st t':=λpins s σ H D I q=>h pins s σ H D I (i D σ H q)
theorem zoS {e:Expr} {pos:Pos} {f:IT.Env->M R} (he:IE X e f):PS X (.Return (some e) pos) (tS X.K λσ=>bnd (f σ) λr=>ok (.ret r,σ)):=by
 refine PS.imp (zoP he) λD σ H q0=>?_
 obtain ⟨μ,h,env,R0,re,fl,env',h',e,k⟩:=q0
 simp only [zae,zaf,Prod.mk.injEq] at e
 obtain ⟨r,h1,e1,⟨rfl,rfl⟩,rfl⟩:=e
 exact ⟨μ,h,env,R0,re,r,h1,e1,λμ1 H1 v s1 R1 q1=>k μ1 H1 σ s1 R1 (re.stp s1 R0) v q1⟩
theorem zoI {e:Expr} {pos:Pos} {f:IT.Env->M R} (he:IE X e f) (hs:swapsWith e none pos.line X.env=pure false):PS X (.Expr e pos) (tS X.K λσ=>bnd (f σ) λ_=>ok (.nx,σ)):=by
 refine PS.imp (znz he hs) λD σ H q0=>?_
 obtain ⟨μ,h,env,R0,re,fl,env',h',e,k⟩:=q0
 simp only [zae,zaf,Prod.mk.injEq] at e
 obtain ⟨r,h1,e1,⟨rfl,rfl⟩,rfl⟩:=e
 exact ⟨μ,h,env,R0,re,r,h1,e1,λμ1 H1 v s1 R1 q1=>k μ1 H1 σ s1 R1 (re.stp s1 R0)⟩
theorem zmb {tge e:Expr} {pos:Pos} {t:Tg} {f:IT.Env->M R} (he:IE X e f) (hg:PG X tge (tG X.K t)) (hs:swapsWithSole [tge] e pos.line X.env=pure false) (hw:swappedStores [tge] e X.env=pure none) (h1:(assignEach [tge] X.env).map (·.2)=[assign tge X.env]) :
  PS X (.Assign [tge] e pos) (tS X.K λσ=>bnd (f σ) λr=>bnd (zbd t r σ) λσ'=>ok (.nx,σ')):=by
 refine PS.imp (zji he hg hs hw h1) λD σ H q0=>?_
 obtain ⟨μ,h,env,R0,re,fl,env',h',e,k⟩:=q0
 simp only [zae,zaf,Prod.mk.injEq] at e
 obtain ⟨r,h1,e1,env1,h2,e2,⟨rfl,rfl⟩,rfl⟩:=e
 have:=zbs _ _ _ _ _ _ e2
 subst this
 exact ⟨μ,h,env,R0,re,r,_,e1,λμ1 H1 v s1 R1 q1=>⟨μ1,_,env,r,env1,R1,re.stp s1 R0,q1,e2,λσ' re'=>k μ1 H1 σ' s1 R1 re'⟩⟩
theorem znY {o i e:Expr} {pos p2:Pos} {f g k:IT.Env->M R} (he:IE X e f) (ho:IE X o g) (hi:IE X i k)
  (ha:∀ v,assign (.Subscript o i p2) X.env v=(do let ov<-holding [v] (eval o X.env);let iv<-holding [v,ov] (eval i X.env);standAt p2;holding [v,ov,iv] (setItem ov iv v);release [v,ov,iv] []))
  (hs:swapsWithSole [.Subscript o i p2] e pos.line X.env=pure false) (hw:swappedStores [.Subscript o i p2] e X.env=pure none) (h1:(assignEach [.Subscript o i p2] X.env).map (·.2)=[assign (.Subscript o i p2) X.env]) :
  PS X (.Assign [.Subscript o i p2] e pos) (tS X.K λσ=>bnd (f σ) λr=>bnd (g σ) λx=>bnd (k σ) λy=>bnd (fz r) λd=>bnd (rd y) λy=>bnd (zeD x y d) λ_=>ok (.nx,σ)):=by
 refine PS.imp (zji he (zmk ho hi zlS ha) hs hw h1) λD σ H q0=>?_
 obtain ⟨μ,h,env,R0,re,fl,env',h',e,kk⟩:=q0
 simp only [zae,zaf,Prod.mk.injEq] at e
 obtain ⟨r,h1,e1,x,h2,e2,y,h3,e3,d,h4,e4,dy,h5,e5,_,h6,e6,⟨rfl,rfl⟩,rfl⟩:=e
 refine ⟨μ,h,env,R0,re,r,h1,e1,λμ1 H1 v s1 R1 q1=>⟨μ1,h1,env,R1,re.stp s1 R0,x,h2,e2,λμ2 H2 u s2 R2 q2=>⟨μ2,h2,env,R2,re.stp (s1.trans s2) R0,y,h3,e3,λμ3 H3 w s3 R3 q3=>?_⟩⟩⟩
 obtain ⟨s4,R4,zd⟩:=ziW R3 ((q1.stp s2 R1).stp s3 R2) e4
 obtain ⟨rfl,zy⟩:=zbN R4 (q3.stp s4 R3) e5
 (delta zeD at e6;(try dsimp only at e6))
 split at e6
 ·rename_i l k'
  obtain ⟨a,ea,rfl⟩:=(q2.stp s3 R2).stp s4 R3
  split at e6
  ·rename_i xs hx
   split at e6
   ·rename_i j hj
    simp only [Option.some.injEq,Prod.mk.injEq] at e6
    obtain ⟨_,rfl⟩:=e6
    obtain ⟨vs4,hH4,z4⟩:=R4.placeL ea hx rfl
    simp only [RdD,RepD] at zy
    refine ⟨a,vs4,k',j,rfl,zy,hH4,by rw [<-z4.length];exact hj,?_⟩
    obtain ⟨s5,R5⟩:=write R4 ea hx (z4.set zd j)
    exact kk μ3 _ σ ((((s1.trans s2).trans s3).trans s4).trans s5) R5 (re.stp ((((s1.trans s2).trans s3).trans s4).trans s5) R0)
   ·cases e6
  ·cases e6
 ·cases e6
theorem zrA {c:Expr} {a b:List Stmt} {pos:Pos} {ft:IT.Env->M Bool} {fa fb:IT.Env->M (Fl×IT.Env)} (hc:IT' X c ft) (ha:PSs X a (tS X.K fa)) (hb:PSs X b (tS X.K fb)) :
  PS X (.If c a b pos) (tS X.K λσ=>bnd (ft σ) λt=>if t then fa σ else fb σ):=by
 refine PS.imp (zrW hc ha hb) λD σ H q0=>?_
 obtain ⟨μ,h,env,R0,re,fl,env',h',e,k⟩:=q0
 simp only [zae] at e
 obtain ⟨t,h1,e1,e2⟩:=e
 refine ⟨μ,h,env,R0,re,t,h1,e1,λμ1 H1 v s1 R1 hv=>?_⟩
 subst hv
 cases t with
 | true=>
  simp only [if_true] at e2 ⊢
  exact ⟨μ1,h1,env,R1,re.stp s1 R0,fl,env',h',e2,λμ2 H2 σ2 s2 R2 q2=>k μ2 H2 σ2 (s1.trans s2) R2 q2⟩
 | false=>
  simp only [Bool.false_eq_true,if_false] at e2 ⊢
  exact ⟨μ1,h1,env,R1,re.stp s1 R0,fl,env',h',e2,λμ2 H2 σ2 s2 R2 q2=>k μ2 H2 σ2 (s1.trans s2) R2 q2⟩
theorem zmC:PSs X [] (tS X.K λσ=>ok (.nx,σ)):=by
 refine PSs.imp zof λD σ H q0=>?_
 obtain ⟨μ,h,env,R0,re,fl,env',h',e,k⟩:=q0
 simp only [zaf,Prod.mk.injEq] at e
 obtain ⟨⟨rfl,rfl⟩,rfl⟩:=e
 exact k μ H σ Stp.refl R0 re
theorem zkA {st:Stmt} {sts:List Stmt} {f g:IT.Env->M (Fl×IT.Env)} (h1:PS X st (tS X.K f)) (h2:PSs X sts (tS X.K g)):PSs X (st::sts) (tS X.K λσ=>bnd (f σ) λp=>match p.1 with | .nx=>g p.2 | _=>ok p):=by
 refine PSs.imp (zkB h1 h2) λD σ H q0=>?_
 obtain ⟨μ,h,env,R0,re,fl,env',h',e,k⟩:=q0
 simp only [zae] at e
 obtain ⟨⟨fl1,env1⟩,h1,e1,e2⟩:=e
 refine ⟨μ,h,env,R0,re,fl1,env1,h1,e1,λμ1 H1 σ1 s1 R1 q1=>?_⟩
 cases fl1 with
 | nx=>exact ⟨μ1,h1,env1,R1,q1,fl,env',h',e2,λμ2 H2 σ2 s2 R2 q2=>k μ2 H2 σ2 (s1.trans s2) R2 q2⟩
 | brk=>simp only [zaf,Prod.mk.injEq] at e2;obtain ⟨⟨rfl,rfl⟩,rfl⟩:=e2;exact k μ1 H1 σ1 s1 R1 q1
 | cnt=>simp only [zaf,Prod.mk.injEq] at e2;obtain ⟨⟨rfl,rfl⟩,rfl⟩:=e2;exact k μ1 H1 σ1 s1 R1 q1
 | ret r=>simp only [zaf,Prod.mk.injEq] at e2;obtain ⟨⟨rfl,rfl⟩,rfl⟩:=e2;exact k μ1 H1 σ1 s1 R1 q1
theorem Ob.same_refl {o:Ob} (n:∀ c fs,o≠.ins c fs):o.same o=true:=by
 cases o with
 | lst xs=>simp only [Ob.same,Ob.isL,Ob.items,Bool.true_and];exact D.sames_refl _
 | fro xs=>simp only [Ob.same,Ob.isL,Ob.items,Bool.true_and];exact D.sames_refl _
 | ins c fs=>exact absurd rfl (n c fs)
 | ols ls=>simp only [Ob.same,beq_self_eq_true]
 | dic kvs=>exact zcA kvs
 | dfr kvs=>exact zcA kvs
theorem Ob.same_trans {a b c:Ob} (h1:a.same b=true) (h2:b.same c=true):a.same c=true:=by
 cases a with
 | ins _ _=>cases h1
 | dic ls=>
  cases b with
  | dic ls'=>have:=zdZ (show zbr ls ls'=true from h1);subst this;exact h2
  | _=>cases h1
 | dfr ls=>
  cases b with
  | dfr ls'=>have:=zdZ (show zbr ls ls'=true from h1);subst this;exact h2
  | _=>cases h1
 | ols ls=>
  cases b with
  | ols ls'=>simp only [Ob.same] at h1;have:=eq_of_beq h1;subst this;exact h2
  | _=>cases h1
 | lst xs=>
  obtain ⟨i1,e1⟩:=Ob.same_isL h1 rfl
  obtain ⟨i2,e2⟩:=Ob.same_isL h2 i1
  simp only [Ob.same,i2,Bool.true_and]
  rw [e2,e1]
  exact D.sames_refl _
 | fro xs=>
  obtain ⟨i1,e1⟩:=Ob.same_isL h1 rfl
  obtain ⟨i2,e2⟩:=Ob.same_isL h2 i1
  simp only [Ob.same,i2,Bool.true_and]
  rw [e2,e1]
  exact D.sames_refl _
noncomputable def WlOk (w:Wk) (h:Sto):Prop:=∀ i,w.l=some i->∃ o,h[i]?=some o/\∀ c fs,o≠.ins c fs
theorem zeL (l:Option Nat) (h:Sto) (hl:∀ i,l=some i->∃ o,h[i]?=some o/\∀ c fs,o≠.ins c fs):zbb l h h=true:=by
 cases l with
 | none=>rfl
 | some i=>
  obtain ⟨o,ho,n⟩:=hl i rfl
  simp only [zbb,ho]
  exact Ob.same_refl n
theorem zbT {l:Option Nat} {h h1 h2:Sto} (a:zbb l h h1=true) (b:zbb l h1 h2=true):zbb l h h2=true:=by
 cases l with
 | none=>rfl
 | some i=>
  simp only [zbb] at a b ⊢
  cases e0:h[i]? with
  | none=>rw [e0] at a;cases a
  | some o0=>
   cases e1:h1[i]? with
   | none=>rw [e0,e1] at a;cases a
   | some o1=>
    cases e2:h2[i]? with
    | none=>rw [e1,e2] at b;cases b
    | some o2=>
     rw [e0,e1] at a
     rw [e1,e2] at b
     exact Ob.same_trans a b
theorem zqd {iter:Expr} {body:List Stmt} {pos:Pos} {t:Tg} {fi:IT.Env->M Wk} {fb:IT.Env->M (Fl×IT.Env)} (hp:PassesOwn (model X.prog X.w) X.A X.env X.xe) (hc:X.calm=true) (hi:PI X tg iter (tI X.K fi)) (hg:PG X tg (tGI X.K t)) (hb:PSs X body (tS X.K fb))
  (hs:∀ x,foldedSetIterable iter X.env x=pure x) (hwl:∀ σ h w h',fi σ h=some (w,h')->WlOk w h') :
  PS X (.For tg iter body [] pos) (tS X.K λσ=>bnd (fi σ) λw=>loop w.l (λx σ=>bnd (za9 t x σ) λσ'=>fb σ') w.xs σ):=by
 refine PS.imp (zoN hp hc hi hg hb hs) λD σ H q0=>?_
 obtain ⟨μ,h,env,R0,re,fl,env',h',e,k⟩:=q0
 simp only [zae] at e
 obtain ⟨w,h1,e1,e2⟩:=e
 refine ⟨μ,h,env,R0,re,w,h1,e1,λμ1 H1 J s1 R1 W1 _=>?_⟩
 refine ⟨λi m σ2 H2=>∃ μ2 h2 env2,Stp μ1 h1 H1 μ2 h2 H2/\zbb w.l h1 h2=true/\Rep X.K μ2 h2 H2/\RepE X.K μ2 h2 H2 env2 σ2/\i+m=w.xs.length ∧
   loop w.l (λx σ=>bnd (za9 t x σ) λσ'=>fb σ') (w.xs.drop i) env2 h2=some ((fl,env'),h'),⟨w.xs.length,μ1,h1,env,Stp.refl,zeL _ _ (hwl _ _ _ _ e1),R1,re.stp s1 R0,by omega,by rw [List.drop_zero];exact e2⟩,?_⟩
 rintro i m σ2 H2 ⟨μ2,h2,env2,s2,sy2,R2,re2,him,el⟩
 cases hx:w.xs[i]? with
 | none=>
  have hi':w.xs.length<=i:=by simpa using hx
  have hi2:i=w.xs.length:=by omega
  subst hi2
  rw [List.drop_of_length_le (Nat.le_refl _)] at el
  simp only [loop,zaf,Prod.mk.injEq] at el
  obtain ⟨⟨rfl,rfl⟩,rfl⟩:=el
  exact .inl ⟨W1.stop μ2 h2 H2 s2 R2 sy2,k μ2 H2 σ2 (s1.trans s2) R2 re2⟩
 | some x=>
  have hil:i<w.xs.length:=(List.getElem?_eq_some_iff.mp hx).1
  have hdrop:w.xs.drop i=x::w.xs.drop (i+1):=by
   rw [List.drop_eq_getElem_cons hil]
   have:=(List.getElem?_eq_some_iff.mp hx).2
   rw [this]
  rw [hdrop] at el
  simp only [loop] at el
  obtain ⟨go,yld⟩:=W1.go μ2 h2 H2 i x s2 R2 sy2 hx
  cases ef:bnd (za9 t x env2) (λσ'=>fb σ') h2 with
  | none=>rw [ef] at el;cases el
  | some p=>
   obtain ⟨⟨fl3,env3⟩,h3⟩:=p
   rw [ef] at el
   simp only [zae] at ef
   obtain ⟨env4,h4,e4,e5⟩:=ef
   have:=zf5 e4
   subst this
   refine .inr ⟨go,λσ' H'=>∃ m',m'<m/\∃ μ5 h5 env5,Stp μ1 h1 H1 μ5 h5 H'/\zbb w.l h1 h5=true/\Rep X.K μ5 h5 H'/\RepE X.K μ5 h5 H' env5 σ'/\(i+1)+m'=w.xs.length ∧
    loop w.l (λx σ=>bnd (za9 t x σ) λσ'=>fb σ') (w.xs.drop (i+1)) env5 h5=some ((fl,env'),h'),λσ' H' hN=>hN,λv H' hy=>?_⟩
   obtain ⟨sy,Ry,zx⟩:=yld v H' hy
   refine ⟨μ2,_,env2,x,env4,Ry,re2.stp sy R2,zx,e4,λσ4 re4=>⟨μ2,_,env4,Ry,re4,fl3,env3,h3,e5,λμ5 H5 σ5 s5' R5 re5=>?_⟩⟩
   have s5:=sy.trans s5'
   cases fl3 with
   | nx=>
    simp only at el
    split at el
    ·rename_i sy5
     exact ⟨m-1,by omega,μ5,h3,env3,s2.trans s5,zbT sy2 sy5,R5,re5,by omega,el⟩
    ·cases el
   | cnt=>
    simp only at el
    split at el
    ·rename_i sy5
     exact ⟨m-1,by omega,μ5,h3,env3,s2.trans s5,zbT sy2 sy5,R5,re5,by omega,el⟩
    ·cases el
   | brk=>
    simp only [Option.some.injEq,Prod.mk.injEq] at el
    obtain ⟨⟨rfl,rfl⟩,rfl⟩:=el
    exact k μ5 H5 σ5 ((s1.trans s2).trans s5) R5 re5
   | ret r=>
    simp only [Option.some.injEq,Prod.mk.injEq] at el
    obtain ⟨⟨rfl,rfl⟩,rfl⟩:=el
    exact k μ5 H5 σ5 ((s1.trans s2).trans s5) R5 re5
end
end IT
set_option linter.all false
set_option maxHeartbeats 4000000
set_option maxRecDepth 100000
namespace PySem
section
variable {prog:Program} {w:World} {A:Around} {R:Result->Shared->Prop} {s:Shared}
theorem zgR {elt target iter:Expr} {ifs:List Expr} {scope:Scope} {pos:Pos} {it acc:Value} {env:Env} (I:Nat->Shared->Prop)
  (turn : ∀ n s,I n s->wpAny (model prog w) A (pyNext it) (λr s₁=>match r with
   | none=>R (.ok .next) s₁
   | some v=>wpAny (model prog w) A (letOwnedTupleGo target it v) (λ_ s₁'=>wpAny (model prog w) A (assign target env v) (λ_ s₂=>
     wpAny (model prog w) A (forIn ifs true λc r=>if r=true then do let ok<-isTrue c env (eval c env);pure (ForInStep.yield ok) else pure (ForInStep.yield r)) (λok s₃=>
      if ok=true then wpAny (model prog w) A (eval elt env) (λx s₄=>
       wpAny (model prog w) A (call (.builtin "list.append") [acc,x]) (λ_ s₅=>∃ m,m<n/\I m s₅) (λ_ _=>False) s₄) (λ_ _=>False) s₃
      else ∃ m,m<n/\I m s₃) (λ_ _=>False) s₂) (λ_ _=>False) s₁') (λ_ _=>False) s₁) (λ_ _=>False) s)
  (n:Nat) (h:I n s) :
  codeAny (model prog w) A (.compLoop (.ListComp elt [⟨target,iter,ifs,0⟩] scope pos) 0 it acc env) R s:=by
 refine codeAny_loop rfl I (λn s hI=>?_) n h
 show wpAny _ A ((compTurn (.ListComp elt [⟨target,iter,ifs,0⟩] scope pos) 0 it acc env).onRaise (λx=>do noteFrame x env;theTreesLotGoes x)) _ _ s
 refine wpAny_noted ?_
 rw [compTurn_list]
 refine wpAny_bind (wpAny_standAt (wpAny_bind (wpAny_mono (turn n s hI) (λr s₁ h₁=>?_) λ_ _ h'=>h'.elim)))
 cases r with
 | none=>exact wpAny_pure h₁
 | some v=>
  refine wpAny_bind (wpAny_mono h₁ (λ_ s₁' h₁'=>?_) λ_ _ h'=>h'.elim)
  refine wpAny_bind (wpAny_mono h₁' (λ_ s₂ h₂=>wpAny_bind (wpAny_mono h₂ (λok s₃ h₃=>?_) λ_ _ h'=>h'.elim)) λ_ _ h'=>h'.elim)
  cases ok with
  | false=>exact wpAny_pure ⟨rfl,h₃⟩
  | true=>
   exact wpAny_bind (wpAny_bind (wpAny_mono h₃ (λx s₄ h₄=>wpAny_bind (wpAny_mono h₄ (λ_ s₅ h₅=>wpAny_pure (wpAny_pure ⟨rfl,h₅⟩)) λ_ _ h'=>h'.elim)) λ_ _ h'=>h'.elim))
end
theorem zcX {scope:Scope} {env:Env} (h:∀ x∈scope.names,x.2=.free->∃ c,env.cells.lookup x.1=some c) :
  ∃ cl,closureFor scope env=pure cl/\(∀ x c,cl.lookup x=some c->env.cells.lookup x=some c)/\∀ x∈scope.names,x.2=.free->∃ c,cl.lookup x.1=some c:=by
 unfold closureFor
 have gen:∀ (l:List (Str×NameKind)) (cs:List (Str×Addr)),(∀ x∈l,x.2=.free->∃ c,env.cells.lookup x.1=some c)->(∀ x c,cs.lookup x=some c->env.cells.lookup x=some c) →
   ∃ cl,(forIn l cs λ(x:Str×NameKind) (r:List (Str×Addr))=>(if x.2==.free then do let c<-cellOf env x.1;pure (ForInStep.yield ((x.1,c)::r)) else pure (ForInStep.yield r):Sem (ForInStep (List (Str×Addr)))))=pure cl ∧
    (∀ x c,cl.lookup x=some c->env.cells.lookup x=some c)/\(∀ x c,cs.lookup x=some c->∃ c',cl.lookup x=some c')/\∀ x∈l,x.2=.free->∃ c,cl.lookup x.1=some c:=by
  intro l
  induction l with
  | nil=>intro cs _ h2;exact ⟨cs,rfl,h2,λx c e=>⟨c,e⟩,λx hx=>absurd hx (by simp)⟩
  | cons y l ih=>
   intro cs h1 h2
   by_cases hy:y.2=.free
   ·obtain ⟨c,hc⟩:=h1 y (by simp) hy
    have hcell:cellOf env y.1=pure c:=by unfold cellOf;rw [hc]
    obtain ⟨cl,e,a1,a2,a3⟩:=ih ((y.1,c)::cs) (λx hx=>h1 x (by simp [hx])) (λx c' e=>by
     rw [List.lookup_cons] at e
     split at e
     ·rename_i hb
      cases e
      rw [eq_of_beq hb]
      exact hc
     ·exact h2 x c' e)
    refine ⟨cl,?_,a1,λx c' e'=>?_,λx hx hf=>?_⟩
    ·rw [List.forIn_cons,if_pos (by rw [hy];rfl),hcell]
     exact e
    ·by_cases hb:(x==y.1)=true
     ·exact a2 x c (by rw [List.lookup_cons,hb])
     ·exact a2 x c' (by rw [List.lookup_cons];simp only [Bool.not_eq_true] at hb;rw [hb];exact e')
    ·rcases List.mem_cons.mp hx with rfl | hx
     ·exact a2 x.1 c (by rw [List.lookup_cons];simp)
     ·exact a3 x hx hf
   ·obtain ⟨cl,e,a1,a2,a3⟩:=ih cs (λx hx=>h1 x (by simp [hx])) h2
    refine ⟨cl,?_,a1,a2,λx hx hf=>?_⟩
    ·rw [List.forIn_cons,if_neg (by intro z;exact hy (eq_of_beq z))]
     exact e
    ·rcases List.mem_cons.mp hx with rfl | hx
     ·exact absurd hf hy
     ·exact a3 x hx hf
 obtain ⟨cl,e,a1,_,a3⟩:=gen scope.names [] h (λx c e=>by simp at e)
 refine ⟨cl,?_,a1,a3⟩
 show (forIn scope.names ([]:List (Str×Addr)) (λ(x:Str×NameKind) (r:List (Str×Addr))=>(if x.2==.free then do let c<-cellOf env x.1;pure (ForInStep.yield ((x.1,c)::r)) else pure (ForInStep.yield r):Sem (ForInStep (List (Str×Addr))))) >>= λcs=>pure cs)=pure cl
 rw [e]
 rfl
end PySem
set_option linter.all false
set_option maxHeartbeats 4000000
set_option maxRecDepth 100000
namespace IT
open PySem PySem.Spec L2
noncomputable def clrS:List Nat->St->St
 | [],σ=>σ
 | i::r,σ=>clrS r (σ.set i none)
theorem zfc:∀ (own:List Nat) (σ:St),(clrS own σ).length=σ.length
 | [],_=>rfl
 | i::r,σ=>by simp [clrS,zfc r]
theorem zfk:∀ (own:List Nat) (σ:St) (i:Nat) (v:V),(clrS own σ)[i]?=some (some v)->σ[i]?=some (some v)/\i ∉ own
 | [],σ,i,v,e=>⟨e,by simp⟩
 | j::r,σ,i,v,e=>by
  obtain ⟨e1,n1⟩:=zfk r (σ.set j none) i v e
  by_cases hij:i=j
  ·subst hij
   rw [List.getElem?_set] at e1
   simp only [if_true] at e1
   split at e1<;>cases e1
  ·rw [List.getElem?_set_ne (Ne.symm hij)] at e1
   exact ⟨e1,by simp [hij,n1]⟩
noncomputable def blk (X:Cx) (N':List Str) (s₂:Shared) (H₂:Hp) (cenv:PySem.Env) (fp:List Addr) (pins:List (Addr×Obj)):Cx:=
 { X with N:=N',s₀:=s₂,H₀:=H₂,env:=cenv,outer:=X.stack,ex:=fp,fn:=λ_=>false,pn:=X.pn++pins }
noncomputable def PTs (X:Cx) (ifs:List Expr) (t:TT):Prop:=
 ∀ (pins:List (Addr×Obj)) (s:Shared) (σ:St) (H:Hp) (Q:Bool->Hp->Prop),Inv X pins σ H s->t σ H Q →
  wpAny (model X.prog X.w) X.A (forIn ifs true λc r=>if r=true then do let ok<-isTrue c X.env (eval c X.env);pure (ForInStep.yield ok) else pure (ForInStep.yield r)) (TP X pins σ Q) X.xe s
theorem znI {X:Cx}:PTs X [] (λ_ H Q=>Q true H):=λpins s σ H Q I q=>wpAny_tests_nil ⟨H,I,q⟩
theorem zmR {X:Cx} {c:Expr} {t:TT} (h:PT X c t):PTs X [c] t:=λpins s σ H Q I q=>wpAny_tests_one (h pins s σ H Q I q)
noncomputable def ziv (wi:TI) (own:List Nat) (g:TG) (tc:TT) (te:TE):TE:=λσ H Q=>wi σ H λJ H1=>∃ W:Nat->Nat->List V->Hp->Prop,(∃ m,W 0 m [] H1)/\∀ i m vs H,W i m vs H →
 (J.stop i H/\vs.length<=sizeLine/\∀ a,H a=none->Q (.ref a) (upd H a (.lst vs))) ∨
 (J.go i H/\vs.length<sizeLine/\∀ x H',J.yld i H x H'->g x (clrS own σ) H' λσ2 H2=>tc σ2 H2 λb H3=>if b=true then te σ2 H3 λv H4=>∃ m',m'<m/\W (i+1) m' (vs++[v]) H4 else ∃ m',m'<m/\W (i+1) m' vs H3)
section
variable {X:Cx}
theorem zl3 {scope:Scope} {cl:List (Str×Addr)} (hcell:∀ y∈scope.names,y.2≠.cell) (hcl2:∀ x∈scope.names,x.2=.free->∃ c,cl.lookup x.1=some c):∀ x,Vis (relabel scope X.env) x->(relabel scope X.env).names.lookup x≠some .local->∃ c,cl.lookup x=some c:=by
 intro x hv hnl
 have : ∀ (l:List (Str×NameKind)),(∀ y∈l,y.2≠.cell)->(∀ y∈l,y.2=.free->∃ c,cl.lookup y.1=some c)->∀ k,(k=.cell\/k=.free) →
   (l.map λ(n,k)=>if (k==NameKind.free&&X.env.scope.kind==.function&&X.env.kindOf n==some .cell) then (n,NameKind.cell) else (n,k)).lookup x=some k->∃ c,cl.lookup x=some c:=by
  intro l
  induction l with
  | nil=>intro _ _ k _ e;simp at e
  | cons y l ih=>
   intro h1 h2 k hkk e
   obtain ⟨n,kd⟩:=y
   rw [List.map_cons] at e
   by_cases hb:(kd==NameKind.free&&X.env.scope.kind==.function&&X.env.kindOf n==some .cell)=true
   ·simp only [hb,if_true] at e
    rw [List.lookup_cons] at e
    split at e
    ·rename_i hx
     rw [eq_of_beq hx]
     refine h2 (n,kd) (by simp) ?_
     rw [Bool.and_eq_true,Bool.and_eq_true] at hb
     exact eq_of_beq hb.1.1
    ·exact ih (λy hy=>h1 y (by simp [hy])) (λy hy=>h2 y (by simp [hy])) k hkk e
   ·simp only [hb] at e
    rw [List.lookup_cons] at e
    split at e
    ·rename_i hx
     have e':kd=k:=by simpa using e
     subst e'
     rw [eq_of_beq hx]
     rcases hkk with z | z
     ·exact absurd z (h1 (n,kd) (by simp))
     ·exact h2 (n,kd) (by simp) z
    ·exact ih (λy hy=>h1 y (by simp [hy])) (λy hy=>h2 y (by simp [hy])) k hkk e
 rcases hv with z | z | z
 ·exact absurd z hnl
 ·exact this scope.names hcell hcl2 .cell (.inl rfl) z
 ·exact this scope.names hcell hcl2 .free (.inr rfl) z
theorem znX {N':List Str} {own:List Nat} {scope:Scope} {cl:List (Str×Addr)} {pins:List (Addr×Obj)} {σ:St} {H₂:Hp} {s₂:Shared} {fp:List Addr} {h₄:Heap} {tk:Nat}
  (hkind:scope.kind=.function) (hcell:∀ y∈scope.names,y.2≠.cell)
  (hN:∀ (i:Nat) (x:Str),N'[i]?=some x->Vis (relabel scope X.env) x->i∈own\/(X.N[i]?=some x/\(X.env.kindOf x=some .cell\/X.env.kindOf x=some .free)/\(relabel scope X.env).names.lookup x≠some .local))
  (hlen:N'.length=X.N.length) (hcl1:∀ x c,cl.lookup x=some c->X.env.cells.lookup x=some c) (hcl2:∀ x∈scope.names,x.2=.free->∃ c,cl.lookup x.1=some c)
  (I:Inv X pins σ H₂ s₂) (hf:∀ b∈fp,FpOk X pins H₂ b) (hex:∀ b∈fp,b<s₂.heap.objs.size)
  (hk:∀ b o,s₂.heap.get? b=some o->h₄.get? b=some o) (hns:∃ m,h₄.Ns (s₂.heap.objs.size+1) m) (hacc:h₄.get? s₂.heap.objs.size=some { cls:=.type "list",data:=.seq #[] }) :
  Inv (blk X N' s₂ H₂ (compEnvC scope cl (s₂.heap.objs.size+1) X.env) fp pins) [(s₂.heap.objs.size,{ cls:=.type "list",data:=.seq #[] })] (clrS own σ) H₂ { s₂ with heap:=h₄,toks:=tk }:=by
 have fsub:∀ b∈frs X.stack,b=X.env.locals\/b∈X.fs:=λb hb=>List.mem_cons.mp (I.stkSub b hb)
 have fresh:∀ b,s₂.heap.objs.size<=b->H₂ b=none:=λb hb=>I.hok.fresh hb
 have flt:∀ b∈frs X.stack,b<s₂.heap.objs.size:=λb hb=>by
  obtain ⟨_,o,ho,_⟩:=I.stack.mem hb
  exact Heap.lt_size ho
 have vis_free:=zl3 (X:=X) hcell hcl2
 refine ⟨⟨I.ok.mod,?_,I.ok.glob,I.ok.blt,Nat.le_succ _,λx y c e1 e2=>I.ok.inj x y c (hcl1 x c e1) (hcl1 y c e2),λx hx=>?_,λx c e=>absurd (show false=true from e) Bool.false_ne_true,I.ok.hd,I.ok.frames,.inl rfl,λb hb=>⟨?_,λx c e=>?_⟩,I.bs,Nat.le_trans I.ok.bsz I.sz,λb o e hb=>?_,λb hb hb2=>?_,I.stack,I.stkFree⟩,
  rfl,I.bare,Un.kept hk,?_,λx c e=>?_,fresh _ (Nat.le_succ _),λx c e=>I.freeC x c (hcl1 x c e),λp hp=>?_,I.hok.kept hk,?_⟩
 ·exact hkind
 ·rcases hx with z | z
  ·exact vis_free x (.inr (.inl z)) (by
    have z':(relabel scope X.env).names.lookup x=some .cell:=z
    rw [z'];decide)
  ·exact vis_free x (.inr (.inr z)) (by
    have z':(relabel scope X.env).names.lookup x=some .free:=z
    rw [z'];decide)
 ·exact Nat.ne_of_lt (Nat.lt_succ_of_lt (hex b hb))
 ·exact (hf b hb).2.2.2.2.1 x c (hcl1 x c e)
 ·rcases (hf b hb).2.2.2.1 with z | z
  ·exact I.ok.noex b o e z
  ·have h1:b<X.base.objs.size:=Heap.lt_size e
   have h2:=I.ok.bsz
   exact absurd (Nat.lt_of_lt_of_le h1 (Nat.le_trans h2 z)) (Nat.lt_irrefl _)
 ·rcases fsub b hb2 with z | z
  ·exact (hf b hb).2.1 z
  ·exact (hf b hb).2.2.1 z
 ·obtain ⟨m,hm⟩:=hns
  obtain ⟨mX,_,hl⟩:=I.loc
  refine ⟨m,hm,λi x v e1 e2 e3=>?_⟩
  obtain ⟨e2',ni⟩:=zfk own σ i v e2
  rcases hN i x e1 e3 with z | ⟨z,zk,nl⟩
  ·exact absurd z ni
  ·have vx:Vis X.env.scope x:=by
    rcases zk with q | q
    ·exact .inr (.inl q)
    ·exact .inr (.inr q)
   obtain ⟨u,ru,lk⟩:=hl i x v z e2' vx
   refine ⟨u,ru,?_⟩
   rcases lk with ⟨q,_⟩ | ⟨_,c,ec,hcv⟩
   ·rcases zk with q' | q'
    ·rw [q] at q';cases q'
    ·rw [q] at q';cases q'
   ·obtain ⟨c',ec'⟩:=vis_free x e3 nl
    have:=hcl1 x c' ec'
    rw [ec] at this
    cases this
    refine .inr ⟨?_,c,ec',hcv.keeps hk⟩
    rcases e3 with q | q | q
    ·exact absurd q nl
    ·exact .inl q
    ·exact .inr q
 ·obtain ⟨v,q⟩:=I.cell x c (hcl1 x c e)
  exact ⟨v,q.keeps hk⟩
 ·rcases List.mem_append.mp hp with z | z
  ·obtain ⟨e1,e2,e3,e4,e5⟩:=I.pin p z
   refine ⟨hk _ _ e1,e2,Nat.ne_of_lt (Nat.lt_succ_of_lt (Heap.lt_size e1)),λhb=>?_,e5⟩
   rcases fsub p.1 hb with q | q
   ·exact e3 q
   ·exact e4 q
  ·have ep:p=(s₂.heap.objs.size,({ cls:=.type "list",data:=.seq #[] }:Obj)):=by simpa using z
   subst ep
   exact ⟨hacc,fresh _ (Nat.le_refl _),Nat.ne_of_lt (Nat.lt_succ_self _),λhb=>absurd (flt _ hb) (Nat.lt_irrefl _),λv q=>by cases q⟩
 ·show (clrS own σ).length=N'.length
  rw [zfc,hlen]
  exact I.len
theorem zfZ {N':List Str} {own:List Nat} {scope:Scope} {cl:List (Str×Addr)} {C:Addr} {pins pl:List (Addr×Obj)} {σ σ':St} {H₂ H':Hp} {s₂ s':Shared} {fp:List Addr}
  (hcell:∀ y∈scope.names,y.2≠.cell)
  (hN:∀ (i:Nat) (x:Str),N'[i]?=some x->Vis (relabel scope X.env) x->i∈own\/(X.N[i]?=some x/\(X.env.kindOf x=some .cell\/X.env.kindOf x=some .free)/\(relabel scope X.env).names.lookup x≠some .local))
  (hlen:N'.length=X.N.length) (hcl1:∀ x c,cl.lookup x=some c->X.env.cells.lookup x=some c) (hcl2:∀ x∈scope.names,x.2=.free->∃ c,cl.lookup x.1=some c)
  (I:Inv X pins σ H₂ s₂) (hf:∀ b∈fp,FpOk X pins H₂ b) (J:Inv (blk X N' s₂ H₂ (compEnvC scope cl C X.env) fp pins) pl σ' H' s'):Inv (blk X N' s₂ H₂ (compEnvC scope cl C X.env) fp pins) pl (clrS own σ) H' s':=by
 refine ⟨J.ok,J.os,J.bare,J.base,?_,J.cell,J.free,J.freeC,J.pin,J.hok,?_⟩
 ·obtain ⟨m,hm,_⟩:=J.loc
  obtain ⟨mX,_,hl⟩:=I.loc
  refine ⟨m,hm,λi x v e1 e2 e3=>?_⟩
  obtain ⟨e2',ni⟩:=zfk own σ i v e2
  rcases hN i x e1 e3 with z | ⟨z,zk,nl⟩
  ·exact absurd z ni
  ·have vx:Vis X.env.scope x:=by
    rcases zk with q | q
    ·exact .inr (.inl q)
    ·exact .inr (.inr q)
   obtain ⟨u,ru,lk⟩:=hl i x v z e2' vx
   refine ⟨u,ru,?_⟩
   rcases lk with ⟨q,_⟩ | ⟨_,c,ec,o,ho,hd⟩
   ·rcases zk with q' | q'
    ·rw [q] at q';cases q'
    ·rw [q] at q';cases q'
   ·obtain ⟨c',ec'⟩:=zl3 (X:=X) hcell hcl2 x e3 nl
    have:=hcl1 x c' ec'
    rw [ec] at this
    cases this
    have hcv:s'.heap.IsCell c (some u):=by
     obtain ⟨sl,q⟩:=J.base.any ho (I.freeC x c ec) λhb=>(hf c hb).2.2.2.2.1 x c ec rfl
     exact ⟨_,q,hd⟩
    refine .inr ⟨?_,c,ec',hcv⟩
    rcases e3 with q | q | q
    ·exact absurd q nl
    ·exact .inl q
    ·exact .inr q
 ·show (clrS own σ).length=N'.length
  rw [zfc,hlen]
  exact I.len
theorem zlh {N':List Str} {cenv:PySem.Env} {pins pl:List (Addr×Obj)} {σ σ':St} {H₂ H':Hp} {s₂ s':Shared} {fp:List Addr} {acc:Addr} {its:List Value} {n:Nat} {vs:List V}
  (I:Inv X pins σ H₂ s₂) (hf:∀ b∈fp,FpOk X pins H₂ b) (J:Inv (blk X N' s₂ H₂ cenv fp pins) pl σ' H' s') (hacc:s₂.heap.objs.size<=acc) (hn:H' acc=none)
  (ho:s'.heap.get? acc=some { cls:=.type "list",data:=.seq its.toArray n }) (r:Vals vs its) (hz:vs.length<=sizeLine):Inv X pins σ (upd H' acc (.lst vs)) s':=by
 have lt:∀ b o,s₂.heap.get? b=some o->b≠acc:=λb o e z=>absurd (Nat.lt_of_lt_of_le (Heap.lt_size e) (by rw [z];exact hacc)) (Nat.lt_irrefl _)
 refine I.call' (ch:=fp) J.os ⟨J.base.keep,J.base.slot,λb o e n hx=>?_,J.base.there,λb xs e=>?_,λb o u e=>?_,λb ps e=>?_⟩ (λb u e=>?_) J.bare (λb hb=>?_)
 ·rw [zaF (lt b o e)]
  exact J.base.free b o e n hx
 ·have:=J.base.tups b xs e
  rw [zaF (zaN this hn)]
  exact this
 ·have:=J.base.frzs b o u e
  rw [zaF (zaN this hn)]
  exact this
 ·obtain ⟨more,this⟩:=J.base.tbls b ps e
  refine ⟨more,?_⟩
  rw [zaF (zaN this hn)]
  exact this
 ·by_cases hb:b=acc
  ·subst hb
   rw [zaD] at e
   cases e
   exact ⟨hz,its,n,r,ho⟩
  ·rw [zaF hb] at e
   exact (J.hok b u e).stay (λc o _ q=>q) (λc q=>by rw [zaF (zaN q hn)];exact q) λc xs q=>by rw [zaF (zaN q hn)];exact q
 ·obtain ⟨_,h1,_,h3,h4,h5⟩:=hf b hb
  exact ⟨h3,h1,h4,h5⟩
end
end IT
set_option linter.all false
set_option maxHeartbeats 4000000
set_option maxRecDepth 100000
namespace IT
open PySem PySem.Spec L2
section
variable {X:Cx}
structure Gone (X:Cx) (pins:List (Addr×Obj)) (H:Hp) (C:Addr) (s:Shared):Prop where
 ns:∃ m,s.heap.Ns C m
 free:H C=none
 loc:C≠X.env.locals
 fs:C ∉ X.fs
 new:X.s₀.heap.objs.size<=C
 cel:∀ x c,X.env.cells.lookup x=some c->c≠C
 pin:∀ p∈X.pn++pins,p.1≠C
theorem zge {elt iter tg:Expr} {ifs:List Expr} {scope:Scope} {pos:Pos} {N':List Str} {own:List Nat} {wi:TI} {g:TG} {tc:TT} {te:TE} {pins:List (Addr×Obj)} {s:Shared} {σ:St} {H:Hp} {Q:VK}
  {cl:List (Str×Addr)} {RR:Value->Addr->Result->Shared->Prop}
  (hx:X.xe=λ_ _=>False) (hc:X.calm=true) (hkind:scope.kind=.function) (hcell:∀ y∈scope.names,y.2≠.cell)
  (hN:∀ (i:Nat) (x:Str),N'[i]?=some x->Vis (relabel scope X.env) x->i∈own\/(X.N[i]?=some x/\(X.env.kindOf x=some .cell\/X.env.kindOf x=some .free)/\(relabel scope X.env).names.lookup x≠some .local))
  (hlen:N'.length=X.N.length) (hcl1:∀ x c,cl.lookup x=some c->X.env.cells.lookup x=some c) (hcl2:∀ x∈scope.names,x.2=.free->∃ c,cl.lookup x.1=some c)
  (hi:PI X tg iter wi)
  (hB:∀ s₂ H₂ C fp,PG (blk X N' s₂ H₂ (compEnvC scope cl C X.env) fp pins) tg g/\PTs (blk X N' s₂ H₂ (compEnvC scope cl C X.env) fp pins) ifs tc/\PE (blk X N' s₂ H₂ (compEnvC scope cl C X.env) fp pins) elt te)
  (I:Inv X pins σ H s) (q:ziv wi own g tc te σ H Q)
  (hRR:∀ a C s' H',Inv X pins σ H' s'->Q (.ref a) H'->Gone X pins H' C s'->RR (.ref a) C (.ok .next) s') :
  wpAny (model X.prog X.w) X.A (eval iter X.env) (λx s₁=>wpAny (model X.prog X.w) X.A (pyIter x) (λit s₂=>wpAny (model X.prog X.w) X.A (newList []) (λacc s₃=>
   wpAny (model X.prog X.w) X.A (newFunctionEnv scope X.env.globals cl [] X.env.qual none .none (some X.env)) (λcenv s₄=>
    codeAny (model X.prog X.w) X.A (.compStart (.ListComp elt [⟨tg,iter,ifs,0⟩] scope pos) 0 it acc { cenv with scope:=relabel scope X.env }) (RR acc cenv.locals) s₄) X.xe s₃) X.xe s₂) X.xe s₁) X.xe s:=by
 refine thn (hi pins s σ H _ I q) λv s1 h1=>thn h1 λitv s2 h2=>?_
 obtain ⟨it,fp,tn,J,H2,e,I2,T,st2,f2,W,⟨m0,w0⟩,turn⟩:=h2
 subst e
 refine wpAny_newObj_type (wpAny_newFunctionEnv hcell (by intro y hy;simp at hy) (λh₁ hns₁ hsb₁=>?_) hkind)
 dsimp only at hns₁ hsb₁ ⊢
 generalize hG:s2.heap.push { cls:=.type "list",dict:=none,data:=.seq ([]:List Value).toArray }=G at hns₁ hsb₁ ⊢
 have hGs:G.objs.size=s2.heap.objs.size+1:=by rw [<-hG,Heap.size_push]
 rw [hGs] at hns₁ hsb₁ ⊢
 have hold:∀ b o,s2.heap.get? b=some o->h₁.get? b=some o:=λb o e=>hsb₁.extBut b o (Nat.ne_of_lt (Nat.lt_succ_of_lt (Heap.lt_size e))) (Heap.get?_push_of_some _ (hG▸Heap.get?_push_of_some _ e))
 have hacc:h₁.get? s2.heap.objs.size=some { cls:=.type "list",data:=.seq #[] }:=hsb₁.extBut _ _ (Nat.ne_of_lt (Nat.lt_succ_self _)) (Heap.get?_push_of_some _ (hG▸Heap.get?_push_size _ rfl))
 have hex:∀ b∈fp,b<s2.heap.objs.size:=λb hb=>by
  obtain ⟨o,ho,_⟩:=T.obj _ _ st2 b hb
  exact Heap.lt_size ho
 have J0:=znX (X:=X) (own:=own) (tk:=s2.toks+([]:List (Str×Value)).length) hkind hcell hN hlen hcl1 hcl2 I2 f2 hex hold ⟨_,hns₁⟩ hacc
 have st4:tn 0 h₁:=T.keep _ _ _ st2 λb hb o e=>hold b o e
 have frame:∀ b∈frs X.stack,b≠X.env.locals->b∈X.fs:=λb hb hne=>by
  rcases List.mem_cons.mp (I2.stkSub b hb) with z | z
  ·exact absurd z hne
  ·exact z
 have stat:∀ {H':Hp} {pl:List (Addr×Obj)},(∀ b∈fp,H' b=none)->(∀ p∈pl,∀ b∈fp,p.1≠b)->∀ b∈fp,FpOk (blk X N' s2 H2 (compEnvC scope cl (s2.heap.objs.size+1) X.env) fp pins) pl H' b:=by
  intro H' pl hn hp b hb
  obtain ⟨g0,g1,g2,g3,g4,g5⟩:=f2 b hb
  refine ⟨hn b hb,Nat.ne_of_lt (Nat.lt_succ_of_lt (hex b hb)),λhs=>?_,.inl hb,λx c e=>g4 x c (hcl1 x c e),λp hpp=>?_⟩
  ·exact g2 (frame b hs g1)
  ·rcases List.mem_append.mp hpp with z | z
   ·exact g5 p z
   ·exact hp p z b hb
 have accne:∀ b∈fp,s2.heap.objs.size≠b:=λb hb z=>absurd (hex b hb) (by rw [<-z];exact Nat.lt_irrefl _)
 have loop:codeAny (model X.prog X.w) X.A (.compLoop (.ListComp elt [⟨tg,iter,ifs,0⟩] scope pos) 0 (.ref it) (.ref s2.heap.objs.size) (compEnvC scope cl (s2.heap.objs.size+1) X.env)) (RR (.ref s2.heap.objs.size) (s2.heap.objs.size+1))
   { s2 with heap:=h₁,toks:=s2.toks+([]:List (Str×Value)).length }:=by
  refine zgR (λn s'=>∃ (i:Nat) (vs:List V) (H':Hp) (its:List Value) (nn:Nat),Inv (blk X N' s2 H2 (compEnvC scope cl (s2.heap.objs.size+1) X.env) fp pins) [(s2.heap.objs.size,{ cls:=.type "list",data:=.seq its.toArray nn })] (clrS own σ) H' s'/\tn i s'.heap ∧
    (∀ b∈fp,H' b=none)/\Vals vs its/\W i n vs H') ?_ m0 ⟨0,[],H2,[],0,J0,st4,λb hb=>(f2 b hb).1,.nil,w0⟩
  rintro n s3 ⟨i,vs,H3,its,nn,J3,st3,fr3,rv,w3⟩
  have pne:∀ p∈[(s2.heap.objs.size,({ cls:=.type "list",data:=.seq its.toArray nn }:Obj))],∀ b∈fp,p.1≠b:=by
   intro p hp b hb
   have ep:p=(s2.heap.objs.size,({ cls:=.type "list",data:=.seq its.toArray nn }:Obj)):=by simpa using hp
   rw [ep]
   exact accne b hb
  rcases turn i n vs H3 w3 with ⟨stop,hz,qn⟩ | ⟨go,hz,step⟩
  ·refine wpAny_mono (T.done (blk X N' s2 H2 (compEnvC scope cl (s2.heap.objs.size+1) X.env) fp pins) rfl rfl rfl hc i _ s3 _ H3 (λ_ _=>False) J3 (stat fr3 pne) st3 stop) (λr s4 ⟨hr,I4⟩=>?_) λ_ _ z=>z
   subst hr
   obtain ⟨ea,na,_,_,_⟩:=I4.pin (s2.heap.objs.size,_) (List.mem_append_right _ (List.mem_singleton.mpr rfl))
   have I5:=zlh (X:=X) I2 f2 I4 (Nat.le_refl _) na ea rv hz
   obtain ⟨m,hm,_⟩:=I4.loc
   refine hRR _ _ s4 _ I5 (qn _ na) ⟨⟨m,hm⟩,?_,?_,λhb=>?_,?_,λx c e=>?_,λp hp=>?_⟩
   ·rw [zaF (Nat.ne_of_gt (Nat.lt_succ_self _))]
    exact I4.free
   ·exact Nat.ne_of_gt (Nat.lt_succ_of_lt I2.lt)
   ·exact I2.nofs (Nat.le_succ _) hb
   ·exact Nat.le_trans I2.sz (Nat.le_succ _)
   ·obtain ⟨v,z⟩:=I2.cell x c e
    exact Nat.ne_of_lt (Nat.lt_succ_of_lt z.lt)
   ·exact Nat.ne_of_lt (Nat.lt_succ_of_lt (Heap.lt_size (I2.pin p hp).1))
  ·refine wpAny_mono (T.item (blk X N' s2 H2 (compEnvC scope cl (s2.heap.objs.size+1) X.env) fp pins) rfl rfl rfl hc i _ s3 _ H3 (λ_ _=>False) J3 (stat fr3 pne) st3 go) (λr s4 ⟨u,hr,h4⟩=>?_) λ_ _ z=>z
   subst hr
   refine wpAny_mono h4 (λ_ s5 ⟨x,H5,I5,r5,y5,st5,fr5⟩=>?_) λ_ _ z=>z
   have I5':=I5.pinned (stat fr5 pne) (T.obj _ _ st5)
   obtain ⟨hg,ht,he⟩:=hB s2 H2 (s2.heap.objs.size+1) fp
   have nx:∀ {e:Value} {s:Shared},(blk X N' s2 H2 (compEnvC scope cl (s2.heap.objs.size+1) X.env) fp pins).xe e s->False:=λz=>by
    have z':X.xe _ _:=z
    rw [hx] at z'
    exact z'
   refine wpAny_mono (hg _ s5 _ H5 x u _ I5' r5 (step x H5 y5)) (λ_ s6 ⟨σ6,H6,I6,q6⟩=>?_) λ_ _ z=>nx z
   refine wpAny_mono (ht _ s6 σ6 H6 _ I6 q6) (λok s7 ⟨H7,I7,q7⟩=>?_) λ_ _ z=>nx z
   have keepIt:∀ {σ8:St} {H8:Hp} {s8:Shared},Inv (blk X N' s2 H2 (compEnvC scope cl (s2.heap.objs.size+1) X.env) fp pins) ([(s2.heap.objs.size,({ cls:=.type "list",data:=.seq its.toArray nn }:Obj))]++zfY fp s5.heap) σ8 H8 s8 →
     tn (i+1) s8.heap/\∀ b∈fp,H8 b=none:=λ{σ8 H8 s8} I8=>by
    refine ⟨T.keep _ _ _ st5 λb hb o e=>(I8.pin (b,o) (List.mem_append_right _ (List.mem_append_right _ (zcn hb e)))).1,λb hb=>?_⟩
    obtain ⟨o,e,d⟩:=T.obj _ _ st5 b hb
    exact (I8.pin (b,o) (List.mem_append_right _ (List.mem_append_right _ (zcn hb e)))).2.1
   cases ok with
   | false=>
    simp only [Bool.false_eq_true,if_false] at q7 ⊢
    obtain ⟨m',hm',w7⟩:=q7
    obtain ⟨k1,k2⟩:=keepIt I7
    exact ⟨m',hm',i+1,vs,H7,its,nn,zfZ hcell hN hlen hcl1 hcl2 I2 f2 I7.unpinned,k1,k2,rv,w7⟩
   | true=>
    simp only [if_true] at q7 ⊢
    refine wpAny_mono (he _ s7 σ6 H7 _ I7 q7) (λy s8 ⟨vy,H8,I8,r8,m',hm',w8⟩=>?_) λ_ _ z=>nx z
    obtain ⟨k1,k2⟩:=keepIt I8
    obtain ⟨ea,na,nl,nf,nd⟩:=I8.unpinned.pin (s2.heap.objs.size,_) (List.mem_append_right _ (List.mem_singleton.mpr rfl))
    have hl:=rv.length
    refine call_meets F.slot_list_append ⟨_,ea,rfl⟩ F.entry_list_append (F.args_list_append_2 _ _) (PySem.list_append s2.heap.objs.size its.toArray nn y (by rw [List.size_toArray];omega)) ⟨ea,?_⟩
    have J8:=zfZ hcell hN hlen hcl1 hcl2 I2 f2 (I8.unpinned)
    have J8':Inv (blk X N' s2 H2 (compEnvC scope cl (s2.heap.objs.size+1) X.env) fp pins) [] (clrS own σ) H8 s8:=J8.pins_of λp hp=>absurd hp (by simp)
    have up:=Heap.get?_update_self (Obj.mapSeq λx_1=>x_1.push y) ea rfl
    obtain ⟨n',en⟩:∃ n',Obj.mapSeq (λx_1=>x_1.push y) ({ cls:=.type "list",data:=.seq its.toArray nn }:Obj)={ cls:=.type "list",data:=.seq (its.toArray.push y) n' }:=⟨_,rfl⟩
    have J9:=J8'.turned (t':=s8.toks) (it:=s2.heap.objs.size) (h':=s8.heap.update s2.heap.objs.size (Obj.mapSeq λx_1=>x_1.push y)) (λb o hb e=>(Heap.get?_update_other _ _ (Ne.symm hb)).trans e) na nl (.inr (Nat.le_refl _))
     (fun x c e=>by
      obtain ⟨v,z⟩:=I2.cell x c (hcl1 x c e)
      exact Nat.ne_of_lt z.lt)
     (fun p hp=>by
      have hp':p∈X.pn++pins:=by simpa [blk] using hp
      exact Nat.ne_of_lt (Heap.lt_size (I2.pin p hp').1))
    refine ⟨m',hm',i+1,vs++[vy],H8,its++[y],n',?_,T.keep _ _ _ k1 λb hb o e=>(Heap.get?_update_other _ _ (accne b hb)).trans e,k2,rv.append (.cons r8 .nil),w8⟩
    refine J9.pins_of λp hp=>?_
    have ep:p=(s2.heap.objs.size,({ cls:=.type "list",data:=.seq (its++[y]).toArray n' }:Obj)):=by simpa using hp
    subst ep
    refine ⟨?_,na,nl,nf,λv q=>by cases q⟩
    show (s8.heap.update s2.heap.objs.size (Obj.mapSeq λx_1=>x_1.push y)).get? s2.heap.objs.size=_
    rw [up]
    show some (Obj.mapSeq (λx_1=>x_1.push y) ({ cls:=.type "list",data:=.seq its.toArray nn }:Obj))=_
    rw [en]
    simp
 exact codeAny_compStart_list loop (T.self _ 0 _ _ _ st4 loop)
end
end IT
set_option linter.all false
set_option maxHeartbeats 4000000
set_option maxRecDepth 100000
namespace IT
open PySem PySem.Spec L2
section
variable {X:Cx}
structure zhi (X:Cx) (scope:Scope) (N':List Str) (own:List Nat):Prop where
 kind:scope.kind=.function
 cell:∀ y∈scope.names,y.2≠.cell
 names:∀ x∈scope.names,x.2=.local->scope.names.lookup x.1=some .local
 free:∀ x∈scope.names,x.2=.free->X.env.kindOf x.1=some .cell\/X.env.kindOf x.1=some .free
 slots:∀ (i:Nat) (x:Str),N'[i]?=some x->Vis (relabel scope X.env) x->i∈own\/(X.N[i]?=some x/\(X.env.kindOf x=some .cell\/X.env.kindOf x=some .free)/\(relabel scope X.env).names.lookup x≠some .local)
 len:N'.length=X.N.length
theorem Gone.turned {pins:List (Addr×Obj)} {σ:St} {H:Hp} {C:Addr} {s:Shared} {h':Heap} (g:Gone X pins H C s) (I:Inv X pins σ H s) (sb:Heap.SameBut C s.heap h'):Inv X pins σ H { s with heap:=h' }:=
 I.turned (t':=s.toks) (λb o hb e=>(sb.2 b hb).trans e) g.free g.loc (.inr g.new) g.cel g.pin
theorem zmv {elt iter tg:Expr} {ifs:List Expr} {scope:Scope} {pos:Pos} {N':List Str} {own:List Nat} {wi:TI} {g:TG} {tc:TT} {te:TE}
  (hx:X.xe=λ_ _=>False) (hc:X.calm=true) (K:zhi X scope N' own) (hi:PI X tg iter wi)
  (hB:∀ cl pins s₂ H₂ C fp,PG (blk X N' s₂ H₂ (compEnvC scope cl C X.env) fp pins) tg g/\PTs (blk X N' s₂ H₂ (compEnvC scope cl C X.env) fp pins) ifs tc/\PE (blk X N' s₂ H₂ (compEnvC scope cl C X.env) fp pins) elt te)
  (hs:∀ x,foldedSetIterable iter X.env x=pure x):PE X (.ListComp elt [⟨tg,iter,ifs,0⟩] scope pos) (ziv wi own g tc te):=by
 intro pins s σ H Q I q
 obtain ⟨cl,hclos,hcl1,hcl2⟩:=zcX (scope:=scope) (env:=X.env) (λx hx hf=>I.ok.has x.1 (K.free x hx hf))
 rw [eval_ListComp]
 refine wpAny_comprehension_free (use:=none) rfl hs hclos K.kind K.names (zge hx hc K.kind K.cell K.slots K.len hcl1 hcl2 hi (hB cl pins) I q ?_)
 intro a C s' H' I' q' gn
 obtain ⟨m,hm⟩:=gn.ns
 exact ⟨m,hm,λh' sb=>⟨.ref a,H',gn.turned I' sb,rfl,q'⟩⟩
theorem zhg {elt iter tg:Expr} {ifs:List Expr} {scope:Scope} {pos spos py:Pos} {y:Str} {iy:Nat} {N':List Str} {own:List Nat} {wi:TI} {g:TG} {tc:TT} {te:TE}
  (hx:X.xe=λ_ _=>False) (hc:X.calm=true) (K:zhi X scope N' own) (hi:PI X tg iter wi)
  (hB:∀ cl pins s₂ H₂ C fp,PG (blk X N' s₂ H₂ (compEnvC scope cl C X.env) fp pins) tg g/\PTs (blk X N' s₂ H₂ (compEnvC scope cl C X.env) fp pins) ifs tc/\PE (blk X N' s₂ H₂ (compEnvC scope cl C X.env) fp pins) elt te)
  (hs:∀ x,foldedSetIterable iter X.env x=pure x) (hsw:swapsWith (.ListComp elt [⟨tg,iter,ifs,0⟩] scope pos) (some (.Name y py)) spos.line X.env=pure true)
  (hg:PG X (.Name y py) (zlO iy)):PS X (.Assign [.Name y py] (.ListComp elt [⟨tg,iter,ifs,0⟩] scope pos) spos) (tAsg (ziv wi own g tc te) (zlO iy)):=by
 intro pins s σ H D I q
 obtain ⟨cl,hclos,hcl1,hcl2⟩:=zcX (scope:=scope) (env:=X.env) (λx hx hf=>I.ok.has x.1 (K.free x hx hf))
 rw [exec_Assign_Name_used _ _ _ _ hsw]
 refine wpAny_bind (wpAny_standAt (wpAny_bind ?_))
 show wpAny _ X.A (do let _<-comprehension (.ListComp elt [⟨tg,iter,ifs,0⟩] scope pos) scope X.env _ (newList []) false (eval iter X.env) (some (assign (.Name y py) X.env))) _ _ s
 refine wpAny_bind (wpAny_mono (wpAny_comprehension_free (use:=some (assign (.Name y py) X.env)) (Q:=λ_ s'=>SP X pins D .next s') rfl hs hclos K.kind K.names
  (zge hx hc K.kind K.cell K.slots K.len hcl1 hcl2 hi (hB cl pins) I q ?_)) (λ_ s' hq=>wpAny_pure (wpAny_pure hq)) λ_ _ e=>e)
 intro a C s' H' I' q' gn
 obtain ⟨m,o,es,ep,ho,hd,hr⟩:=id gn.ns
 have Ip:Inv X (pins++[(C,o)]) σ H' s':=I'.pins_of λp hp=>(List.mem_append.mp hp).elim (λz=>I'.pin p (List.mem_append_right _ z)) λz=>by
  have ep:p=(C,o):=by simpa using z
  subst ep
  exact ⟨ho,gn.free,gn.loc,gn.fs,λv z=>by rw [hd] at z;cases z⟩
 refine thn (hg _ s' σ H' (.ref a) (.ref a) _ Ip rfl q') λ_ s'' ⟨σ2,H2,I2,q2⟩=>?_
 obtain ⟨e1,e2,_,_,_⟩:=I2.pin (C,o) (List.mem_append_right _ (List.mem_append_right _ (List.mem_singleton.mpr rfl)))
 have gn2:Gone X pins H2 C s'':=⟨⟨m,o,es,ep,e1,hd,hr⟩,e2,gn.loc,gn.fs,gn.new,gn.cel,gn.pin⟩
 exact ⟨m,⟨o,es,ep,e1,hd,hr⟩,λh' sb=>⟨σ2,H2,gn2.turned I2.unpinned sb,q2⟩⟩
theorem RepE.clr {K:PySem.W.Frag} {μ:List Addr} {h:Sto} {H:Hp}:∀ (own:List Nat) {env:IT.Env} {σ:St},RepE K μ h H env σ->RepE K μ h H (clr own env) (clrS own σ)
 | [],env,σ,q=>q
 | i::r,env,σ,q=>by
  refine RepE.clr r ⟨by simp [q.len],λj rr e=>?_⟩
  by_cases hj:j=i
  ·subst hj
   rw [List.getElem?_set] at e
   simp only [if_true] at e
   split at e<;>cases e
  ·rw [List.getElem?_set_ne (Ne.symm hj)] at e ⊢
   exact q.get j rr e
structure ElK {α:Type} (K:PySem.W.Frag) (kp:R->M α) (Rel:List Addr->Sto->Hp->α->V->Prop):Prop where
 kp:∀ {μ h H r v d h'},Rep K μ h H->RepR K μ h H r v->kp r h=some (d,h')->Stp μ h H μ h' H/\Rep K μ h' H/\Rel μ h' H d v
 stp:∀ {μ h H μ' h' H' d v},Stp μ h H μ' h' H'->Rep K μ h H->Rel μ h H d v->Rel μ' h' H' d v
noncomputable def zgy {α:Type} (kp:R->M α) (t:Tg) (ft:IT.Env->M Bool) (fe:IT.Env->M R) (σ:IT.Env) (x:Ite):M (Option α):=
 bnd (za9 t x (clr t.slots σ)) λσ'=>bnd (ft σ') λb=>if b then bnd (fe σ') λr=>bnd (kp r) λd=>ok (some d) else ok none
noncomputable def tLsG {α:Type} (K:PySem.W.Frag) (Rel:List Addr->Sto->Hp->α->V->Prop) (f:IT.Env->M (List α)):TE:=λσ H Q=>∃ μ h env,Rep K μ h H/\RepE K μ h H env σ/\∃ xs h',f env h=some (xs,h') ∧
 ∀ μ' H' a vs,Stp μ h H μ' h' H'->Rep K μ' h' H'->Paired (Rel μ' h' H') xs vs->H' a=none->Q (.ref a) (upd H' a (.lst vs))
theorem zeM {α β:Type} {F:α->β->Prop}:∀ {xs xs':List α} {ys ys':List β},Paired F xs ys->Paired F xs' ys'->Paired F (xs++xs') (ys++ys')
 | _,_,_,_,.nil,q=>q
 | _,_,_,_,.cons r t,q=>.cons r (zeM t q)
theorem ziw {α:Type} {K:PySem.W.Frag} {kp:R->M α} {Rel:List Addr->Sto->Hp->α->V->Prop} (el:ElK K kp Rel) {t:Tg} {fi:IT.Env->M Wk} {ft:IT.Env->M Bool} {fe:IT.Env->M R} (hwl:∀ σ h w h',fi σ h=some (w,h')->WlOk w h') {σ:St} {H:Hp} {Q:VK}
  (q:tLsG K Rel (λσ=>bnd (fi σ) λw=>zb1 w.l (zgy kp t ft fe σ) w.xs) σ H Q):ziv (tI K fi) t.slots (tGI K t) (tTv K ft) (tE K fe) σ H Q:=by
 obtain ⟨μ,h,env,R0,re,zs,h',e,k⟩:=q
 simp only [zae] at e
 obtain ⟨w,h1,e1,e2⟩:=e
 refine ⟨μ,h,env,R0,re,w,h1,e1,λμ1 H1 J s1 R1 W1 hz=>?_⟩
 refine ⟨λi m vs H2=>∃ μ2 h2 ys rest,Stp μ1 h1 H1 μ2 h2 H2/\zbb w.l h1 h2=true/\Rep K μ2 h2 H2/\Paired (Rel μ2 h2 H2) ys vs/\i+m=w.xs.length/\ys.length<=i ∧
   zb1 w.l (zgy kp t ft fe env) (w.xs.drop i) h2=some (rest,h')/\ys++rest=zs,⟨w.xs.length,μ1,h1,[],zs,Stp.refl,zeL _ _ (hwl _ _ _ _ e1),R1,.nil,by omega,Nat.le_refl _,by rw [List.drop_zero];exact e2,rfl⟩,?_⟩
 rintro i m vs H2 ⟨μ2,h2,ys,rest,s2,sy2,R2,zy,him,hyl,el',eys⟩
 have hl:=zy.length
 cases hxx:w.xs[i]? with
 | none=>
  have hi':w.xs.length<=i:=by simpa using hxx
  have hi2:i=w.xs.length:=by omega
  subst hi2
  rw [List.drop_of_length_le (Nat.le_refl _)] at el'
  simp only [zb1,zaf] at el'
  obtain ⟨rfl,rfl⟩:=el'
  rw [List.append_nil] at eys
  subst eys
  exact .inl ⟨W1.stop μ2 h2 H2 s2 R2 sy2,by omega,λa ha=>k μ2 H2 a vs (s1.trans s2) R2 zy ha⟩
 | some x=>
  have hil:i<w.xs.length:=(List.getElem?_eq_some_iff.mp hxx).1
  have hdrop:w.xs.drop i=x::w.xs.drop (i+1):=by
   rw [List.drop_eq_getElem_cons hil]
   have:=(List.getElem?_eq_some_iff.mp hxx).2
   rw [this]
  rw [hdrop] at el'
  simp only [zb1] at el'
  obtain ⟨go,yld⟩:=W1.go μ2 h2 H2 i x s2 R2 sy2 hxx
  cases ef:zgy kp t ft fe env x h2 with
  | none=>rw [ef] at el';cases el'
  | some p=>
   obtain ⟨od,h3⟩:=p
   rw [ef] at el'
   simp only [zgy,zae] at ef
   obtain ⟨env4,h4,e4,tt,h5,e5,e6⟩:=ef
   have:=zf5 e4
   subst this
   refine .inr ⟨go,by omega,λv H' hy=>?_⟩
   obtain ⟨sY,RY,zx⟩:=yld v H' hy
   refine ⟨μ2,_,clr t.slots env,x,env4,RY,RepE.clr _ ((re.stp (s1.trans s2) R0).stp sY R2),zx,e4,λσ4 re4=>⟨μ2,_,env4,RY,re4,tt,h5,e5,λμ5 H5 b s5' R5 hb=>?_⟩⟩
   have s5:=sY.trans s5'
   subst hb
   simp only at el'
   split at el'
   ·rename_i sy3
    simp only [zae,zaf] at el'
    obtain ⟨rest',h6,el'',er,rfl⟩:=el'
    cases tt with
    | false=>
     simp only [Bool.false_eq_true,if_false,zaf] at e6 ⊢
     obtain ⟨rfl,rfl⟩:=e6
     refine ⟨m-1,by omega,μ5,_,ys,rest',s2.trans s5,zbT sy2 sy3,R5,L2.Paired.mapP zy λd v z=>el.stp s5 R2 z,by omega,by omega,el'',?_⟩
     rw [<-eys,<-er]
    | true=>
     simp only [if_true,zae,zaf] at e6 ⊢
     obtain ⟨r,h7,e7,d,h8,e8,rfl,rfl⟩:=e6
     refine ⟨μ5,h5,env4,R5,re4.stp s5' RY,r,h7,e7,λμ6 H6 v6 s6 R6 q6=>?_⟩
     obtain ⟨s7,R7,zd⟩:=el.kp R6 q6 e8
     refine ⟨m-1,by omega,μ6,_,ys++[d],rest',((s2.trans s5).trans s6).trans s7,zbT sy2 sy3,R7,zeM (L2.Paired.mapP zy λd v z=>el.stp s7 R6 (el.stp s6 R5 (el.stp s5 R2 z))) (.cons zd .nil),by omega,by simp;omega,el'',?_⟩
     rw [<-eys,<-er]
     simp
   ·cases el'
theorem zr1 (K:PySem.W.Frag):ElK K fz (λμ h H d v=>RepD K (Live μ h) H d v):=⟨ziW,λs r q=>RepD.stp s r q⟩
theorem zhB:∀ {K:PySem.W.Frag} {A:Addr->Prop} {H:Hp} {xs:List D} {vs:List V},Paired (RepD K A H) xs vs->RepDs K A H xs vs
 | _,_,_,_,_,.nil=>.nil
 | _,_,_,_,_,.cons r t=>.cons r (zhB t)
noncomputable def zqF (t:Tg) (ft:IT.Env->M Bool) (fe:IT.Env->M R) (σ:IT.Env) (x:Ite):M (Option D):=zgy fz t ft fe σ x
theorem zjV {K:PySem.W.Frag} {t:Tg} {fi:IT.Env->M Wk} {ft:IT.Env->M Bool} {fe:IT.Env->M R} (hwl:∀ σ h w h',fi σ h=some (w,h')->WlOk w h') {σ:St} {H:Hp} {Q:VK}
  (q:tLs K (λσ=>bnd (fi σ) λw=>zb1 w.l (zqF t ft fe σ) w.xs) σ H Q):ziv (tI K fi) t.slots (tGI K t) (tTv K ft) (tE K fe) σ H Q:=by
 refine ziw (zr1 K) hwl ?_
 obtain ⟨μ,h,env,R0,re,zs,h',e,k⟩:=q
 exact ⟨μ,h,env,R0,re,zs,h',e,λμ' H' a vs st R1 z ha=>k μ' H' a vs st R1 (zhB z) ha⟩
end
end IT
set_option linter.all false
set_option maxHeartbeats 4000000
set_option maxRecDepth 100000
namespace IT
open PySem PySem.Spec L2
section
variable {X:Cx}
theorem zlr {st:Stmt}:PS X st (tS X.K λ_ _=>none):=λpins s σ H D I ⟨μ,h,env,R0,re,fl,env',h',e,k⟩=>by cases e
theorem zk5 {e:Expr}:IE X e (λ_ _=>none):=λpins s σ H Q I ⟨μ,h,env,R0,re,r,h',e,k⟩=>by cases e
theorem zfV:∀ {xs:List D} {bs:List Bool},zba xs=some bs->bs.length=xs.length
 | [],bs,e=>by simp only [zba,Option.some.injEq] at e;subst e;rfl
 | x :: xs,bs,e=>by
  simp only [zba] at e
  split at e
  ·split at e
   ·rename_i es
    simp only [Option.some.injEq] at e
    subst e
    simp only [List.length_cons,zfV es]
   ·cases e
  ·cases e
theorem zhz:∀ {xs:List D} {bs:List Bool} {i:Nat} {d:D},zba xs=some bs->xs[i]?=some d->∃ b,bs[i]?=some b/\tru d=some b
 | [],bs,i,d,e,ed=>by simp at ed
 | x :: xs,bs,i,d,e,ed=>by
  simp only [zba] at e
  split at e
  ·rename_i b eb
   split at e
   ·rename_i l es
    simp only [Option.some.injEq] at e
    subst e
    cases i with
    | zero=>
     simp only [List.getElem?_cons_zero,Option.some.injEq] at ed
     subst ed
     exact ⟨b,rfl,eb⟩
    | succ i=>
     obtain ⟨c,e1,e2⟩:=zhz (i:=i) (d:=d) es (by simpa using ed)
     exact ⟨c,by simpa using e1,e2⟩
   ·cases e
  ·cases e
theorem ziD (bs:List Bool):(List.range bs.length).all (λi=>bs.getD i false)=bs.all id:=by
 rw [Bool.eq_iff_iff,List.all_eq_true,List.all_eq_true]
 constructor
 ·intro h b hb
  obtain ⟨i,hi,e⟩:=List.getElem_of_mem hb
  have:=h i (by simpa using hi)
  rw [List.getD_eq_getElem?_getD,List.getElem?_eq_getElem hi] at this
  simpa [e] using this
 ·intro h i hi
  have hi':i<bs.length:=by simpa using hi
  rw [List.getD_eq_getElem?_getD,List.getElem?_eq_getElem hi']
  exact h _ (List.getElem_mem hi')
theorem zjK (bs:List Bool):(List.range bs.length).any (λi=>bs.getD i false)=bs.any id:=by
 rw [Bool.eq_iff_iff,List.any_eq_true,List.any_eq_true]
 constructor
 ·rintro ⟨i,hi,h⟩
  have hi':i<bs.length:=by simpa using hi
  rw [List.getD_eq_getElem?_getD,List.getElem?_eq_getElem hi'] at h
  exact ⟨_,List.getElem_mem hi',by simpa using h⟩
 ·rintro ⟨b,hb,h⟩
  obtain ⟨i,hi,e⟩:=List.getElem_of_mem hb
  refine ⟨i,by simpa using hi,?_⟩
  rw [List.getD_eq_getElem?_getD,List.getElem?_eq_getElem hi]
  simpa [e] using h
noncomputable def zgZ (prog:Program) (w:World) (A:Around) (Hs:Shared->Prop) (P:Nat->Value->Prop) (tr:Nat->Bool):Prop:=
 ∀ i v (t:Shared) (Q:Bool->Shared->Prop) (E:Value->Shared->Prop),P i v->Hs t->(∀ tk,Q (tr i) { t with toks:=tk })->wpAny (model prog w) A (truthy v) Q E t
theorem zcm {n i:Nat} (h:i<n):(List.range n).drop i=i::(List.range n).drop (i+1):=by
 rw [List.drop_eq_getElem_cons (by simpa using h)]
 simp
section
variable {prog:Program} {w:World} {A:Around} {R:Result->Shared->Prop} {I:Addr} {fp wr:List Addr} {n:Nat} {P:Nat->Value->Prop} {St:Nat->Heap->Prop} {Hs:Shared->Prop}
theorem zjO (W:Walks prog w A.in1 I fp wr n P St) (tr:Nat->Bool) (hs:∀ t h' tk,Hs t->(∀ b o,b ∉ wr->t.heap.get? b=some o->h'.get? b=some o)->Hs { t with heap:=h',toks:=tk }) (htr:zgZ prog w A.in1 Hs P tr) (k:Nat) :
  ∀ (i:Nat) (t:Shared),n-i=k->i<=n->St i t.heap->Hs t →
   (∀ h' tk,(∀ b o,b ∉ wr->t.heap.get? b=some o->h'.get? b=some o)->R (.ok (.ret (.bool (((List.range n).drop i).any tr)))) { t with heap:=h',toks:=tk })->codeAny (model prog w) A (.builtin "any.loop" ⟨[.ref I],[]⟩) R t:=by
 induction k with
 | zero=>
  intro i t hk hi st ht hR
  obtain rfl:i=n:=by omega
  refine codeAny_builtin F.entry_any_loop ?_
  rw [Around.under_plainId F.plain_any_loop _]
  refine wpAny_bind (m:=pyNext (.ref I)) (W.done t _ _ st λh' tk e=>wpAny_bind (wpAny_rule (wpAny_pure ?_)))
  have z:=hR h' tk e
  rwa [List.drop_of_length_le (by simp)] at z
 | succ k ih=>
  intro i t hk hi st ht hR
  have hlt:i<n:=by omega
  refine codeAny_builtin F.entry_any_loop ?_
  rw [Around.under_plainId F.plain_any_loop _]
  refine wpAny_bind (m:=pyNext (.ref I)) (W.item i t _ _ hlt st λv h' tk hP st' e=>wpAny_bind (wpAny_holding (htr i v _ _ _ hP (hs t h' tk ht e) λtk2=>wpAny_bind (wpAny_letGo ?_))))
  cases hb:tr i with
  | false=>
   simp only [Bool.false_eq_true,if_false]
   refine wpAny_pure ⟨plainId_quiet F.plain_any_loop _,ih (i+1) _ (by omega) hlt st' (hs t h' tk2 ht e) λh2 tk3 e2=>?_⟩
   have z:=hR h2 tk3 λb o hbw eb=>e2 b o hbw (e b o hbw eb)
   rwa [zcm hlt,List.any_cons,hb,Bool.false_or] at z
  | true=>
   simp only [if_true]
   refine wpAny_bind (wpAny_rule (wpAny_pure ?_))
   have z:=hR h' tk2 e
   rwa [zcm hlt,List.any_cons,hb,Bool.true_or] at z
theorem zjf (W:Walks prog w A.in1 I fp wr n P St) (tr:Nat->Bool) (hs:∀ t h' tk,Hs t->(∀ b o,b ∉ wr->t.heap.get? b=some o->h'.get? b=some o)->Hs { t with heap:=h',toks:=tk }) (htr:zgZ prog w A.in1 Hs P tr) (k:Nat) :
  ∀ (i:Nat) (t:Shared),n-i=k->i<=n->St i t.heap->Hs t →
   (∀ h' tk,(∀ b o,b ∉ wr->t.heap.get? b=some o->h'.get? b=some o)->R (.ok (.ret (.bool (((List.range n).drop i).all tr)))) { t with heap:=h',toks:=tk })->codeAny (model prog w) A (.builtin "all.loop" ⟨[.ref I],[]⟩) R t:=by
 induction k with
 | zero=>
  intro i t hk hi st ht hR
  obtain rfl:i=n:=by omega
  refine codeAny_builtin F.entry_all_loop ?_
  rw [Around.under_plainId F.plain_all_loop _]
  refine wpAny_bind (m:=pyNext (.ref I)) (W.done t _ _ st λh' tk e=>wpAny_bind (wpAny_rule (wpAny_pure ?_)))
  have z:=hR h' tk e
  rwa [List.drop_of_length_le (by simp)] at z
 | succ k ih=>
  intro i t hk hi st ht hR
  have hlt:i<n:=by omega
  refine codeAny_builtin F.entry_all_loop ?_
  rw [Around.under_plainId F.plain_all_loop _]
  refine wpAny_bind (m:=pyNext (.ref I)) (W.item i t _ _ hlt st λv h' tk hP st' e=>wpAny_bind (wpAny_holding (htr i v _ _ _ hP (hs t h' tk ht e) λtk2=>wpAny_bind (wpAny_letGo ?_))))
  cases hb:tr i with
  | true=>
   simp only [if_true]
   refine wpAny_pure ⟨plainId_quiet F.plain_all_loop _,ih (i+1) _ (by omega) hlt st' (hs t h' tk2 ht e) λh2 tk3 e2=>?_⟩
   have z:=hR h2 tk3 λb o hbw eb=>e2 b o hbw (e b o hbw eb)
   rwa [zcm hlt,List.all_cons,hb,Bool.true_and] at z
  | false=>
   simp only [Bool.false_eq_true,if_false]
   refine wpAny_bind (wpAny_rule (wpAny_pure ?_))
   have z:=hR h' tk2 e
   rwa [zcm hlt,List.all_cons,hb,Bool.false_and] at z
end
theorem zes (hc:X.calm=true) (all:Bool):znq X (.builtin (if all then "all" else "any")) (biD (if all then .all else .any)):=by
 intro pins s σ H vs us Q I r q
 obtain ⟨μ,h,ds,z,R0,pr,e,k⟩:=q
 cases pr with
 | nil=>cases all<;>exact zag e
 | @cons d v ds vs qd pr=>
  cases pr with
  | cons _ _=>cases all<;>cases d<;>exact zag e
  | nil=>
   cases d with
   | lst xs=>
    obtain ⟨p,ws,rfl,q1,z1⟩:=qd
    have eb:∃ bs,zba xs=some bs/\z=.bl (if all then bs.all id else bs.any id):=by
     cases hb:zba xs with
     | none=>cases all<;>(change (match zba xs with | some bs=>_ | none=>_)=_ at e;rw [hb] at e;exact zag e)
     | some bs=>cases all<;>(change (match zba xs with | some bs=>_ | none=>_)=_ at e;rw [hb] at e;exact ⟨bs,rfl,(Option.some.inj e).symm⟩)
    obtain ⟨bs,eb,rfl⟩:=eb
    obtain ⟨u,rfl,rx⟩:=zkQ r
    cases rx
    obtain ⟨its,ri,pl,hz⟩:=I.list q1
    have hl1:=z1.length
    have hl2:=ri.length
    have hl3:=zfV eb
    have hne:p≠s.heap.objs.size:=by
     obtain ⟨o,n,eo,_⟩:=id pl
     exact Nat.ne_of_lt (Heap.lt_size eo)
    have W:=Walks.list (prog:=X.prog) (w:=X.w) (A:=X.A.in1) (I.ok.hd hc) s.heap.objs.size p hne its.toArray
    let Hs:Shared->Prop:=λt=>∃ h' tk,t={ s with heap:=h',toks:=tk }/\∀ a o,s.heap.get? a=some o->h'.get? a=some o
    have hs:∀ t h' tk,Hs t->(∀ b o,b ∉ [s.heap.objs.size]->t.heap.get? b=some o->h'.get? b=some o)->Hs { t with heap:=h',toks:=tk }:=by
     rintro t h' tk ⟨h1,tk1,rfl,e1⟩ e2
     exact ⟨h',tk,rfl,λa o ea=>e2 a o (by simp;exact Nat.ne_of_lt (Heap.lt_size ea)) (e1 a o ea)⟩
    have htr:zgZ X.prog X.w X.A.in1 Hs (λi v=>its.toArray[i]?=some v) (λi=>bs.getD i false):=by
     rintro i v t Q1 E1 ei ⟨h1,tk1,rfl,e1⟩ hq
     have ei':its[i]?=some v:=by simpa using ei
     have hi:i<its.length:=(List.getElem?_eq_some_iff.mp ei').1
     obtain ⟨d,ed⟩:∃ d,xs[i]?=some d:=⟨xs[i]'(by omega),List.getElem?_eq_getElem _⟩
     obtain ⟨b,e2,e3⟩:=zhz eb ed
     obtain ⟨v2,e4,e5⟩:=z1.get ed
     have rv:RelV v2 v:=by
      have:=zc4 ri e4 hi
      rwa [(List.getElem?_eq_some_iff.mp ei').2] at this
     have e6:bs.getD i false=b:=by rw [List.getD_eq_getElem?_getD,e2];rfl
     simp only [e6] at hq
     exact zjU (I.kept (t':=tk1) e1) (RdD.of e5) rv e3 hq
    have st0:(s.heap.push { cls:=.type "list_iterator",data:=.fields #[.ref p,.int 0 0] }).IsListIter s.heap.objs.size p 0/\(s.heap.push { cls:=.type "list_iterator",data:=.fields #[.ref p,.int 0 0] }).IsList p its.toArray:=by
     refine ⟨⟨_,Heap.get?_push_size _ rfl,rfl,rfl⟩,?_⟩
     obtain ⟨o,eo,hcl,n,hd⟩:=pl.isList
     exact ⟨o,Heap.get?_push_of_some _ eo,hcl,n,hd⟩
    have hs0:Hs { s with heap:=s.heap.push { cls:=.type "list_iterator",data:=.fields #[.ref p,.int 0 0] } }:=⟨_,s.toks,rfl,λa o ea=>Heap.get?_push_of_some _ ea⟩
    have hsz:its.toArray.size=bs.length:=by simp;omega
    have fin:∀ (b:Bool) (h':Heap) (tk:Nat),(∀ b o,b ∉ [s.heap.objs.size]->(s.heap.push { cls:=.type "list_iterator",data:=.fields #[.ref p,.int 0 0] }).get? b=some o->h'.get? b=some o)->Q (.bl b) H->EP X pins σ Q (.bool b) { s with heap:=h',toks:=tk }:=by
     intro b h' tk hk q
     refine ⟨.bl b,H,I.kept (t':=tk) λa o ea=>hk a o (by simp;exact Nat.ne_of_lt (Heap.lt_size ea)) (Heap.get?_push_of_some _ ea),rfl,q⟩
    have hq:=k μ H (.bl (if all then bs.all id else bs.any id)) Stp.refl R0 (by simp only [RepD])
    cases all with
    | true=>
     refine call_function_tree F.kind_all F.plain_all F.entry_all (F.args_all1 _) ?_
     unfold Builtin.«all»
     refine wpAny_bind (m:=oneArg "all" _) (wpAny_pure (wpAny_bind (wpAny_pyIter_list pl.isList (wpAny_pure ⟨plainId_quiet F.plain_all_loop _,zjf W _ hs htr _ 0 _ rfl (Nat.zero_le _) st0 hs0 λh' tk hk=>?_⟩))))
     rw [List.drop_zero,hsz,ziD]
     exact fin _ h' tk hk hq
    | false=>
     refine call_function_tree F.kind_any F.plain_any F.entry_any (F.args_any1 _) ?_
     unfold Builtin.«any»
     refine wpAny_bind (m:=oneArg "any" _) (wpAny_pure (wpAny_bind (wpAny_pyIter_list pl.isList (wpAny_pure ⟨plainId_quiet F.plain_any_loop _,zjO W _ hs htr _ 0 _ rfl (Nat.zero_le _) st0 hs0 λh' tk hk=>?_⟩))))
     rw [List.drop_zero,hsz,zjK]
     exact fin _ h' tk hk hq
   | _=>cases all<;>exact zag e
end
end IT
set_option linter.all false
set_option maxHeartbeats 4000000
set_option maxRecDepth 100000
namespace IT
open PySem PySem.Spec L2
noncomputable def tyS:Ty->String
 | .int=>"int"
 | .str=>"str"
 | .bool=>"bool"
 | .list=>"list"
 | .tuple=>"tuple"
section
variable {K:PySem.W.Frag}
theorem zmX (t:Ty):PySem.W.kitOne K (.type "NoneType") (.type (tyS t))=some (isiD t .non):=by cases t<;>rfl
theorem zpJ (t:Ty) (b:Bool):PySem.W.kitOne K (.type "bool") (.type (tyS t))=some (isiD t (.bl b)):=by cases t<;>rfl
theorem zmL (t:Ty) (i:Int):PySem.W.kitOne K (.type "int") (.type (tyS t))=some (isiD t (.int i)):=by cases t<;>rfl
theorem zmK (t:Ty) (x:List Nat):PySem.W.kitOne K (.type "str") (.type (tyS t))=some (isiD t (.str x)):=by cases t<;>rfl
theorem znN (t:Ty) (x:List D):PySem.W.kitOne K (.type "tuple") (.type (tyS t))=some (isiD t (.tup x)):=by cases t<;>rfl
theorem zoe (t:Ty) (x:List D):PySem.W.kitOne K (.type "list") (.type (tyS t))=some (isiD t (.lst x)):=by cases t<;>rfl
end
section
variable {X:Cx}
theorem zlU (t:Ty):zdH X (.builtin "isinstance") (λvs H Q=>∃ A d v,RdD X.K A H d v/\vs=[v,.ty (tyS t)]/\Q (.bl (isiD t d)) H):=by
 intro pins s σ H vs us Q I r q
 obtain ⟨A,d,v,qd,rfl,q⟩:=q
 cases r with
 | cons r1 r=>
  cases r with
  | cons r2 r=>
   cases r
   rename_i u1 u2
   have e2:u2=Value.type (tyS t):=r2
   subst e2
   have fin:∀ tk:Nat,EP X pins σ Q (.bool (isiD t d)) { s with toks:=tk }:=λtk=>⟨.bl (isiD t d),H,I.tok tk,rfl,q⟩
   cases d with
   | non=>
    simp only [RdD,RepD] at qd;subst qd
    have e1:u1=Value.none:=r1
    subst e1
    exact PySem.W.kia_one PySem.W.kitx_none I.kIn True.intro (zmX t) (λz=>nomatch z) fin
   | bl b=>
    simp only [RdD,RepD] at qd;subst qd
    have e1:u1=Value.bool b:=r1
    subst e1
    exact PySem.W.kia_one PySem.W.kitx_bool I.kIn True.intro (zpJ t b) (λz=>nomatch z) fin
   | int i=>
    simp only [RdD,RepD] at qd;subst qd
    obtain ⟨t',e1⟩:=(show ∃ t',u1=Value.int i t' from r1)
    subst e1
    exact PySem.W.kia_one PySem.W.kitx_int I.kIn True.intro (zmL t i) (λz=>nomatch z) fin
   | str x=>
    simp only [RdD,RepD] at qd;subst qd
    obtain ⟨t',e1⟩:=(show ∃ t',u1=Value.str (zac x) t' from r1)
    subst e1
    exact PySem.W.kia_one PySem.W.kitx_str I.kIn True.intro (zmK t x) (λz=>nomatch z) fin
   | tup xs=>
    simp only [RdD,RepD] at qd
    obtain ⟨a,ws,rfl,q1,_⟩:=qd
    have e1:u1=Value.ref a:=r1
    subst e1
    obtain ⟨its,ri,⟨o,h1,h2,_⟩,hz⟩:=I.tuple q1
    exact PySem.W.kia_one PySem.W.kitx_tuple I.kIn ⟨o,h1,h2⟩ (znN t xs) (λz=>nomatch z) fin
   | lst xs=>
    obtain ⟨a,ws,rfl,q1,_⟩:=qd
    have e1:u1=Value.ref a:=r1
    subst e1
    obtain ⟨its,ri,⟨o,n,h1,h2,_⟩,hz⟩:=I.list q1
    exact PySem.W.kia_one PySem.W.kitx_list I.kIn ⟨o,h1,h2⟩ (zoe t xs) (λz=>nomatch z) fin
theorem zno (t:Ty):bootBuiltins (Str.ofString (tyS t))=some (.type (tyS t)):=by cases t<;>decide +kernel
theorem zpn {t:Ty} {e:Expr} {x:Str} {p p2 pos:Pos} {f:IT.Env->M R} (hg:Gl X "isinstance") (hm:X.mg "isinstance"=none) (he:IE X e f) (hx:x=Str.ofString (tyS t)) (hg2:Gl X x) (hm2:X.mg x=none) (hs:starEach [e,.Name x p2] X.env=[(false,eval e X.env),(false,eval (.Name x p2) X.env)]) :
  IE X (.Call (.Name "isinstance" p) [e,.Name x p2] [] pos) (λσ=>bnd (f σ) λr=>bnd (rd r) λd=>ok (.d (.bl (isiD t d)))):=by
 subst hx
 have hn:Str.ofString (tyS t) ≠ "__name__":=by cases t<;>decide
 have hdb:(Str.ofString (tyS t)==("__debug__":Str))=false:=by cases t<;>decide
 have h2:PE X (.Name (Str.ofString (tyS t)) p2) (tC (.ty (tyS t))):=zog hg2 hm2 (zno t) rfl hn hdb
 refine PE.imp (zcR (zlU t) hg hm PyProof.Rows.boot_isinstance (zby he (zby h2 zc9 rfl) hs) (by decide) (by decide) hs rfl) λσ H Q q0=>?_
 obtain ⟨μ,h,env,R0,re,r,h',e,k⟩:=q0
 simp only [zae,zaf] at e
 obtain ⟨r1,h1,e1,d,h2',e2,rfl,rfl⟩:=e
 refine ⟨μ,h,env,R0,re,r1,h1,e1,λμ1 H1 v s1 R1 q1=>?_⟩
 obtain ⟨rfl,z⟩:=zbN R1 q1 e2
 exact ⟨_,d,v,z,rfl,k μ1 H1 _ s1 R1 (by simp only [RepR,RepD])⟩
theorem RepDs.dropLast {K:PySem.W.Frag} {A:Addr->Prop} {H:Hp} {xs:List D} {vs:List V} (q:RepDs K A H xs vs):RepDs K A H xs.dropLast vs.dropLast:=by
 rw [List.dropLast_eq_take,List.dropLast_eq_take,q.length]
 exact q.take _
theorem RepDs.eraseIdx {K:PySem.W.Frag} {A:Addr->Prop} {H:Hp} {xs:List D} {vs:List V} (k:Nat) (q:RepDs K A H xs vs):RepDs K A H (xs.eraseIdx k) (vs.eraseIdx k):=by
 rw [List.eraseIdx_eq_take_drop_succ,List.eraseIdx_eq_take_drop_succ]
 exact (q.take k).app (q.drop (k+1))
end
end IT
set_option linter.all false
set_option maxHeartbeats 4000000
set_option maxRecDepth 100000
namespace IT
open PySem PySem.Spec L2
open PySem.StrLaws Builtin.Str
section
variable {X:Cx}
theorem ziR:MtR X "str.startswith" (λx vs H Q=>∃ z y:List Nat,x=.str (zac z)/\vs=[.str (zac y)]/\Q (.bl (y.isPrefixOf z)) H):=by
 intro pins s σ H x xs v us Q I rx rs q
 obtain ⟨z,y,rfl,rfl,q⟩:=q
 obtain ⟨t,rfl⟩:=(show ∃ t',v=Value.str (zac z) t' from rx)
 obtain ⟨u,rfl,ru⟩:=rs.one
 obtain ⟨t2,rfl⟩:=(show ∃ t',u=Value.str (zac y) t' from ru)
 refine call_meets F.slot_str_startswith (typeIs_str _ _ _) F.entry_str_startswith (F.args_str_startswith_2 _ _) (gives_str_startswith _ _ _ _).meets ?_
 have e:(decide (0+(zac y).length<=(zac z).length)&&subAt (zac z) (zac y) 0)=y.isPrefixOf z:=by
  have h:=zet z y 0
  unfold At at h
  rw [Bool.eq_iff_iff,Bool.and_eq_true,decide_eq_true_iff]
  refine h.trans ?_
  simp only [List.drop_zero,Nat.zero_add]
  constructor
  ·exact λh=>h.2
  ·exact λh=>⟨(List.isPrefixOf_iff_prefix.mp h).length_le,h⟩
 rw [e]
 exact ⟨.bl _,H,I,rfl,q⟩
theorem zd1:∀ {l:List (List Nat)} {us:List Value},Vals (l.map λx=>V.str (zac x)) us->∃ ps:List (Str×Tok),us=strValues ps/\ps.map (·.1)=l.map zac
 | [],us,r=>⟨[],r.zero,rfl⟩
 | x::l,us,r=>by
  cases r with
  | cons r1 r=>
   obtain ⟨t,rfl⟩:=(show ∃ t',_=Value.str (zac x) t' from r1)
   obtain ⟨ps,rfl,e⟩:=zd1 r
   exact ⟨(zac x,t)::ps,rfl,by simp [e]⟩
theorem zhK (z:Str):∀ (l:List Str) (n:Nat),l.foldl (λa y=>a+y.length+z.length) n=n+(l.map λy=>y.length+z.length).sum
 | [],n=>by simp
 | y::l,n=>by
  simp only [List.foldl_cons,List.map_cons,List.sum_cons]
  rw [zhK z l]
  omega
theorem zfW (z:List Nat):∀ (l:List (List Nat)) (x:List Nat),(l.map zac).foldl (λacc p=>acc++(zac z).cps++p.cps) (zac x).cps=(zac (x++(l.map λy=>z++y).flatten)).cps
 | [],x=>by simp
 | y::l,x=>by
  simp only [List.map_cons,List.foldl_cons,List.flatten_cons]
  have e:(zac x).cps++(zac z).cps++(zac y).cps=(zac (x++(z++y))).cps:=by simp [zac]
  rw [e,zfW z l]
  simp
theorem zkn (z:List Nat):∀ l:List (List Nat),glued (zac z) (l.map zac)=zac (catS z l)
 | []=>rfl
 | x::l=>by
  have:=zfW z l x
  show (⟨(l.map zac).foldl (λacc p=>acc++(zac z).cps++p.cps) (zac x).cps⟩:Str)=_
  rw [this]
  rfl
theorem cat_len (z:List Nat):∀ l:List (List Nat),(catS z l).length<=(l.map λy=>y.length+z.length).sum
 | []=>by simp [catS]
 | x::l=>by
  have h:∀ l:List (List Nat),((l.map λy=>z++y).flatten).length=(l.map λy=>y.length+z.length).sum:=by
   intro l
   induction l with
   | nil=>rfl
   | cons y l ih=>simp [ih];omega
  simp only [catS,List.length_append,h,List.map_cons,List.sum_cons]
  omega
theorem znr:MtR X "str.join" (λx vs H Q=>∃ (z:List Nat) (p:Addr) (l:List (List Nat)),x=.str (zac z)/\vs=[.ref p]/\(SqL X.K H p (l.map λx=>V.str (zac x))\/SqT X.K H p (l.map λx=>V.str (zac x)))/\(l.map λy=>y.length+z.length).sum<=sizeLine/\Q (.str (zac (catS z l))) H):=by
 intro pins s σ H x xs v us Q I rx rs q
 obtain ⟨z,p,l,rfl,rfl,sq,hz,q⟩:=q
 obtain ⟨t,rfl⟩:=(show ∃ t',v=Value.str (zac z) t' from rx)
 obtain ⟨u,rfl,ru⟩:=rs.one
 cases ru
 have long:∀ ps:List (Str×Tok),ps.map (·.1)=l.map zac->Builtin.Str.tooLong ((ps.map (·.1)).toArray.foldl (·+·.length+(zac z).length) 0)=false:=by
  intro ps e
  rw [e]
  have h2:(l.map zac).toArray.foldl (λa y=>a+y.length+(zac z).length) 0=(l.map λy=>y.length+z.length).sum:=by
   rw [List.foldl_toArray,zhK]
   simp [zai,Function.comp_def]
  unfold Builtin.Str.tooLong
  have h3:=h2▸hz
  simp only [decide_eq_false_iff_not]
  exact Nat.not_lt.mpr h3
 have fin:∀ ps:List (Str×Tok),ps.map (·.1)=l.map zac->(joinMade (zac z) ps).post (λv s'=>wants (EP X pins σ Q) X.xe (.ok (.ret v)) s') s:=by
  intro ps e
  have many:(Made.str (glued (zac z) (ps.map (·.1)))).post (λv s'=>wants (EP X pins σ Q) X.xe (.ok (.ret v)) s') s:=by
   rw [e,zkn]
   refine ⟨?_,⟨.str (zac (catS z l)),H,I.tok _,⟨_,rfl⟩,q⟩⟩
   rw [zai]
   exact Nat.le_trans (cat_len z l) hz
  match ps,e with
  | [],e=>exact many
  | [p1],e=>
   have e1:p1.1=zac (catS z l):=by
    match l,e with
    | [],e=>simp at e
    | [x1],e=>simpa [catS] using e
    | _::_::_,e=>simp at e
   obtain ⟨px,pt⟩:=p1
   simp only at e1
   subst e1
   exact ⟨.str (zac (catS z l)),H,I,⟨pt,rfl⟩,q⟩
  | p1::p2::r,e=>exact many
 rcases sq with sq | sq
 ·obtain ⟨its,ri,pl,hn⟩:=I.list sq
  obtain ⟨ps,rfl,e⟩:=zd1 ri
  exact call_meets F.slot_str_join (typeIs_str _ _ _) F.entry_str_join (F.args_str_join_2 _ _) (meets_str_join_list (zac z) t p ps (long ps e)) ⟨pl.isList,fin ps e⟩
 ·obtain ⟨its,ri,pl,hn⟩:=I.tuple sq
  obtain ⟨ps,rfl,e⟩:=zd1 ri
  obtain ⟨o,h1,h2,n,h3⟩:=pl
  exact call_meets F.slot_str_join (typeIs_str _ _ _) F.entry_str_join (F.args_str_join_2 _ _) (meets_str_join_tuple (zac z) t p ps (long ps e)) ⟨⟨o,n,h1,h2,h3⟩,fin ps e⟩
theorem zll:MtR X "str.partition" (λx vs H Q=>∃ z y:List Nat,x=.str (zac z)/\vs=[.str (zac y)]/\y≠[]/\z.length<=sizeLine ∧
  ∀ p,H p=none->Q (.ref p) (upd H p (.tup (match fnd y z with | some i=>[.str (zac (z.take i)),.str (zac y),.str (zac (z.drop (i+y.length)))] | none=>[.str (zac z),.str (zac []),.str (zac [])])))):=by
 intro pins s σ H x xs v us Q I rx rs q
 obtain ⟨z,y,rfl,rfl,hy,hz,q⟩:=q
 obtain ⟨t,rfl⟩:=(show ∃ t',v=Value.str (zac z) t' from rx)
 obtain ⟨u,rfl,ru⟩:=rs.one
 obtain ⟨t2,rfl⟩:=(show ∃ t',u=Value.str (zac y) t' from ru)
 have hy2:((zac y).length==0)=false:=by
  rw [zai]
  cases y with
  | nil=>exact absurd rfl hy
  | cons _ _=>rfl
 refine call_meets F.slot_str_partition (typeIs_str _ _ _) F.entry_str_partition (F.args_str_partition_2 _ _) (meets_str_partition (zac z) (zac y) t t2 hy2 (by rw [zai];exact hz)) ?_
 have hf:=I.fresh
 have q:=q _ hf
 rcases zg9 (x:=z) (y:=y) 1 (by omega) with ⟨e1,e2⟩ | ⟨i,r,e1,hi,e2⟩
 ·rw [e1] at q
  simp only [e2]
  refine ⟨.ref s.heap.objs.size,_,I.laid (o:=.tup [.str (zac z),.str (zac []),.str (zac [])]) (t':=s.toks+1) (λb u e=>Heap.get?_push_of_some _ e) (Nat.le_refl _) ?_,rfl,q⟩
  exact ⟨show 3<=sizeLine by decide,_,.cons ⟨_,rfl⟩ (.cons ⟨_,rfl⟩ (.cons ⟨_,rfl⟩ .nil)),zb8.new _ _⟩
 ·rw [e1] at q
  simp only [e2]
  have z1:strSub (zac z) 0 i=zac (z.take i):=by rw [zhl];simp
  have z2:strSub (zac z) (i+(zac y).length) (zac z).length=zac (z.drop (i+y.length)):=by
   rw [zhl,zai,zai,List.take_of_length_le (by simp)]
  rw [z1,z2]
  refine ⟨.ref s.heap.objs.size,_,I.laid (o:=.tup [.str (zac (z.take i)),.str (zac y),.str (zac (z.drop (i+y.length)))]) (t':=s.toks+1+1) (λb u e=>Heap.get?_push_of_some _ e) (Nat.le_refl _) ?_,rfl,q⟩
  exact ⟨show 3<=sizeLine by decide,_,.cons ⟨_,rfl⟩ (.cons ⟨_,rfl⟩ (.cons ⟨_,rfl⟩ .nil)),zb8.new _ _⟩
theorem zf4:∀ (l:List (List Nat)) (k:Nat),Vals (l.map λx=>V.str (zac x)) (strsFrom k (l.map zac))
 | [],_=>.nil
 | x::l,k=>.cons ⟨_,rfl⟩ (zf4 l (k+1))
theorem zlj:MtR X "str.split" (λx vs H Q=>∃ z y:List Nat,x=.str (zac z)/\vs=[.str (zac y)]/\y≠[]/\z.length+1<=sizeLine/\(splS y z.length z).length<=sizeLine ∧
  ∀ p,H p=none->Q (.ref p) (upd H p (.lst ((splS y z.length z).map λx=>V.str (zac x))))):=by
 intro pins s σ H x xs v us Q I rx rs q
 obtain ⟨z,y,rfl,rfl,hy,hz,hn,q⟩:=q
 obtain ⟨t,rfl⟩:=(show ∃ t',v=Value.str (zac z) t' from rx)
 obtain ⟨u,rfl,ru⟩:=rs.one
 obtain ⟨t2,rfl⟩:=(show ∃ t',u=Value.str (zac y) t' from ru)
 have hy2:((zac y).length==0)=false:=by
  rw [zai]
  cases y with
  | nil=>exact absurd rfl hy
  | cons _ _=>rfl
 have q:=q _ I.fresh
 have self:fnd y z=none->EP X pins σ Q (.ref s.heap.objs.size) { s with heap:=s.heap.push { cls:=.type "list",data:=.seq [Value.str (zac z) t].toArray } }:=by
  intro e
  rw [zjH _ e] at q
  exact ⟨.ref s.heap.objs.size,_,I.lnew (t':=s.toks) (ys:=[.str (zac z)]) (its:=[Value.str (zac z) t]) (.cons ⟨_,rfl⟩ .nil) (show 1<=sizeLine by decide),rfl,q⟩
 cases h1:(decide ((zac z).length<(zac y).length)||decide (Builtin.Str.strKind (zac z)<Builtin.Str.strKind (zac y)))
 ·rcases zg9 (x:=z) (y:=y) ((zac z).length+1) (by omega) with ⟨e1,e2⟩ | ⟨i,r,e1,hi,e2⟩
  ·exact call_meets F.slot_str_split (typeIs_str _ _ _) F.entry_str_split (F.args_str_split_2 _ _) (meets_str_split_not_found (zac z) (zac y) t t2 h1 hy2 (by rw [e2];rfl)) (self e1)
  ·obtain ⟨f,c1,c2⟩:=occ_tight (zac z) (zac y) (by rw [zai];exact List.length_pos_iff.mpr hy)
   have ep:partsBetween (zac z) (occurrences (zac z) (zac y) 0 (zac z).length ((zac z).length+1)) (zac y).length=(splS y z.length z).map zac:=by
    rw [partsBetween_eq]
    exact zfM hy _ 0 f z.length (Nat.zero_le _) c1 c2 (by omega)
   refine call_meets F.slot_str_split (typeIs_str _ _ _) F.entry_str_split (F.args_str_split_2 _ _) (meets_str_split_sep (zac z) (zac y) t t2 h1 hy2 (by rw [e2];rfl) (by rw [zai];omega) (by rw [ep];simpa using hn)) ?_
   rw [ep]
   exact ⟨.ref s.heap.objs.size,_,I.lnew (t':=s.toks+((splS y z.length z).map zac).length) (its:=strsFrom s.toks ((splS y z.length z).map zac)) (zf4 _ _) (by simpa using hn),rfl,q⟩
 ·exact call_meets F.slot_str_split (typeIs_str _ _ _) F.entry_str_split (F.args_str_split_2 _ _) (meets_str_split_cannot_occur (zac z) (zac y) t t2 h1) (self (zqi hy h1))
theorem zjZ {K:PySem.W.Frag} {A:Addr->Prop} {H:Hp} {d:D} {xs:List D} {v:V} {vs:List V} (q:RepDs K A H (d::xs) (v::vs)):RepD K A H d v/\RepDs K A H xs vs:=by
 rw [RepDs] at q
 obtain ⟨v',r,e,q1,q2⟩:=q
 cases e
 exact ⟨q1,q2⟩
theorem zdx {K:PySem.W.Frag} {A:Addr->Prop} {H:Hp} (x:List Nat):RepD K A H (.str x) (.str (zac x)):=by simp only [RepD]
theorem zeW {K:PySem.W.Frag} {A:Addr->Prop} {H:Hp}:∀ {xs:List D} {vs:List V} {l:List (List Nat)},RepDs K A H xs vs->txts xs=some l->vs=l.map λx=>V.str (zac x)
 | [],vs,l,q,e=>by
  cases e
  cases vs with
  | nil=>rfl
  | cons _ _=>simp [RepDs] at q
 | d :: xs,vs,l,q,e=>by
  cases vs with
  | nil=>simp [RepDs] at q
  | cons v vs=>
   obtain ⟨q1,q2⟩:=zjZ q
   cases d with
   | str x=>
    simp only [txts] at e
    cases hr:txts xs with
    | none=>rw [hr] at e;cases e
    | some l'=>
     rw [hr] at e
     cases e
     simp only [RepD] at q1
     rw [zeW q2 hr,q1]
     rfl
   | _=>simp [txts] at e
noncomputable def tmS:Tm->Str
 | .starts=>"startswith"
 | .parti=>"partition"
 | .join=>"join"
theorem zrL {m:Tm} {o e:Expr} {es:List Expr} {name:Str} {apos cpos:Pos} {f:IT.Env->M R} {fs:IT.Env->M (List R)} (ho:IE X o f) (ha:IA X (e::es) fs)
  (hname:name=tmS m)
  (hbase:attributeBase o name X.env (eval o X.env)=eval o X.env)
  (hfew:((backTo cpos (starEach (e::es) X.env)).all (λx=>!x.1)&&(backToKw cpos (keywordEach [] X.env)).all (λx=>x.1.isSome)
   && decide ((e::es).length+([]:List Keyword).length+(if ([]:List Keyword).isEmpty then 0 else 1)<30))=true)
  (hline:(apos.endLine==cpos.line)=true) (hs:starEach (e::es) X.env=(false,eval e X.env)::starEach es X.env) (hplain:(backTo cpos (starEach es X.env)).any (·.1)=false) :
  IE X (.Call (.Attribute o name apos) (e::es) [] cpos) (λσ=>bnd (f σ) λx=>bnd (fs σ) λrs=>bnd (rd x) λd=>bnd (rds rs) λds=>bnd (opt (tmD m d ds)) λz=>ok (.d z)):=by
 have key:∀ (id:String) (rr:V->List V->Hp->VK->Prop),MtR X id rr->Slot "str" name id->typeOf (.builtin id)=pure (.type "method_descriptor") →
   (∀ μ h H (z:List Nat) ds vs d Q,Rep X.K μ h H->Paired (RdD X.K (Live μ h) H) ds vs->tmD m (.str z) ds=some d->(∀ μ' H' w,Stp μ h H μ' h H'->Rep X.K μ' h H'->RepD X.K (Live μ' h) H' d w->Q w H')->rr (.str (zac z)) vs H Q) →
   IE X (.Call (.Attribute o name apos) (e::es) [] cpos) (λσ=>bnd (f σ) λx=>bnd (fs σ) λrs=>bnd (rd x) λd=>bnd (rds rs) λds=>bnd (opt (tmD m d ds)) λz=>ok (.d z)):=by
  intro id rr hm slot hty hk
  refine PE.imp (zh6 PySem.F.plainAttrs_str slot hty hm ho ha hbase hfew hline hs hplain) λσ H Q q0=>?_
  obtain ⟨μ,h,env,R0,re,r,h',e,k⟩:=q0
  simp only [zae,za7,zaf] at e
  obtain ⟨x,h1,e1,rs,h2,e2,d,h3,e3,ds,h4,e4,z,h5,⟨e5,rfl⟩,rfl,rfl⟩:=e
  refine ⟨μ,h,env,R0,re,x,h1,e1,λμ1 H1 v s1 R1 q1=>?_⟩
  have hd:∃ z',d=.str z':=by
   cases d with
   | str z'=>exact ⟨z',rfl⟩
   | _=>cases m<;>exact zag e5
  obtain ⟨z',rfl⟩:=hd
  have hx:x=.d (.str z')/\h3=h2:=by
   cases x with
   | d y=>simp only [rd,zaf] at e3;exact ⟨by rw [e3.1],e3.2.symm⟩
   | loc l=>
    simp only [rd] at e3
    cases hl:h2[l]? with
    | none=>rw [hl] at e3;cases e3
    | some ob=>rw [hl] at e3;simp at e3
  obtain ⟨rfl,rfl⟩:=hx
  simp only [RepR,RepD] at q1
  subst q1
  refine ⟨rfl,μ1,h1,env,R1,re.stp s1 R0,rs,_,e2,λμ2 H2 vs s2 R2 q2=>?_⟩
  obtain ⟨rfl,zs⟩:=ziL R2 q2 e4
  exact hk μ2 _ H2 z' ds vs z Q R2 zs e5 λμ' H' w st R' q'=>k μ' H' w ((s1.trans s2).trans st) R' q'
 cases m with
 | starts=>
  subst hname
  refine key _ _ ziR PySem.F.slot_str_startswith PySem.F.type_str_startswith λμ h H z ds vs d Q R0 pr e k=>?_
  cases pr with
  | nil=>exact zag e
  | @cons d1 v1 ds vs q1 pr=>
   cases pr with
   | cons _ _=>cases d1<;>exact zag e
   | nil=>
    cases d1 with
    | str y=>
     simp only [RdD,RepD] at q1
     subst q1
     cases e
     exact ⟨z,y,rfl,rfl,k μ H _ Stp.refl R0 (by simp only [RepD])⟩
    | _=>exact zag e
 | parti=>
  subst hname
  refine key _ _ zll PySem.F.slot_str_partition PySem.F.type_str_partition λμ h H z ds vs d Q R0 pr e k=>?_
  cases pr with
  | nil=>exact zag e
  | @cons d1 v1 ds vs q1 pr=>
   cases pr with
   | cons _ _=>cases d1<;>exact zag e
   | nil=>
    cases d1 with
    | str y=>
     simp only [RdD,RepD] at q1
     subst q1
     (delta tmD at e;(try dsimp only at e))
     split at e
     ·cases e
     ·rename_i hc
      simp only [Bool.or_eq_true,not_or,Bool.not_eq_true',Bool.not_eq_true] at hc
      cases e
      refine ⟨z,y,rfl,rfl,by intro z;rw [z] at hc;simp at hc,(show z.length<=big from by simpa [fit] using hc.2),λp hp=>?_⟩
      have s2:∀ u:List V,Stp μ h H μ h (upd H p (.tup u)):=λu=>Stp.fresh hp
      refine k μ _ (.ref p) (s2 _) (R0.fresh hp) ?_
      have hrep:∀ (A:Addr->Prop) (H:Hp),RepDs X.K A H (match fnd y z with | some i=>[D.str (z.take i),.str y,.str (z.drop (i+y.length))] | none=>[.str z,.str [],.str []]) (match fnd y z with | some i=>[V.str (zac (z.take i)),.str (zac y),.str (zac (z.drop (i+y.length)))] | none=>[.str (zac z),.str (zac []),.str (zac [])]):=by
       intro A H
       cases fnd y z with
       | none=>exact .cons (zdx _) (.cons (zdx _) (.cons (zdx _) .nil))
       | some i=>exact .cons (zdx _) (.cons (zdx _) (.cons (zdx _) .nil))
      simp only [RepD]
      exact ⟨p,_,rfl,SqT.of zaD,hrep _ _⟩
    | _=>exact zag e
 | join =>
  subst hname
  refine key _ _ znr PySem.F.slot_str_join PySem.F.type_str_join λμ h H z ds vs d Q R0 pr e k=>?_
  cases pr with
  | nil=>exact zag e
  | @cons d1 v1 ds vs q1 pr=>
   cases pr with
   | cons _ _=>cases d1<;>exact zag e
   | nil=>
    have fin:∀ xs:List D,items d1=some xs->(∃ (p:Addr) (ws:List V),v1=.ref p/\(SqL X.K H p ws\/SqT X.K H p ws)/\RepDs X.K (Live μ h) H xs ws)->∃ (z':List Nat) (p:Addr) (l:List (List Nat)),V.str (zac z)=.str (zac z')/\[v1]=[.ref p]/\(SqL X.K H p (l.map λx=>V.str (zac x))\/SqT X.K H p (l.map λx=>V.str (zac x)))/\(l.map λy=>y.length+z'.length).sum<=sizeLine/\Q (.str (zac (catS z' l))) H:=by
     intro xs hi ⟨p,ws,e1,sq,zz⟩
     (delta tmD at e;(try dsimp only at e);simp only [hi] at e)
     cases hl:txts xs with
     | none=>rw [hl] at e;cases e
     | some l=>
      rw [hl] at e
      simp only at e
      split at e
      ·rename_i hf
       cases e
       have ew:=zeW zz hl
       subst ew
       exact ⟨z,p,l,rfl,by rw [e1],sq,of_decide_eq_true hf,k μ H _ Stp.refl R0 (by simp only [RepD])⟩
      ·cases e
    cases d1 with
    | tup xs=>
     simp only [RdD,RepD] at q1
     obtain ⟨p,ws,rfl,sq,zz⟩:=q1
     exact fin xs rfl ⟨p,ws,rfl,.inr sq,zz⟩
    | lst xs=>
     obtain ⟨p,ws,rfl,sq,zz⟩:=q1
     exact fin xs rfl ⟨p,ws,rfl,.inl sq,zz⟩
    | _=>exact zag e
theorem zo5 {o e:Expr} {name:Str} {apos cpos:Pos} {f g:IT.Env->M R} (ho:IE X o f) (he:IE X e g) (hname:name=("split":Str))
  (hbase:attributeBase o name X.env (eval o X.env)=eval o X.env)
  (hfew:((backTo cpos (starEach [e] X.env)).all (λx=>!x.1)&&(backToKw cpos (keywordEach [] X.env)).all (λx=>x.1.isSome)
   && decide ([e].length+([]:List Keyword).length+(if ([]:List Keyword).isEmpty then 0 else 1)<30))=true)
  (hline:(apos.endLine==cpos.line)=true) (hs:starEach [e] X.env=[(false,eval e X.env)]) (hplain:(backTo cpos (starEach [] X.env)).any (·.1)=false) :
  IL X (.Call (.Attribute o name apos) [e] [] cpos) (λσ=>bnd (f σ) λx=>bnd (g σ) λy=>bnd (rd x) λx=>bnd (rd y) λy=>opt (splD x y)):=by
 subst hname
 refine PE.imp (zh6 PySem.F.plainAttrs_str PySem.F.slot_str_split PySem.F.type_str_split zlj ho (zby he zc9 hs) hbase hfew hline hs hplain) λσ H Q q0=>?_
 obtain ⟨μ,h,env,R0,re,xs,h',e,k⟩:=q0
 simp only [zae,za7] at e
 obtain ⟨x,h1,e1,y,h2,e2,dx,h3,e3,dy,h4,e4,e5,rfl⟩:=e
 refine ⟨μ,h,env,R0,re,x,h1,e1,λμ1 H1 v s1 R1 q1=>?_⟩
 have hd:∃ z w,dx=.str z/\dy=.str w:=by
  cases dx with
  | str z=>
   cases dy with
   | str w=>exact ⟨z,w,rfl,rfl⟩
   | _=>exact zag e5
  | _=>exact zag e5
 obtain ⟨z,w,rfl,rfl⟩:=hd
 have one:∀ (r:R) (t:List Nat) (ha hb:Sto),rd r ha=some (.str t,hb)->r=.d (.str t)/\hb=ha:=by
  intro r t ha hb e
  cases r with
  | d y=>simp only [rd,zaf] at e;exact ⟨by rw [e.1],e.2.symm⟩
  | loc l=>
   simp only [rd] at e
   cases hl:ha[l]? with
   | none=>rw [hl] at e;cases e
   | some ob=>rw [hl] at e;simp at e
 obtain ⟨rfl,rfl⟩:=one _ _ _ _ e3
 obtain ⟨rfl,rfl⟩:=one _ _ _ _ e4
 simp only [RepR,RepD] at q1
 subst q1
 refine ⟨rfl,μ1,h1,env,R1,re.stp s1 R0,_,_,e2,λμ2 H2 vs s2 R2 q2=>?_⟩
 simp only [RepR,RepD] at q2
 subst q2
 (delta splD at e5;(try dsimp only at e5))
 split at e5
 ·cases e5
 ·rename_i hc
  simp only [Bool.or_eq_true,not_or,Bool.not_eq_true',Bool.not_eq_true] at hc
  cases e5
  refine ⟨z,w,rfl,rfl,by intro z;rw [z] at hc;simp at hc,(show z.length+1<=big from by simpa [fit] using hc.1.2),(show (splS w z.length z).length<=big from by simpa [fit] using hc.2),λp hp=>?_⟩
  refine k μ2 H2 p _ (s1.trans s2) R2 ?_ hp
  have all:∀ l:List (List Nat),RepDs X.K (Live μ2 h4) H2 (l.map D.str) (l.map λx=>V.str (zac x)):=by
   intro l
   induction l with
   | nil=>exact RepDs.nil
   | cons a l ih=>exact RepDs.cons (by simp only [RepD]) ih
  exact all _
theorem ziE {o e:Expr} {es:List Expr} {name:Str} {apos cpos:Pos} {f:IT.Env->M R} {fs:IT.Env->M (List R)} (ho:IE X o f) (ha:IA X (e::es) fs) (hname:name=("extend":Str))
  (hbase:attributeBase o name X.env (eval o X.env)=eval o X.env)
  (hfew:((backTo cpos (starEach (e::es) X.env)).all (λx=>!x.1)&&(backToKw cpos (keywordEach [] X.env)).all (λx=>x.1.isSome)
   && decide ((e::es).length+([]:List Keyword).length+(if ([]:List Keyword).isEmpty then 0 else 1)<30))=true)
  (hline:(apos.endLine==cpos.line)=true) (hs:starEach (e::es) X.env=(false,eval e X.env)::starEach es X.env) (hplain:(backTo cpos (starEach es X.env)).any (·.1)=false) :
  IE X (.Call (.Attribute o name apos) (e::es) [] cpos) (λσ=>bnd (f σ) λx=>bnd (zep x) λ_=>bnd (fs σ) λrs=>meth .extend x rs):=by
 subst hname
 refine PE.imp (zh6 PySem.F.plainAttrs_list PySem.F.slot_list_extend PySem.F.type_list_extend zhX ho ha hbase hfew hline hs hplain) λσ H Q q0=>?_
 obtain ⟨μ,h,env,R0,re,r,h',e,k⟩:=q0
 simp only [zae] at e
 obtain ⟨x,h1,e1,_,h1',e0,rs,h2,e2,e3⟩:=e
 obtain ⟨l,o1,rfl,ho1,il1,rfl⟩:=zeK e0
 refine ⟨μ,h,env,R0,re,.loc l,_,e1,λμ1 H1 v s1 R1 q1=>?_⟩
 ·skip
  obtain ⟨a,ea,rfl⟩:=q1
  obtain ⟨vs1,hH1,z1⟩:=R1.placeL ea ho1 il1
  refine ⟨.inl ⟨rfl,vs1,.inl (.inl hH1)⟩,μ1,_,env,R1,re.stp s1 R0,rs,h2,e2,λμ2 H2 ws s2 R2 q2=>?_⟩
  cases q2 with
  | nil=>exact zag e3
  | @cons rr w rs' ws' qr q2=>
   cases q2 with
   | cons _ _=>exact zag e3
   | nil =>
    (delta meth at e3;(try dsimp only at e3);simp only [zae] at e3)
    obtain ⟨d,h3,e4,e5⟩:=e3
    obtain ⟨rfl,zd⟩:=zbN R2 qr e4
    have ea2:=s2.pre l a ea
    cases d with
    | lst ys=>
     obtain ⟨b,vs2,rfl,sq,zz⟩:=zd
     simp only at e5
     split at e5
     ·rename_i xs hx
      split at e5
      ·rename_i hlen
       simp only [Option.some.injEq,Prod.mk.injEq] at e5
       obtain ⟨rfl,rfl⟩:=e5
       obtain ⟨vs3,hH3,z3⟩:=R2.placeL ea2 hx rfl
       have hlen':vs3.length+vs2.length<=sizeLine:=by
        have l3:=z3.length
        have l2:=zz.length
        have h4:xs.length+ys.length<=big:=of_decide_eq_true hlen
        have h5:big=sizeLine:=rfl
        simp only [Ob.items] at l3
        omega
       refine ⟨a,b,vs3,vs2,rfl,rfl,hH3,sq,hlen',?_⟩
       obtain ⟨s4,R4⟩:=write R2 ea2 hx (z3.app zz)
       exact k μ2 _ .non ((s1.trans s2).trans s4) R4 (by simp only [RepR,RepD])
      ·cases e5
     ·cases e5
    | _=>cases e5
theorem zki {pins:List (Addr×Obj)} {s:Shared} {σ:St} {H:Hp} {μ:List Addr} {h:Sto} (hu:X.A.units+64<cLine) (I:Inv X pins σ H s) {a:D} {v:V} {v':Value} (qa:RdD X.K (Live μ h) H a v) (rv:RelV v v') (hd:a.dep<=60)
  {xs:List D} {ws:List V} {its:List Value} (q:RepDs X.K (Live μ h) H xs ws) (r:Vals ws its) :
  ∃ f:Value->Bool,(∀ y,y∈its.toArray->SeqAt.EqAt X.A.in1 s y v' (f y))/\∀ (j:Nat) (x:D) (y:Value),xs[j]?=some x->its[j]?=some y->f y=x.eqb a:=by
 have S:=zbn I
 classical
 have base:∀ (y:Value) (x:D) (w:V),RepD X.K (Live μ h) H x w->RelV w y->SeqAt.EqAt X.A.in1 s y v' (x.eqb a):=λy x w qx rx=>
  zhI S x a X.A.in1 w v y v' (RdD.of qx) qa rx rv (by show X.A.units+1+_<cLine;omega)
 have at':∀ (j:Nat) (y:Value),its[j]?=some y->∃ x w,xs[j]?=some x/\RepD X.K (Live μ h) H x w/\RelV w y:=by
  intro j y hy
  have hj:j<its.length:=(List.getElem?_eq_some_iff.mp hy).1
  have hj2:j<ws.length:=by rw [r.length];exact hj
  obtain ⟨x,hx,qx⟩:=q.get' (List.getElem?_eq_getElem hj2)
  obtain ⟨u,hu',ru⟩:=r.get (List.getElem?_eq_getElem hj2)
  rw [hy] at hu'
  cases hu'
  exact ⟨x,_,hx,qx,ru⟩
 refine ⟨λy=>decide (∃ (x:D) (w:V),RepD X.K (Live μ h) H x w/\RelV w y/\x.eqb a=true),λy hy=>?_,λj x y hx hy=>?_⟩
 ·obtain ⟨j,hj⟩:=List.getElem?_of_mem (show y∈its by simpa using hy)
  obtain ⟨x,w,hx,qx,rx⟩:=at' j y hj
  dsimp only
  by_cases hx':∃ (x:D) (w:V),RepD X.K (Live μ h) H x w/\RelV w y/\x.eqb a=true
  ·rw [decide_eq_true hx']
   obtain ⟨x',w',q',r',e'⟩:=hx'
   rw [<-e']
   exact base y x' w' q' r'
  ·rw [decide_eq_false hx']
   cases ex:x.eqb a with
   | true=>exact absurd ⟨x,_,qx,rx,ex⟩ hx'
   | false=>rw [<-ex];exact base y x _ qx rx
 ·obtain ⟨x1,w,hx1,qx,rx⟩:=at' j y hy
  rw [hx] at hx1
  cases hx1
  dsimp only
  cases ex:x.eqb a with
  | true=>exact decide_eq_true ⟨x,w,qx,rx,ex⟩
  | false=>
   refine decide_eq_false λ⟨x',w',q',r',e'⟩=>?_
   have ew:=RelV.inj rx r'
   rw [RepD.inj S x x' w' (ew▸qx) q'] at ex
   rw [ex] at e'
   cases e'
theorem zd5 {α β:Type} {p:α->Bool} {f:β->Bool}:∀ {xs:List α} {ys:List β},xs.length=ys.length->(∀ (j:Nat) (x:α) (y:β),xs[j]?=some x->ys[j]?=some y->f y=p x)->ys.countP f=xs.countP p
 | [],[],_,_=>rfl
 | [],_::_,h,_=>by simp at h
 | _::_,[],h,_=>by simp at h
 | x::xs,y::ys,h,k=>by
  rw [List.countP_cons,List.countP_cons,zd5 (xs:=xs) (ys:=ys) (by simpa using h) (λj x y hx hy=>k (j+1) x y (by simpa using hx) (by simpa using hy)),k 0 x y rfl rfl]
noncomputable def lmI:Lm->String
 | .count=>"list.count"
 | .index=>"list.index"
 | .countT=>"tuple.count"
theorem zrl (hu:X.A.units+64<cLine) (m:Lm):MtR X (lmI m) (λx vs H Q=>∃ μ h xs d v z,Rep X.K μ h H/\RdD X.K (Live μ h) H (.lst xs) x/\vs=[v]/\RdD X.K (Live μ h) H d v/\lmD m (.lst xs) d=some z/\(∀ w,RepD X.K (Live μ h) H z w->Q w H)):=by
 intro pins s σ H x vs v us Q I rx rs q
 obtain ⟨μ,h,xs,d,vd,z,R0,qx,rfl,qd,e,k⟩:=q
 obtain ⟨p,ws,rfl,sq,zz⟩:=qx
 cases rx
 obtain ⟨u,rfl,ru⟩:=rs.one
 obtain ⟨its,ri,⟨o,n,e1,hc,hdd,hs⟩,hz⟩:=I.list sq
 obtain ⟨cls,dd,data,sl⟩:=o
 simp only at hc hdd hs
 subst hc hdd hs
 have hlen:xs.length=its.length:=by rw [zz.length,ri.length]
 cases m with
 | count=>
  (delta lmD at e;(try dsimp only at e))
  split at e
  ·rename_i hd
   cases e
   obtain ⟨f,f1,f2⟩:=zki hu I qd ru (of_decide_eq_true hd) zz ri
   refine call_meets F.slot_list_count ⟨_,e1,rfl⟩ F.entry_list_count (F.args_list_count_2 _ _) (SeqAt.list_countAt p its.toArray n none sl u f) ⟨e1,f1,?_⟩
   have ec:(its.toArray.toList.countP f:Nat)=xs.countP λy=>y.eqb d:=by simpa using zd5 hlen f2
   rw [ec]
   exact ⟨.int _,H,I.tok _,⟨_,rfl⟩,k _ (by simp only [RepD])⟩
  ·cases e
 | index=>
  (delta lmD at e;(try dsimp only at e))
  split at e
  ·rename_i hd
   cases hj:xs.findIdx? (λy=>y.eqb d) with
   | none=>rw [hj] at e;cases e
   | some j=>
    rw [hj] at e
    cases e
    obtain ⟨f,f1,f2⟩:=zki hu I qd ru (of_decide_eq_true hd) zz ri
    obtain ⟨jl,j1,j2⟩:=List.findIdx?_eq_some_iff_getElem.mp hj
    have fa:∀ (i:Nat) (hi:i<its.toArray.size),f its.toArray[i]=(xs[i]'(by rw [hlen];simpa using hi)).eqb d:=by
     intro i hi
     have hi2:i<its.length:=by simpa using hi
     exact f2 i _ _ (List.getElem?_eq_getElem (by rw [hlen];exact hi2)) (by simp)
    refine call_meets F.slot_list_index ⟨_,e1,rfl⟩ F.entry_list_index (F.args_list_index_2 _ _) (SeqAt.list_indexAt p its.toArray n none sl u f j (by simp;omega) ?_ ?_ ?_) ⟨e1,f1,?_⟩
    ·have h5:ws.length<=sizeLine:=hz
     have h6:sizeLine=16777216:=rfl
     have h7:=zz.length
     omega
    ·rw [fa];exact j1
    ·intro i hi hij
     rw [fa]
     simpa using j2 i hij
    ·exact ⟨.int _,H,I.tok _,⟨_,rfl⟩,k _ (by simp only [RepD])⟩
  ·cases e
 | countT=>exact zag e
noncomputable def lmS:Lm->Str
 | .count=>"count"
 | .index=>"index"
 | .countT=>"count"
theorem zrJ {m:Lm} {o e:Expr} {name:Str} {apos cpos:Pos} {f g:IT.Env->M R} (hu:X.A.units+64<cLine) (hnt:m≠.countT) (ho:IE X o f) (he:IE X e g) (hname:name=lmS m)
  (hbase:attributeBase o name X.env (eval o X.env)=eval o X.env)
  (hfew:((backTo cpos (starEach [e] X.env)).all (λx=>!x.1)&&(backToKw cpos (keywordEach [] X.env)).all (λx=>x.1.isSome)
   && decide ([e].length+([]:List Keyword).length+(if ([]:List Keyword).isEmpty then 0 else 1)<30))=true)
  (hline:(apos.endLine==cpos.line)=true) (hs:starEach [e] X.env=[(false,eval e X.env)]) (hplain:(backTo cpos (starEach [] X.env)).any (·.1)=false) :
  IE X (.Call (.Attribute o name apos) [e] [] cpos) (λσ=>bnd (f σ) λx=>bnd (rd x) λ_=>bnd (g σ) λy=>bnd (rd x) λx=>bnd (rd y) λy=>bnd (opt (lmD m x y)) λz=>ok (.d z)):=by
 have slot:Slot "list" name (lmI m):=by
  subst hname
  cases m with
  | count=>exact PySem.F.slot_list_count
  | index=>exact PySem.F.slot_list_index
  | countT=>exact absurd rfl hnt
 have hty:typeOf (.builtin (lmI m))=pure (.type "method_descriptor"):=by
  cases m with
  | count=>exact PySem.F.type_list_count
  | index=>exact PySem.F.type_list_index
  | countT=>exact absurd rfl hnt
 refine PE.imp (zh6 PySem.F.plainAttrs_list slot hty (zrl hu m) ho (zby he zc9 hs) hbase hfew hline hs hplain) λσ H Q q0=>?_
 obtain ⟨μ,h,env,R0,re,r,h',e,k⟩:=q0
 simp only [zae,za7,zaf] at e
 obtain ⟨x,h1,e1,d1,h1',e0,y,h2,e2,dx,h3,e3,dy,h4,e4,z,h5,⟨e5,rfl⟩,rfl,rfl⟩:=e
 refine ⟨μ,h,env,R0,re,x,h1,e1,λμ1 H1 v s1 R1 q1=>?_⟩
 obtain ⟨rfl,_⟩:=zbN R1 q1 e0
 have hd:∃ xs,dx=.lst xs:=by
  cases dx with
  | lst xs=>exact ⟨xs,rfl⟩
  | _=>cases m<;>first | exact absurd rfl hnt | exact zag e5
 obtain ⟨xs,rfl⟩:=hd
 have ty:tyV X.K "list" v H1:=by
  cases x with
  | loc l=>
   obtain ⟨a,ea,rfl⟩:=q1
   obtain ⟨o1,ho1,il1,_,_⟩:=zd6 e0
   obtain ⟨vs1,hH1,z1⟩:=R1.placeL ea ho1 il1
   exact .inl ⟨rfl,vs1,.inl (.inl hH1)⟩
  | d d0=>
   simp only [rd,zaf] at e3
   obtain ⟨rfl,rfl⟩:=e3
   simp only [RepR,RepD] at q1
   obtain ⟨a,ws,rfl,sq,zz⟩:=q1
   exact .inl ⟨rfl,ws,sq.sq⟩
 refine ⟨ty,μ1,_,env,R1,re.stp s1 R0,y,h2,e2,λμ2 H2 w s2 R2 q2=>?_⟩
 have q1':=RepR.stp s2 R1 q1
 obtain ⟨rfl,zx⟩:=zbN R2 q1' e3
 obtain ⟨rfl,zy⟩:=zbN R2 q2 e4
 exact ⟨μ2,_,xs,dy,w,z,R2,zx,rfl,zy,e5,λu qu=>k μ2 H2 u (s1.trans s2) R2 qu⟩
theorem zoy (hu:X.A.units+64<cLine):MtR X "tuple.count" (λx vs H Q=>∃ μ h xs d v z,Rep X.K μ h H/\RdD X.K (Live μ h) H (.tup xs) x/\vs=[v]/\RdD X.K (Live μ h) H d v/\lmD .countT (.tup xs) d=some z/\(∀ w,RepD X.K (Live μ h) H z w->Q w H)):=by
 intro pins s σ H x vs v us Q I rx rs q
 obtain ⟨μ,h,xs,d,vd,z,R0,qx,rfl,qd,e,k⟩:=q
 simp only [RdD,RepD] at qx
 obtain ⟨p,ws,rfl,sq,zz⟩:=qx
 cases rx
 obtain ⟨u,rfl,ru⟩:=rs.one
 obtain ⟨its,ri,pt,hz⟩:=I.tuple sq
 obtain ⟨⟨cls,dd,data,sl⟩,e1,hc,n,hdd⟩:=id pt
 simp only at hc hdd
 subst hc hdd
 have hlen:xs.length=its.length:=by rw [zz.length,ri.length]
 change (if _=true then _ else _)=some _ at e
 split at e
 ·rename_i hd
  cases e
  obtain ⟨f,f1,f2⟩:=zki hu I qd ru (of_decide_eq_true hd) zz ri
  refine call_meets F.slot_tuple_count ⟨_,e1,rfl⟩ F.entry_tuple_count (F.args_tuple_count_2 _ _) (SeqAt.tuple_countAt p its.toArray n dd sl u f) ⟨e1,f1,?_⟩
  have ec:(its.toArray.toList.countP f:Nat)=xs.countP λy=>y.eqb d:=by simpa using zd5 hlen f2
  rw [ec]
  exact ⟨.int _,H,I.tok _,⟨_,rfl⟩,k _ (by simp only [RepD])⟩
 ·cases e
theorem zpg {o e:Expr} {name:Str} {apos cpos:Pos} {f g:IT.Env->M R} (hu:X.A.units+64<cLine) (ho:IE X o f) (he:IE X e g) (hname:name=lmS .countT)
  (hbase:attributeBase o name X.env (eval o X.env)=eval o X.env)
  (hfew:((backTo cpos (starEach [e] X.env)).all (λx=>!x.1)&&(backToKw cpos (keywordEach [] X.env)).all (λx=>x.1.isSome)
   && decide ([e].length+([]:List Keyword).length+(if ([]:List Keyword).isEmpty then 0 else 1)<30))=true)
  (hline:(apos.endLine==cpos.line)=true) (hs:starEach [e] X.env=[(false,eval e X.env)]) (hplain:(backTo cpos (starEach [] X.env)).any (·.1)=false) :
  IE X (.Call (.Attribute o name apos) [e] [] cpos) (λσ=>bnd (f σ) λx=>bnd (rd x) λ_=>bnd (g σ) λy=>bnd (rd x) λx=>bnd (rd y) λy=>bnd (opt (lmD .countT x y)) λz=>ok (.d z)):=by
 have slot:Slot "tuple" name "tuple.count":=by subst hname;exact PySem.F.slot_tuple_count
 refine PE.imp (zh6 PySem.F.plainAttrs_tuple slot PySem.F.type_tuple_count (zoy hu) ho (zby he zc9 hs) hbase hfew hline hs hplain) λσ H Q q0=>?_
 obtain ⟨μ,h,env,R0,re,r,h',e,k⟩:=q0
 simp only [zae,za7,zaf] at e
 obtain ⟨x,h1,e1,d1,h1',e0,y,h2,e2,dx,h3,e3,dy,h4,e4,z,h5,⟨e5,rfl⟩,rfl,rfl⟩:=e
 refine ⟨μ,h,env,R0,re,x,h1,e1,λμ1 H1 v s1 R1 q1=>?_⟩
 obtain ⟨rfl,_⟩:=zbN R1 q1 e0
 have hd:∃ xs,dx=.tup xs:=by
  cases dx with
  | tup xs=>exact ⟨xs,rfl⟩
  | _=>exact zag e5
 obtain ⟨xs,rfl⟩:=hd
 have ty:tyV X.K "tuple" v H1:=by
  cases x with
  | loc l=>
   obtain ⟨o1,ho1,il1,z1,_⟩:=zd6 e3
   cases z1
  | d d0=>
   simp only [rd,zaf] at e3
   obtain ⟨rfl,rfl⟩:=e3
   simp only [RepR,RepD] at q1
   obtain ⟨a,ws,rfl,sq,zz⟩:=q1
   exact .inr (.inl ⟨rfl,ws,sq⟩)
 refine ⟨ty,μ1,_,env,R1,re.stp s1 R0,y,h2,e2,λμ2 H2 w s2 R2 q2=>?_⟩
 have q1':=RepR.stp s2 R1 q1
 obtain ⟨rfl,zx⟩:=zbN R2 q1' e3
 obtain ⟨rfl,zy⟩:=zbN R2 q2 e4
 exact ⟨μ2,_,xs,dy,w,z,R2,zx,rfl,zy,e5,λu qu=>k μ2 H2 u (s1.trans s2) R2 qu⟩
end
end IT
set_option linter.all false
set_option maxHeartbeats 4000000
set_option maxRecDepth 100000
namespace PySem
open Sem (wp)
open Builtin
section
variable {prog:Program} {w:World} {A:Around} {E:Value->Shared->Prop} {s:Shared}
end
end PySem
set_option linter.all false
set_option maxHeartbeats 4000000
set_option maxRecDepth 100000
namespace PySem
open Sem (wp)
open Builtin
section
variable {prog:Program} {w:World} {K:Type} [DecidableEq K] {knd:KeyKind prog w K} {A:Around} {E:Value->Shared->Prop} {R:Result->Shared->Prop}
end
end PySem
set_option linter.all false
set_option maxHeartbeats 4000000
set_option maxRecDepth 100000
namespace IT
open PySem PySem.Spec L2
section
variable {X:Cx}
theorem zpC {pins:List (Addr×Obj)} {σ:St} {H:Hp} {s:Shared} (I:Inv X pins σ H s):sysModules<s.heap.objs.size:=by
 refine Nat.lt_trans (by decide) ((I.mod.glob.keeps I.bk).lt)
end
end IT
set_option linter.all false
set_option maxHeartbeats 4000000
set_option maxRecDepth 100000
namespace IT
open PySem PySem.Spec L2
section
variable {X:Cx}
structure zpF (X:Cx) (n:Nat) (c m:Str) (np:Nat) (mm:List R->M R):Prop where
 ex:∃ C f fd ps,PySem.W.nsIn X.K mainGlobals c=some (some (.ref C))/\Cls X.K C/\Meth X.K C m f/\FnOk X.prog X.w X.K X.mg X.base CX0 n f fd ps (spF X.K np mm)/\zaV X.K fd ps []
 len:∀ rs h p,mm rs h=some p->rs.length=np
structure zon (X:Cx) (n:Nat) (c:Str) (np:Nat) (mm:List R->M R):Prop where
 ex:∃ C f fd ps,X.mg c=some (.ref C)/\PySem.W.nsIn X.K mainGlobals c=some (some (.ref C))/\Cls X.K C/\Mk X.K C f/\FnOk X.prog X.w X.K X.mg X.base CX0 n f fd ps (spF X.K np mm)/\zaV X.K fd ps []
 len:∀ rs h p,mm rs h=some p->rs.length=np
theorem zny {pins:List (Addr×Obj)} {σ:St} {H:Hp} {s:Shared} {h':Heap} {t':Nat} {e it:Addr} (I:Inv X pins σ H s) (k:∀ b o,b≠e->b≠it->s.heap.get? b=some o->h'.get? b=some o) (fe:FpOk X pins H e) (fi:FpOk X pins H it):Inv X pins σ H { s with heap:=h',toks:=t' }:=by
 obtain ⟨e0,e1,e2,e3,e4,e5⟩:=fe
 obtain ⟨i0,i1,i2,i3,i4,i5⟩:=fi
 have ne:∀ b u,H b=some u->b≠e:=λb u q z=>by rw [z,e0] at q;cases q
 have ni:∀ b u,H b=some u->b≠it:=λb u q z=>by rw [z,i0] at q;cases q
 have nc:∀ b,b ∉ [e,it]->b≠e/\b≠it:=λb hb=>⟨λz=>hb (by simp [z]),λz=>hb (by simp [z])⟩
 refine I.step (g':=s.gens) (d':=s.drawn) (ch:=[e,it]) (λb hb=>?_) (λb o _ _ hc q _=>k b o (nc b hc).1 (nc b hc).2 q) (λb o _ _ hc q _=>⟨o.slots,k b o (nc b hc).1 (nc b hc).2 q⟩) (λ_ _ _ _ n=>n)
  (λb o hc q=>⟨o,k b o (nc b hc).1 (nc b hc).2 q⟩) (λ_ _ q=>q) (λ_ _ _ q=>q) (λb ps q=>⟨#[],by rw [q];simp⟩) (λm hm=>?_) (λb u q=>?_) I.bare
 ·rcases List.mem_cons.mp hb with z | z
  ·subst z;exact ⟨e3,e1,e4,e5⟩
  ·have z:b=it:=by simpa using z
   subst z;exact ⟨i3,i1,i4,i5⟩
 ·obtain ⟨o,es,ep,ho,r⟩:=hm
  exact ⟨o,es,ep,k _ o (Ne.symm e1) (Ne.symm i1) ho,r⟩
 ·refine (I.hok b u q).stay (λc v hc q'=>k c v ?_ ?_ q') (λ_ q=>q) λ_ _ q=>q
  ·rcases hc with z | z
   ·rw [z];exact ne b u q
   ·exact ne c _ z
  ·rcases hc with z | z
   ·rw [z];exact ni b u q
   ·exact ni c _ z
theorem zrx {pins:List (Addr×Obj)} {σ:St} {H:Hp} {s:Shared} {T:Addr} {o:HO} (I:Inv X pins σ H s) (f:FpOk X pins H T) (new:zb0 X.prog X.w (upd H T o) s.heap T o):Inv X pins σ (upd H T o) s:=by
 obtain ⟨f0,f1,f2,f3,f4,f5⟩:=f
 have nT:∀ b u,H b=some u->b≠T:=λb u q z=>by rw [z,f0] at q;cases q
 refine I.step (g':=s.gens) (d':=s.drawn) (t':=s.toks) (h':=s.heap) (ch:=[T]) (λb hb=>?_) (λb o _ _ hc q _=>q) (λb o _ _ hc q _=>⟨o.slots,q⟩) (λb _ hb _ n=>by rw [zaF (λz=>hb (by simp [z]))];exact n)
  (λb o hc q=>⟨o,q⟩) (λb _ q=>by rw [zaF (nT b _ q)];exact q) (λb _ _ q=>by rw [zaF (nT b _ q)];exact q) (λb ps q=>⟨#[],by rw [zaF (nT b _ q),q];simp⟩) (λm hm=>hm) (λb u q=>?_) I.bare
 ·have z:b=T:=by simpa using hb
  subst z;exact ⟨f3,f1,f4,f5⟩
 ·by_cases hb:b=T
  ·subst hb;rw [zaD] at q;cases q;exact new
  ·rw [zaF hb] at q
   exact (I.hok b u q).stay (λc v hc q'=>q') (λc q'=>by rw [zaF (nT c _ q')];exact q') λc xs q'=>by rw [zaF (nT c _ q')];exact q'
theorem zi7:∀ (xs ys:List Ite) (k:Int) (i:Nat) (x:Ite),za6 k xs=some ys->ys[i]?=some x->∃ r,xs[i]?=some (.r r)/\x=.en (k+i) r
 | [],ys,k,i,x,e,q=>by simp [za6] at e;subst e;simp at q
 | .en _ _::_,_,_,_,_,e,_=>by simp [za6] at e
 | .r r::t,ys,k,i,x,e,q=>by
  simp only [za6] at e
  cases et:za6 (k+1) t with
  | none=>rw [et] at e;cases e
  | some l=>
   rw [et] at e
   simp only [Option.some.injEq] at e
   subst e
   cases i with
   | zero=>simp at q;subst q;exact ⟨r,rfl,by simp⟩
   | succ i=>
    obtain ⟨r',e1,e2⟩:=zi7 t l (k+1) i x et (by simpa using q)
    exact ⟨r',by simpa using e1,by rw [e2];congr 1;push_cast;omega⟩
theorem zhe:∀ (xs ys:List Ite) (k:Int),za6 k xs=some ys->ys.length=xs.length
 | [],ys,k,e=>by simp [za6] at e;subst e;rfl
 | .en _ _::_,_,_,e=>by simp [za6] at e
 | .r r::t,ys,k,e=>by
  simp only [za6] at e
  cases et:za6 (k+1) t with
  | none=>rw [et] at e;cases e
  | some l=>
   rw [et] at e
   simp only [Option.some.injEq] at e
   subst e
   simp [zhe t l (k+1) et]
theorem zpl {K:PySem.W.Frag} {μ:List Addr} {h h':Sto} {H:Hp} {r:R} {v:V} {w:Wk} (il:isLs r=true) (R1:Rep K μ h H) (q1:RepR K μ h H r v) (e:zbo r h=some (w,h')):h'=h/\∃ a vs,v=.ref a/\SqL K H a vs/\vs.length=w.xs.length/\Wlk K (Itl K a) w μ h H:=by
 (delta zbo at e;simp only [zae] at e)
 obtain ⟨o,h1,e1,e2⟩:=e
 obtain ⟨rfl,ho⟩:=zdt e1
 cases o with
 | some ls=>
  obtain ⟨l,rfl,ho⟩:=ho
  obtain ⟨a,ea,rfl⟩:=q1
  simp only [zaf] at e2
  obtain ⟨rfl,rfl⟩:=e2
  obtain ⟨vs,q2,z2⟩:=R1.obj l a _ ea ho
  exact ⟨rfl,a,vs,rfl,.inl (.inl q2),by rw [List.length_map];exact z2.length.symm,zjA R1 ea ho⟩
 | none=>
  simp only [zae] at e2
  obtain ⟨d,h2,e3,e4⟩:=e2
  cases r with
  | loc l=>
   obtain ⟨a,ea,rfl⟩:=q1
   obtain ⟨o,ho,il,rfl,rfl⟩:=zd6 e3
   obtain ⟨vs,q2,z2⟩:=R1.placeL ea ho il
   (delta wkOf items at e4;(try dsimp only at e4);simp only [zaf] at e4)
   obtain ⟨rfl,rfl⟩:=e4
   exact ⟨rfl,a,vs,rfl,.inl (.inl q2),by rw [List.length_map];exact z2.length.symm,zj4 R1 ea ho il⟩
  | d x=>
   simp only [rd,zaf] at e3
   obtain ⟨rfl,rfl⟩:=e3
   cases x with
   | lst xs=>
    (delta wkOf items at e4;(try dsimp only at e4);simp only [zaf] at e4)
    obtain ⟨rfl,rfl⟩:=e4
    simp only [RepR,RepD] at q1
    obtain ⟨a,vs,rfl,q2,z2⟩:=q1
    exact ⟨rfl,a,vs,rfl,q2.sq,by rw [List.length_map];exact z2.length.symm,zhr R1 q2 z2⟩
   | _=>cases il
end
end IT
set_option linter.all false
set_option maxHeartbeats 4000000
set_option maxRecDepth 100000
namespace IT
open PySem PySem.Spec L2
section
variable {X:Cx} {A0:Addr->Prop} {H:Hp} {s:Shared}
mutual
theorem zl0 (S:zbM X s H):∀ (x:D) (v:V) (u:Value),D.hk x=true->RepD X.K A0 H x v->RelV v u->KAt s.heap x u
 | .int i,v,u,_,q,r=>by
  simp only [RepD] at q;subst q
  simp only [KAt];exact r
 | .str x,v,u,_,q,r=>by
  simp only [RepD] at q;subst q
  simp only [KAt];exact r
 | .tup xs,v,u,hk,q,r=>by
  simp only [RepD] at q
  obtain ⟨a,vs,rfl,sq,zs⟩:=q
  cases r
  obtain ⟨its,ri,p⟩:=S.tup a vs sq
  simp only [KAt]
  exact ⟨a,its.toArray,rfl,p,by simpa using kAts_of S xs vs its hk zs ri⟩
 | .non,_,_,hk,_,_=>by cases hk
 | .bl _,_,_,hk,_,_=>by cases hk
 | .lst _,_,_,hk,_,_=>by cases hk
theorem kAts_of (S:zbM X s H):∀ (x:List D) (v:List V) (u:List Value),D.hks x=true->RepDs X.K A0 H x v->Vals v u->KAts s.heap x u
 | [],v,u,_,q,r=>by
  simp only [RepDs] at q;subst q
  cases r
  simp only [KAts]
 | x::xs,v,u,hk,q,r=>by
  simp only [RepDs] at q
  obtain ⟨w,ws,rfl,q1,q2⟩:=q
  cases r with
  | cons r1 r2=>
   rw [D.hks,Bool.and_eq_true] at hk
   simp only [KAts]
   exact ⟨_,_,rfl,zl0 S x w _ hk.1 q1 r1,kAts_of S xs ws _ hk.2 q2 r2⟩
end
theorem zht {k:D} (h:zbU k=true):D.hk k=true/\k.dep<=8:=by
 cases k with
 | tup xs=>
  rw [zbU,Bool.and_eq_true] at h
  have:=of_decide_eq_true h.2
  exact ⟨h.1,by simp only [D.dep];omega⟩
 | _=>cases h
theorem zhb {k:D} {v:V} (h:zbU k=true) (q:RepD X.K A0 H k v):∃ b,v=.ref b:=by
 cases k with
 | tup xs=>simp only [RepD] at q;obtain ⟨a,_,e,_⟩:=q;exact ⟨a,e⟩
 | _=>cases h
theorem zhq (S:zbM X s H) {k:D} {b:Addr} (h:zbU k=true) (q:RepD X.K A0 H k (.ref b)):(dKind X.prog X.w).is s.heap k b:=
 ⟨(zht h).2,zl0 S k (.ref b) (.ref b) (zht h).1 q rfl⟩
end
noncomputable def KvR (K:PySem.W.Frag) (A:Addr->Prop) (H:Hp) (p:D×D) (q:D×Addr×Value):Prop:=p.1=q.1/\(zbU p.1=true/\RepD K A H p.1 (.ref q.2.1))/\∃ v,RelV v q.2.2/\RepD K A H p.2 v
theorem zd9 {α β γ:Type} {F:α->β->Prop} {G:β->γ->Prop} {T:α->γ->Prop} (k:∀ a b c,F a b->G b c->T a c):∀ {xs:List α} {ys:List β} {zs:List γ},Paired F xs ys->Paired G ys zs->Paired T xs zs
 | _,_,_,.nil,.nil=>.nil
 | _,_,_,.cons f fs,.cons g gs=>.cons (k _ _ _ f g) (zd9 k fs gs)
section
variable {X:Cx} {pins:List (Addr×Obj)} {σ:St} {H:Hp} {s:Shared} {μ:List Addr} {h:Sto} {l:Nat} {a:Addr} {kvs:List (D×D)}
structure zrT (X:Cx) (μ:List Addr) (h:Sto) (H:Hp) (s:Shared) (a:Addr) (kvs:List (D×D)) (xv:List (D×Addr×Value)):Prop where
 sys:(a==sysModules)=false
 len:kvs.length<=sizeLine
 rel:Paired (KvR X.K (Live μ h) H) kvs xv
 dic:s.heap.DictOfH (dKind X.prog X.w) a xv
theorem zi2 (I:Inv X pins σ H s) (R0:Rep X.K μ h H) (ea:μ[l]?=some a) (ho:h[l]?=some (.dic kvs)\/h[l]?=some (.dfr kvs)):∃ xs xv,(h[l]?=some (.dic kvs)->H a=some (.dT xs))/\Rd H a (.dT xs)/\Paired (λ(p:D×D) (q:D×Addr×V)=>p.1=q.1/\(zbU p.1=true/\RepD X.K (Live μ h) H p.1 (.ref q.2.1))/\RepD X.K (Live μ h) H p.2 q.2.2) kvs xs ∧
  Paired (λ(p:D×Addr×V) (q:D×Addr×Value)=>p.1=q.1/\p.2.1=q.2.1/\RelV p.2.2 q.2.2) xs xv/\zrT X μ h H s a kvs xv:=by
 have zz:∃ xs,(h[l]?=some (.dic kvs)->H a=some (.dT xs))/\Rd H a (.dT xs)/\Paired (λ(p:D×D) (q:D×Addr×V)=>p.1=q.1/\(zbU p.1=true/\RepD X.K (Live μ h) H p.1 (.ref q.2.1))/\RepD X.K (Live μ h) H p.2 q.2.2) kvs xs:=by
  rcases ho with ho | ho
  ·obtain ⟨xs,e,z⟩:=R0.obj l a _ ea ho
   exact ⟨xs,λ_=>e,.inl e,z⟩
  ·obtain ⟨ob,xs,e,z⟩:=R0.obj l a _ ea ho
   exact ⟨xs,(λq=>by rw [ho] at q;cases q),.inr ⟨ob,e⟩,z⟩
 obtain ⟨xs,e0,e,z⟩:=zz
 obtain ⟨hz,hS,xv,r,o,es,ep,h1,h2,h3,h4,h5⟩:=(show zb0 X.prog X.w H s.heap a (.dT xs) from e.ok I.hok)
 have rel:Paired (KvR X.K (Live μ h) H) kvs xv:=zd9 (λp q t ⟨c1,c2,c3⟩ ⟨d1,d2,d3⟩=>⟨c1.trans d1,⟨c2.1,by rw [<-d2];exact c2.2⟩,q.2.2,d3,c3⟩) z r
 refine ⟨xs,xv,e0,e,z,r,hS,by rw [Paired.length z];exact hz,rel,o,es,ep,h1,h2,h3,h4,?_,h5⟩
 have S:=zbn I
 have all:∀ {l1:List (D×D)} {l2:List (D×Addr×Value)},Paired (KvR X.K (Live μ h) H) l1 l2->∀ x∈l2,(dKind X.prog X.w).is s.heap x.1 x.2.1:=by
  intro l1 l2 q
  induction q with
  | nil=>intro x hx;cases hx
  | @cons p q ps qs hq t ih=>
   intro x hx
   rcases List.mem_cons.mp hx with e | hx
   ·subst e
    obtain ⟨c1,c2,_⟩:=hq
    rw [<-c1]
    exact zhq S c2.1 c2.2
   ·exact ih x hx
 exact all rel
theorem zdW {K:PySem.W.Frag} {A:Addr->Prop} (k:D):∀ {kvs:List (D×D)} {xv:List (D×Addr×Value)},Paired (KvR K A H) kvs xv->(∃ d p v,dGet k kvs=some d/\atKey xv k=some p/\RelV v p.2/\RepD K A H d v)\/(dGet k kvs=none/\atKey xv k=none)
 | _,_,.nil=>.inr ⟨rfl,rfl⟩
 | _,_,.cons (a:=p) (b:=q) (l₁:=r) (l₂:=t) hq ht=>by
  obtain ⟨c1,c2,v,c3,c4⟩:=hq
  have e0:dGet k (p::r)=if p.1.same k then some p.2 else dGet k r:=rfl
  rw [e0,zcO]
  by_cases e:p.1=k
  ·refine .inl ⟨p.2,q.2,v,by simp [e],?_,c3,c4⟩
   have:q.1=k:=by rw [<-c1];exact e
   simp [atKey,List.find?_cons,this]
  ·have e2:¬ q.1=k:=λz=>e (c1.trans z)
   have e3:atKey (q::t) k=atKey t k:=by simp [atKey,List.find?_cons,e2]
   rw [e3,if_neg (by simp [e])]
   exact zdW k ht
theorem ze0 {x:R} {k:D} {h h':Sto} (e:kRd x h=some (k,h')):x=.d k/\zbU k=true/\h'=h:=by
 cases x with
 | loc _=>cases e
 | d d=>
  simp only [kRd] at e
  split at e
  ·rename_i hk
   simp only [Option.some.injEq,Prod.mk.injEq] at e
   obtain ⟨rfl,rfl⟩:=e
   exact ⟨rfl,hk,rfl⟩
  ·cases e
theorem zhJ {x:R} {kvs:List (D×D)} {h h':Sto} (e:dRd x h=some (kvs,h')):∃ l,x=.loc l/\(h[l]?=some (.dic kvs)\/h[l]?=some (.dfr kvs))/\h'=h:=by
 cases x with
 | d _=>cases e
 | loc l=>
  simp only [dRd] at e
  split at e
  ·rename_i kvs' ho
   simp only [Option.some.injEq,Prod.mk.injEq] at e
   obtain ⟨rfl,rfl⟩:=e
   exact ⟨l,rfl,.inl ho,rfl⟩
  ·rename_i kvs' ho
   simp only [Option.some.injEq,Prod.mk.injEq] at e
   obtain ⟨rfl,rfl⟩:=e
   exact ⟨l,rfl,.inr ho,rfl⟩
  ·cases e
end
section
variable {X:Cx} {a b e:Expr} {pos:Pos} {f g:IT.Env->M R}
noncomputable def mIn (neg:Bool) (y x:R):M R:=bnd (dRd x) λkvs=>bnd (kRd y) λk=>ok (.d (.bl (if neg then !(dGet k kvs).isSome else (dGet k kvs).isSome)))
theorem znM (hu:X.A.units+64<cLine):(dKind X.prog X.w).room X.A.in1:=by
 show X.A.units+1+8<cLine
 omega
theorem zmi (hu:X.A.units+64<cLine):OpI X (compareOp .In) (mIn false):=by
 intro pins s σ H x y v u Q I rx ry q
 obtain ⟨μ,h,y1,x1,R0,qy,qx,r,h',e,k⟩:=q
 simp only [mIn,zae,zaf] at e
 obtain ⟨kvs,h1,e1,kk,h2,e2,rfl,rfl⟩:=e
 obtain ⟨l,rfl,ho,rfl⟩:=zhJ e1
 obtain ⟨rfl,hk,rfl⟩:=ze0 e2
 obtain ⟨c,ea,rfl⟩:=qx
 cases ry
 obtain ⟨b,rfl⟩:=zhb hk qy
 cases rx
 obtain ⟨xs,xv,_,_,_,_,D⟩:=zi2 I R0 ea ho
 refine wpAny_in_heap (znM hu) (zhq (zbn I) hk qy) D.sys D.dic ?_
 have e3:(atKey xv kk).isSome=(dGet kk kvs).isSome:=by
  rcases zdW kk D.rel with ⟨d,p,v,z1,z2,_⟩ | ⟨z1,z2⟩<;>rw [z1,z2]<;>rfl
 rw [e3]
 exact ⟨.bl _,H,I.tok _,rfl,k μ H _ Stp.refl R0 (by simp only [RepR,RepD,Bool.false_eq_true,if_false])⟩
theorem zfR (hu:X.A.units+64<cLine):OpI X (compareOp .NotIn) (mIn true):=by
 intro pins s σ H x y v u Q I rx ry q
 obtain ⟨μ,h,y1,x1,R0,qy,qx,r,h',e,k⟩:=q
 simp only [mIn,zae,zaf] at e
 obtain ⟨kvs,h1,e1,kk,h2,e2,rfl,rfl⟩:=e
 obtain ⟨l,rfl,ho,rfl⟩:=zhJ e1
 obtain ⟨rfl,hk,rfl⟩:=ze0 e2
 obtain ⟨c,ea,rfl⟩:=qx
 cases ry
 obtain ⟨b,rfl⟩:=zhb hk qy
 cases rx
 obtain ⟨xs,xv,_,_,_,_,D⟩:=zi2 I R0 ea ho
 refine PyProof.Rows.wpAny_notIn_heap (znM hu) (zhq (zbn I) hk qy) D.sys D.dic ?_
 have e3:(atKey xv kk).isSome=(dGet kk kvs).isSome:=by
  rcases zdW kk D.rel with ⟨d,p,v,z1,z2,_⟩ | ⟨z1,z2⟩<;>rw [z1,z2]<;>rfl
 rw [e3]
 exact ⟨.bl _,H,I.tok _,rfl,k μ H _ Stp.refl R0 (by simp only [RepR,RepD,if_true])⟩
theorem zqm (hu:X.A.units+64<cLine) {neg:Bool} {op:CmpOp} (ho:op=if neg then .NotIn else .In) (ha:IE X a f) (hb:IE X b g) (hm:behindInMarks op b=false):IE X (.Compare a [op] [b] pos) (λσ=>bnd (f σ) λy=>bnd (g σ) λx=>mIn neg y x):=by
 cases neg with
 | false=>subst ho;exact ziT (zmi hu) ha hb hm
 | true=>subst ho;exact ziT (zfR hu) ha hb hm
theorem zou (hu:X.A.units+64<cLine) {neg:Bool} {op:CmpOp} (ho:op=if neg then .NotIn else .In) (ha:IE X a f) (hb:IE X b g) (hm:behindInMarks op b=false):IT' X (.Compare a [op] [b] pos) (λσ=>bnd (bnd (f σ) λy=>bnd (g σ) λx=>mIn neg y x) λr=>bnd (rd r) λd=>opt (tru d)):=by
 have hbl:∀ x y h r h',mIn neg x y h=some (r,h')->∃ t,r=.d (.bl t):=by
  intro x y h r h' e
  simp only [mIn,zae,zaf] at e
  obtain ⟨_,_,_,_,_,_,rfl,_⟩:=e
  exact ⟨_,rfl⟩
 cases neg with
 | false=>subst ho;exact zjQ (zmi hu) ha hb hm hbl
 | true=>subst ho;exact zjQ (zfR hu) ha hb hm hbl
end
noncomputable def putV {β:Type} (k:D) (b:Addr) (v:β):List (D×Addr×β)->List (D×Addr×β)
 | []=>[(k,b,v)]
 | q::r=>if q.1=k then (q.1,q.2.1,v)::r else q::putV k b v r
theorem zhL {β:Type} (k:D) (b:Addr) (v:β):∀ xs:List (D×Addr×β),(putV k b v xs).length<=xs.length+1
 | []=>by simp [putV]
 | q::r=>by
  have:=zhL k b v r
  rw [putV]
  split<;>simp<;>omega
theorem zgb {k:D} {v:Value}:∀ {xs:List (D×Addr×Value)},k ∉ xs.map (·.1)->xs.map (putAt k v)=xs
 | [],_=>rfl
 | x::r,h=>by
  rw [List.map_cons,List.mem_cons,not_or] at h
  have e:putAt k v x=x:=if_neg λe=>h.1 e.symm
  rw [List.map_cons,e,zgb h.2]
theorem zeP (k:D) (b:Addr) (v:Value):∀ {xs:List (D×Addr×Value)},(xs.map (·.1)).Nodup->storedH xs k b v=putV k b v xs
 | [],_=>by simp [storedH,atKey,putV]
 | x::r,n=>by
  rw [List.map_cons,List.nodup_cons] at n
  rw [putV]
  by_cases e:x.1=k
  ·rw [if_pos e]
   have h1:(atKey (x::r) k).isSome=true:=by simp [atKey,List.find?_cons,e]
   unfold storedH
   rw [if_pos h1,List.map_cons,zgb (by rw [<-e];exact n.1)]
   simp [putAt,e]
  ·rw [if_neg e,<-zeP k b v n.2]
   have h1:atKey (x::r) k=atKey r k:=by simp [atKey,List.find?_cons,e]
   unfold storedH
   rw [h1]
   split
   ·rw [List.map_cons,putAt,if_neg e]
   ·rfl
theorem zhp {α:Type} {F:D×α->D×Addr×V->Prop} {k:D} {d:α} {b:Addr} {v:V} (hF:∀ p q,F p q->p.1=q.1) (h1:F (k,d) (k,b,v)) (h2:∀ p q,F p q->p.1=k->F (p.1,d) (q.1,q.2.1,v)) (pt:List (D×α)->List (D×α))
  (p0:pt []=[(k,d)]) (pc:∀ p r,pt (p::r)=if p.1.same k then (p.1,d)::r else p::pt r):∀ {xs:List (D×α)} {ys:List (D×Addr×V)},Paired F xs ys->Paired F (pt xs) (putV k b v ys)
 | _,_,.nil=>by rw [p0,putV];exact .cons h1 .nil
 | _,_,.cons (a:=p) (b:=q) (l₁:=r) (l₂:=t) hq ht=>by
  rw [pc,putV,zcO]
  by_cases e:p.1=k
  ·rw [if_pos (by simp [e]),if_pos (by rw [<-hF p q hq];exact e)]
   exact .cons (h2 p q hq e) ht
  ·rw [if_neg (by simp [e]),if_neg (by rw [<-hF p q hq];exact e)]
   exact .cons hq (zhp hF h1 h2 pt p0 pc ht)
theorem zhk {k:D} {b:Addr} {v:V} {u:Value} (rv:RelV v u):∀ {xs:List (D×Addr×V)} {ys:List (D×Addr×Value)},Paired (λ(p:D×Addr×V) (q:D×Addr×Value)=>p.1=q.1/\p.2.1=q.2.1/\RelV p.2.2 q.2.2) xs ys →
  Paired (λ(p:D×Addr×V) (q:D×Addr×Value)=>p.1=q.1/\p.2.1=q.2.1/\RelV p.2.2 q.2.2) (putV k b v xs) (putV k b u ys)
 | _,_,.nil=>.cons ⟨rfl,rfl,rv⟩ .nil
 | _,_,.cons (a:=p) (b:=q) (l₁:=r) (l₂:=t) hq ht=>by
  rw [putV,putV,hq.1]
  split
  ·exact .cons ⟨rfl,hq.2.1,rv⟩ ht
  ·exact .cons hq (zhk rv ht)
section
variable {X:Cx}
noncomputable def zq0 (K:PySem.W.Frag):TSet:=λo i v H Q=>∃ μ h l kvs k d,Rep K μ h H/\RepR K μ h H (.loc l) o/\h[l]?=some (.dic kvs)/\zbU k=true/\RepD K (Live μ h) H k i/\RepD K (Live μ h) H d v/\kvs.length<big ∧
 (∀ H',Stp μ h H μ (h.set l (.dic (dPut k d kvs))) H'->Rep K μ (h.set l (.dic (dPut k d kvs))) H'->Q H')
theorem znV (hu:X.A.units+64<cLine):PSet X (zq0 X.K):=by
 intro pins s σ H o i v ov iv u Q I ro ri rv q
 obtain ⟨μ,h,l,kvs,k,d,R0,⟨a,ea,rfl⟩,ho,hk,qk,qd,hb,q⟩:=q
 cases ro
 obtain ⟨b,rfl⟩:=zhb hk qk
 cases ri
 obtain ⟨xs,xv,eH0,_,z,r,DA⟩:=zi2 I R0 ea (.inl ho)
 have eH:=eH0 ho
 have lx:xs.length=xv.length:=Paired.length r
 have lk:kvs.length=xs.length:=Paired.length z
 have hbig:big=sizeLine:=rfl
 refine wpAny_setItem_heap (hsz:=by omega) (znM hu) (zhq (zbn I) hk qk) DA.dic λh' dd' hs=>?_
 obtain ⟨o,es,ep,g1,g2,g3,g4,g5,g6⟩:=dd'
 have nd:(xv.map (·.1)).Nodup:=let ⟨_,_,_,_,_,_,_,_,n⟩:=DA.dic;n
 rw [zeP k b u nd] at g4 g6
 refine ⟨upd H a (.dT (putV k b v xs)),I.write (x:=a) (e:=a) (by rw [eH];exact True.intro) (.inl rfl) (λc w hc e=>(hs.2 c hc).trans e) ⟨o,g1⟩ ⟨by have:=zhL k b v xs;omega,DA.sys,_,zhk rv r,o,es,ep,g1,g2,g3,g4,g6⟩,?_⟩
 obtain ⟨s2,R2⟩:=zl9 (o':=.dic (dPut k d kvs)) (u:=.dT (putV k b v xs)) R0 ea ho rfl λst=>⟨putV k b v xs,zaD,zhp (F:=λ(p:D×D) (q:D×Addr×V)=>p.1=q.1/\(zbU p.1=true/\RepD X.K (Live μ (h.set l (.dic (dPut k d kvs)))) (upd H a (.dT (putV k b v xs))) p.1 (.ref q.2.1))/\RepD X.K (Live μ (h.set l (.dic (dPut k d kvs)))) (upd H a (.dT (putV k b v xs))) p.2 q.2.2)
  (λp q z=>z.1) ⟨rfl,⟨hk,RepD.stp st R0 qk⟩,RepD.stp st R0 qd⟩ (λp q z e=>⟨z.1,z.2.1,RepD.stp st R0 qd⟩) (dPut k d) rfl (λp r=>rfl) (L2.Paired.mapP z λp q y=>⟨y.1,⟨y.2.1.1,RepD.stp st R0 y.2.1.2⟩,RepD.stp st R0 y.2.2⟩)⟩
 exact q _ s2 R2
theorem znJ {o i e:Expr} {pos p2:Pos} {f g k:IT.Env->M R} (hu:X.A.units+64<cLine) (he:IE X e f) (ho:IE X o g) (hi:IE X i k)
  (ha:∀ v,assign (.Subscript o i p2) X.env v=(do let ov<-holding [v] (eval o X.env);let iv<-holding [v,ov] (eval i X.env);standAt p2;holding [v,ov,iv] (setItem ov iv v);release [v,ov,iv] []))
  (hs:swapsWithSole [.Subscript o i p2] e pos.line X.env=pure false) (hw:swappedStores [.Subscript o i p2] e X.env=pure none) (h1:(assignEach [.Subscript o i p2] X.env).map (·.2)=[assign (.Subscript o i p2) X.env]) :
  PS X (.Assign [.Subscript o i p2] e pos) (tS X.K λσ=>bnd (f σ) λr=>bnd (g σ) λx=>bnd (k σ) λy=>bnd (fz r) λd=>bnd (kRd y) λk=>bnd (dSet x k d) λ_=>ok (.nx,σ)):=by
 refine PS.imp (zji he (zmk ho hi (znV hu) ha) hs hw h1) λD σ H q0=>?_
 obtain ⟨μ,h,env,R0,re,fl,env',h',e,kk⟩:=q0
 simp only [zae,zaf,Prod.mk.injEq] at e
 obtain ⟨r,h1,e1,x,h2,e2,y,h3,e3,d,h4,e4,ky,h5,e5,_,h6,e6,⟨rfl,rfl⟩,rfl⟩:=e
 refine ⟨μ,h,env,R0,re,r,h1,e1,λμ1 H1 v s1 R1 q1=>⟨μ1,h1,env,R1,re.stp s1 R0,x,h2,e2,λμ2 H2 u s2 R2 q2=>⟨μ2,h2,env,R2,re.stp (s1.trans s2) R0,y,h3,e3,λμ3 H3 w s3 R3 q3=>?_⟩⟩⟩
 obtain ⟨s4,R4,zd⟩:=ziW R3 ((q1.stp s2 R1).stp s3 R2) e4
 obtain ⟨rfl,hk,rfl⟩:=ze0 e5
 cases x with
 | d _=>cases e6
 | loc l=>
  simp only [dSet] at e6
  split at e6
  ·rename_i kvs hx
   split at e6
   ·rename_i hb
    simp only [Option.some.injEq,Prod.mk.injEq] at e6
    obtain ⟨_,rfl⟩:=e6
    refine ⟨μ3,_,l,kvs,ky,d,R4,(q2.stp s3 R2).stp s4 R3,hx,hk,(q3.stp s4 R3),zd,of_decide_eq_true hb,λH' s5 R5=>?_⟩
    have st:=(((s1.trans s2).trans s3).trans s4).trans s5
    exact kk μ3 _ σ st R5 (re.stp st R0)
   ·cases e6
  ·cases e6
theorem zng {pos:Pos}:IE X (.Dict [] [] pos) (λ_=>dNew):=by
 intro pins s σ H Q I q
 obtain ⟨μ,h,env,R0,re,r,h',e,k⟩:=q
 simp only [dNew,Option.some.injEq,Prod.mk.injEq] at e
 obtain ⟨rfl,rfl⟩:=e
 have hf:=I.fresh
 refine wpAny_Dict_empty ⟨.ref s.heap.objs.size,upd H s.heap.objs.size (.dT []),I.laid (t':=s.toks) (λ_ _ q=>Heap.get?_push_of_some _ q) (Nat.le_refl _) ⟨Nat.zero_le _,beq_eq_false_iff_ne.mpr (Ne.symm (Nat.ne_of_lt (zpC I))),[],.nil,_,#[],0,Heap.get?_push_size _ rfl,⟨rfl,rfl,rfl⟩,rfl,rfl,List.nodup_nil⟩,rfl,?_⟩
 exact k (μ++[s.heap.objs.size]) _ _ (Stp.allocO R0 hf) (R0.allocO hf ⟨[],zaD,.nil⟩) ⟨_,by rw [<-R0.len];simp,rfl⟩
end
end IT
set_option linter.all false
set_option maxHeartbeats 4000000
set_option maxRecDepth 100000
namespace IT
open PySem PySem.Spec L2
section
variable {prog:Program} {w:World} {A:Around} {E:Value->Shared->Prop} {R:Result->Shared->Prop}
end
section
variable {X:Cx}
end
end IT
set_option linter.all false
set_option maxHeartbeats 4000000
set_option maxRecDepth 100000
namespace IT
open PySem
section
variable {prog:Program} {w:World} {A:Around} {E:Value->Shared->Prop} {s:Shared} {it d:Addr} {od:Obj} {es:Array DictEntry} {ep i:Nat}
theorem zj6 {Q:Value->Shared->Prop} (sys:(d==sysModules)=false) (g1:s.heap.get? d=some od) (g2:od.ExactDict) (g3:od.data=.dict es ep)
  (q:Q (.ref s.heap.objs.size) { s with heap:=s.heap.push { cls:=.type "dict_keyiterator",data:=.fields #[.ref d,.int 0 0,.int es.size 0,.int ep 0] } }):wpAny (model prog w) A (pyIter (.ref d)) Q E s:=by
 have T:s.TypeIs (.ref d) "dict":=⟨od,g1,g2.1⟩
 refine wpAny_pyIter_slot T F.slot_dict_iter (wpAny_call_entry F.slot_dict_iter T F.entry_dict_iter ?_ (F.args_dict_iter_1 _));unfold Builtin.«dict.__iter__»
 refine wpAny_bind ?_;unfold Builtin.Dict.dictSlotNone
 refine wpAny_bind (wpAny_notOrdered_dict T ?_)
 show wpAny _ _ (pure (Value.ref d)) _ _ _
 refine wpAny_pure ?_
 show wpAny _ _ (Builtin.Dict.showsAll d >>= _) _ _ _
 unfold Builtin.Dict.showsAll
 rw [if_neg (by rw [sys];exact Bool.false_ne_true)]
 refine wpAny_bind (wpAny_pure (wpAny_bind (wpAny_dictEntries g1 g3 (wpAny_bind (wpAny_dictEpoch g1 g3 ?_)))))
 refine wpAny_bind (wpAny_newObj_type (wpAny_pure ⟨_,rfl,"dict_keyiterator",_,⟨_,Heap.get?_push_size _ rfl,rfl⟩,F.slot_dict_keyiterator_next.lookup,?_⟩))
 simpa [rawInt] using q
theorem zkx {e:DictEntry} {Q:Option Value->Shared->Prop} (hit:s.heap.IsKeyIter it d i es.size ep) (g1:s.heap.get? d=some od) (g3:od.data=.dict es ep) (hx:es[i]?=some e)
  (q:∀ h',h'.IsKeyIter it d (i+1) es.size ep->Heap.SameBut it s.heap h'->Q (some e.key) { s with heap:=h' }):wpAny (model prog w) A (pyNext (.ref it)) Q E s:=by
 obtain ⟨o,ho,hc,hd⟩:=id hit
 unfold pyNext
 refine wpAny_bind (wpAny_attempt (wpAny_callSpecial?_slot (name:=Str.ofString "__next__") hit.typeIs F.slot_dict_keyiterator_next (wpAny_call_entry F.slot_dict_keyiterator_next hit.typeIs F.entry_dict_keyiterator_next ?_ (F.args_dict_keyiterator_next_1 _))))
 refine wpAny_bind (wpAny_pure (wpAny_bind (wpAny_bind ?_)))
 first | refine wpAny_bind (wpAny_typeNameOfWhole_keyiter hit.typeIs (wpAny_pure ?_)) | refine wpAny_bind (wpAny_typeNameOf_keyiter hit.typeIs (wpAny_pure ?_));skip
 refine wpAny_bind (wpAny_fieldsOf ho hd ?_)
 have own:Builtin.Dict_items.ownsTuple "dict_keyiterator"=false:=by decide
 simp only [own,Bool.false_eq_true,if_false]
 show wpAny _ _ (if (Value.ref d==Value.none)=true then _ else _) _ _ _
 rw [if_neg (show ¬ ((Value.ref d==Value.none)=true) from Bool.false_ne_true)];refine wpAny_bind (wpAny_pure (wpAny_bind (wpAny_dictEntries g1 g3 ?_)))
 rw [if_neg (by simp)];refine wpAny_bind (wpAny_pure (wpAny_bind (wpAny_dictEpoch g1 g3 ?_)))
 rw [if_neg (by simp)];refine wpAny_pure ?_
 have lt:i<es.size:=(Array.getElem?_eq_some_iff.mp hx).1
 have ee:es[i]=e:=(Array.getElem?_eq_some_iff.mp hx).2
 simp only [show ¬ ((i:Int)<0) from by omega,if_false,Int.toNat_natCast,hx]
 refine wpAny_bind ?_;first | refine wpAny_bind (wpAny_typeNameOfWhole_keyiter hit.typeIs (wpAny_pure ?_)) | refine wpAny_bind (wpAny_typeNameOf_keyiter hit.typeIs (wpAny_pure ?_))
 refine wpAny_bind (wpAny_isOneOf_keyiter hit.typeIs ?_)
 show wpAny _ _ (setField (.ref it) 1 (rawInt ((i:Int)+1)) >>= _) _ _ _
 refine wpAny_bind (wpAny_setField ho hd (by simp) ?_)
 have hit2:(s.heap.update it (Obj.mapFields (·.setIfInBounds 1 (rawInt ((i:Int)+1))))).IsKeyIter it d (i+1) es.size ep:=
  ⟨_,Heap.get?_update_self _ ho (Obj.isFreed_of_fields (Obj.data_mapFields hd _)),(Obj.cls_mapFields ..).trans hc,by rw [Obj.data_mapFields hd];simp [rawInt]⟩
 refine wpAny_bind (wpAny_holding ?_)
 refine wpAny_bind (wpAny_isOneOf_keyiter (s:={ s with heap:=s.heap.update it (Obj.mapFields (·.setIfInBounds 1 (rawInt ((i:Int)+1)))) }) hit2.typeIs ?_);show wpAny _ _ (pure e.key) _ _ _
 exact wpAny_pure (wpAny_pure ⟨_,rfl,wpAny_pure (q _ hit2 (Heap.SameBut.update ..))⟩)
theorem zls {Q:Option Value->Shared->Prop} (hh:A.handled=none) (hit:s.heap.IsKeyIter it d i es.size ep) (g1:s.heap.get? d=some od) (g3:od.data=.dict es ep) (hx:es.size<=i)
  (q:∀ h',Heap.ExtBut it s.heap h'->Q none { s with heap:=h' }):wpAny (model prog w) A (pyNext (.ref it)) Q E s:=by
 obtain ⟨o,ho,hc,hd⟩:=id hit
 unfold pyNext
 refine wpAny_bind (wpAny_attempt (wpAny_callSpecial?_slot (name:=Str.ofString "__next__") hit.typeIs F.slot_dict_keyiterator_next (wpAny_call_entry F.slot_dict_keyiterator_next hit.typeIs F.entry_dict_keyiterator_next ?_ (F.args_dict_keyiterator_next_1 _))))
 refine wpAny_bind (wpAny_pure (wpAny_bind (wpAny_bind ?_)))
 first | refine wpAny_bind (wpAny_typeNameOfWhole_keyiter hit.typeIs (wpAny_pure ?_)) | refine wpAny_bind (wpAny_typeNameOf_keyiter hit.typeIs (wpAny_pure ?_));skip
 refine wpAny_bind (wpAny_fieldsOf ho hd ?_)
 have own:Builtin.Dict_items.ownsTuple "dict_keyiterator"=false:=by decide
 simp only [own,Bool.false_eq_true,if_false]
 show wpAny _ _ (if (Value.ref d==Value.none)=true then _ else _) _ _ _
 rw [if_neg (show ¬ ((Value.ref d==Value.none)=true) from Bool.false_ne_true)];refine wpAny_bind (wpAny_pure (wpAny_bind (wpAny_dictEntries g1 g3 ?_)))
 rw [if_neg (by simp)];refine wpAny_bind (wpAny_pure (wpAny_bind (wpAny_dictEpoch g1 g3 ?_)))
 rw [if_neg (by simp)];refine wpAny_pure ?_
 simp only [show ¬ ((i:Int)<0) from by omega,if_false,Int.toNat_natCast,Array.getElem?_eq_none hx]
 refine wpAny_bind ?_;first | refine wpAny_bind (wpAny_typeNameOfWhole_keyiter hit.typeIs (wpAny_pure ?_)) | refine wpAny_bind (wpAny_typeNameOf_keyiter hit.typeIs (wpAny_pure ?_))
 show wpAny _ _ (setField (.ref it) 0 .none >>= _) _ _ _
 refine wpAny_bind (wpAny_setField ho hd (by simp) ?_)
 show wpAny _ _ (newExc (.type "StopIteration") [] >>= _) _ _ _
 refine wpAny_bind ?_;simp only [newExc,newTuple]
 refine wpAny_bind (wpAny_newObj_type ?_ (by size_fits))
 refine wpAny_bind (m:=firstArgMember _ _) (wpAny_of_eq (a:=Value.none) (by first | rfl | (simp only [firstArgMember];rfl)) ?_);refine wpAny_newObj_type ?_ (by size_fits)
 simp only [raiseNew];refine wpAny_bind (wpAny_handled ?_)
 rw [show A.in1.handled=none from hh]
 refine wpAny_bind (wpAny_pure (wpAny_throw ?_))
 refine wpAny_bind (wpAny_isInstance (T:="StopIteration") (b:=true) ⟨_,Heap.get?_push_size _ rfl,rfl⟩ isSubtype_stop ?_);exact wpAny_pure (q _ (((Heap.SameBut.update ..).extBut.push _).push _))
end
end IT
set_option linter.all false
set_option maxHeartbeats 4000000
set_option maxRecDepth 100000
namespace IT
open PySem PySem.Spec L2
noncomputable def Itd (a:Addr) (ob:Obj):L2.It:=
 ⟨λi H=>∃ xs q,H a=some (.frz ob (.dT xs))/\xs[i]?=some q,λi H x H'=>H'=H/\∀ xs,H a=some (.frz ob (.dT xs))->∃ q:D×Addr×V,xs[i]?=some q/\x=.ref q.2.1,λi H=>∃ xs,H a=some (.frz ob (.dT xs))/\xs.length<=i⟩
noncomputable def zqP (a it:Addr) (ob:Obj) (i:Nat) (h:Heap):Prop:=∃ es ep,ob.data=.dict es ep/\h.IsKeyIter it a i es.size ep
theorem zjh {X:Cx} {pins:List (Addr×Obj)} {σ:St} {H:Hp} {s:Shared} {a:Addr} {ob:Obj} {xs:List (D×Addr×V)} {es:Array DictEntry} {ep:Nat} (I:Inv X pins σ H s) (e:H a=some (.frz ob (.dT xs))) (ed:ob.data=.dict es ep) :
  s.heap.get? a=some ob/\ob.ExactDict/\(a==sysModules)=false/\es.size=xs.length/\∀ (i:Nat) (q:D×Addr×V),xs[i]?=some q->∃ t,es[i]?=some t/\t.key=.ref q.2.1/\RelV q.2.2 t.val:=by
 obtain ⟨g0,hz,hS,xv,r,o,es',ep',g1,g2,g3,g4,g5⟩:=(show zb0 X.prog X.w H s.heap a (.frz ob (.dT xs)) from I.hok a _ e)
 rw [g0] at g1
 cases g1
 rw [ed] at g3
 cases g3
 have hl:xs.length=xv.length:=Paired.length r
 have hs:es.size=xv.length:=by rw [<-Array.length_toList,g4,List.length_map]
 refine ⟨g0,g2,hS,by omega,λi q hq=>?_⟩
 have at2:∀ {l1:List (D×Addr×V)} {l2:List (D×Addr×Value)},Paired (λ(p:D×Addr×V) (q:D×Addr×Value)=>p.1=q.1/\p.2.1=q.2.1/\RelV p.2.2 q.2.2) l1 l2->∀ (i:Nat) q,l1[i]?=some q->∃ t,l2[i]?=some t/\q.2.1=t.2.1/\RelV q.2.2 t.2.2:=by
  intro l1 l2 z
  induction z with
  | nil=>intro i q e;simp at e
  | @cons p t ps ts h _ ih=>
   intro i q e
   cases i with
   | zero=>simp at e;subst e;exact ⟨t,rfl,h.2⟩
   | succ i=>simp at e;simpa using ih i q e
 obtain ⟨t,e1,e2,e3⟩:=at2 r i q hq
 refine ⟨entryOfKey (dKind X.prog X.w) t,?_,by rw [e2];rfl,e3⟩
 rw [<-Array.getElem?_toList,g4,List.getElem?_map,e1]
 rfl
theorem zlI {P:Program} {w:World} {K:PySem.W.Frag} {tg:Expr} (a it:Addr) (ob:Obj):Turn P w K tg (Itd a ob) [it] it (zqP a it ob) where
 mem:=by simp
 obj:=λi h st b hb=>by
  have e:b=it:=by simpa using hb
  subst e
  obtain ⟨_,_,_,o,e,c,d⟩:=st
  exact ⟨o,e,λv z=>by rw [d] at z;cases z⟩
 keep:=λi h h' st k=>by
  obtain ⟨es,ep,e0,o,e,c⟩:=st
  exact ⟨es,ep,e0,o,k it (by simp) o e,c⟩
 item:=by
  intro X hP hw hK hc i pins s σ H E I hf st hg
  subst hP hw hK
  obtain ⟨xs,q,eH,hq⟩:=hg
  obtain ⟨es,ep,ed,hit⟩:=st
  obtain ⟨g0,g2,hS,hz,hat⟩:=zjh I eH ed
  obtain ⟨t,e1,e2,e3⟩:=hat i q hq
  obtain ⟨f0,f1,f2,f3,f4,f5⟩:=hf it (by simp)
  refine zkx hit g0 ed e1 λh' st' sb=>?_
  have I1:Inv X pins σ H { s with heap:=h' }:=I.turned (t':=s.toks) (λb o hb e=>(sb.2 b hb).trans e) f0 f1 f3 f4 f5
  obtain ⟨o,e,c,d⟩:=id st'
  refine ⟨t.key,rfl,zjF (s:={ s with heap:=h' }) e c d (by decide) ⟨.ref q.2.1,H,I1,e2,⟨rfl,λys hy=>?_⟩,⟨es,ep,ed,st'⟩,λb hb=>(hf b hb).1⟩⟩
  rw [eH] at hy
  cases hy
  exact ⟨q,hq,rfl⟩
 done:=by
  intro X hP hw hK hc i pins s σ H E I hf st hg
  subst hP hw hK
  obtain ⟨xs,eH,hx⟩:=hg
  obtain ⟨es,ep,ed,hit⟩:=st
  obtain ⟨g0,g2,hS,hz,hat⟩:=zjh I eH ed
  obtain ⟨f0,f1,f2,f3,f4,f5⟩:=hf it (by simp)
  exact zls (I.ok.hd hc) hit g0 ed (by omega) λh' eb=>⟨rfl,I.turned (t':=s.toks) (λb o hb e=>eb b o hb e) f0 f1 f3 f4 f5⟩
 self:=λ_ _ _ _ _ st h=>by
  obtain ⟨_,_,_,hit⟩:=st
  exact wpAny_pyIter_keyiter hit h
section
variable {X:Cx} {tg:Expr}
noncomputable def iDic (tl:TE):TI:=λσ H R=>tl σ H λx H1=>∃ a ob xs,x=.ref a/\H1 a=some (.frz ob (.dT xs))/\(xs.length<=sizeLine->R (Itd a ob) H1)
theorem zoi {l:Expr} {tl:TE} (hl:PE X l tl):PI X tg l (iDic tl):=by
 intro pins s σ H R I h
 refine thn (hl pins s σ H _ I h) λv s1 ⟨x,H1,I1,r1,q1⟩=>?_
 obtain ⟨a,ob,xs,e,hq,q⟩:=q1
 subst e
 cases r1
 have:∃ es ep,ob.data=.dict es ep/\xs.length<=sizeLine:=by
  obtain ⟨g0,hz,hS,xv,r,o,es',ep',g1,g2,g3,_⟩:=(show zb0 X.prog X.w H1 s1.heap a (.frz ob (.dT xs)) from I1.hok a _ hq)
  rw [g0] at g1
  cases g1
  exact ⟨_,_,g3,hz⟩
 obtain ⟨es,ep,ed,hzz⟩:=this
 obtain ⟨g0,g2,hS,hz,hat⟩:=zjh I1 hq ed
 refine zj6 hS g0 g2 ed ?_
 refine ⟨s1.heap.objs.size,[s1.heap.objs.size],_,_,H1,rfl,I1.kept (t':=s1.toks) λb o e=>Heap.get?_push_of_some _ e,zlI a _ ob,⟨es,ep,ed,_,Heap.get?_push_size _ rfl,rfl,rfl⟩,λb hb=>?_,q hzz⟩
 have e:b=s1.heap.objs.size:=by simpa using hb
 subst e
 exact I1.fpOk (Nat.le_refl _) (I1.hok.fresh (Nat.le_refl _))
theorem zgx {α β:Type} {F:α->β->Prop}:∀ {xs:List α} {ys:List β},Paired F xs ys->∀ (i:Nat) x,xs[i]?=some x->∃ y,ys[i]?=some y/\F x y
 | _,_,.nil,i,x,e=>by simp at e
 | _,_,.cons (b:=b) h t,0,x,e=>by simp at e;subst e;exact ⟨b,rfl,h⟩
 | _,_,.cons h t,i+1,x,e=>by simp at e;simpa using zgx t i x e
theorem zm9 {K:PySem.W.Frag} {μ:List Addr} {h:Sto} {H:Hp} {a:Addr} {l:Nat} {kvs:List (D×D)} {ob:Obj} {xs:List (D×Addr×V)} (R0:Rep K μ h H) (e:H a=some (.frz ob (.dT xs)))
  (z:Paired (λ(p:D×D) (q:D×Addr×V)=>p.1=q.1/\(zbU p.1=true/\RepD K (Live μ h) H p.1 (.ref q.2.1))/\RepD K (Live μ h) H p.2 q.2.2) kvs xs):Wlk K (Itd a ob) ⟨kvs.map λp=>dI p.1,some l⟩ μ h H:=by
 have keep:∀ μ1 h1 H1,Stp μ h H μ1 h1 H1->H1 a=some (.frz ob (.dT xs)):=λμ1 h1 H1 st=>st.keep a _ (R0.notLive e (by intro vs z;cases z)) e
 refine ⟨λμ1 h1 H1 i x st R1 _ ex=>?_,λμ1 h1 H1 st R1 _=>⟨xs,keep _ _ _ st,by rw [List.length_map,Paired.length z];exact Nat.le_refl _⟩⟩
 rw [List.getElem?_map,Option.map_eq_some_iff] at ex
 obtain ⟨p,ep,rfl⟩:=ex
 obtain ⟨q,eq,h1,h2,h3⟩:=zgx z i p ep
 refine ⟨⟨xs,q,keep _ _ _ st,eq⟩,λv' H' ⟨hH,hv⟩=>?_⟩
 subst hH
 obtain ⟨q',eq',rfl⟩:=hv xs (keep _ _ _ st)
 rw [eq] at eq'
 cases eq'
 exact ⟨Stp.refl,R1,RepD.stp st R0 h2.2⟩
theorem zoC {l:Expr} {f:IT.Env->M R} (hl:IE X l f):PI X tg l (tI X.K λσ=>bnd (f σ) λr=>zgr r):=by
 refine PI.imp (zoi hl) λσ H R q0=>?_
 obtain ⟨μ,h,env,R0,re,w,h',e,k⟩:=q0
 simp only [zae] at e
 obtain ⟨r,h1,e1,e2⟩:=e
 refine ⟨μ,h,env,R0,re,r,h1,e1,λμ1 H1 v s1 R1 q1=>?_⟩
 cases r with
 | d _=>cases e2
 | loc l=>
  simp only [zgr] at e2
  split at e2
  ·rename_i kvs ho
   simp only [Option.some.injEq,Prod.mk.injEq] at e2
   obtain ⟨rfl,rfl⟩:=e2
   obtain ⟨a,ea,rfl⟩:=q1
   obtain ⟨ob,xs,eH,z⟩:=R1.obj l a _ ea ho
   exact ⟨a,ob,xs,rfl,eH,λhz=>k μ1 H1 _ s1 R1 (zm9 R1 eH z) (by rw [List.length_map,Paired.length z];exact hz)⟩
  ·cases e2
end
end IT
set_option linter.all false
set_option maxHeartbeats 4000000
set_option maxRecDepth 100000
namespace IT
open PySem
section
variable {prog:Program} {w:World} {A:Around} {E:Value->Shared->Prop} {s:Shared}
end
end IT
set_option linter.all false
set_option maxHeartbeats 4000000
set_option maxRecDepth 100000
namespace IT
open PySem PyProof.Rows
noncomputable abbrev tupO (k v:Value):Obj:={ cls:=.type "tuple",data:=.seq #[k,v] }
section
variable {prog:Program} {w:World} {A:Around} {E:Value->Shared->Prop} {s:Shared} {it d:Addr} {od:Obj} {es:Array DictEntry} {ep i:Nat}
structure zme (es:Array DictEntry) (h:Heap) (S it base:Addr) (acc:Array Value) (i:Nat):Prop where
 size:acc.size=i
 at':∀ j,j<i->∃ (a:Addr) (e:DictEntry),acc[j]?=some (.ref a)/\es[j]?=some e/\h.get? a=some (tupO e.key e.val)/\a≠S/\a≠it/\base<=a
 inc:∀ (j k:Nat) (a b:Addr),j<k->acc[j]?=some (.ref a)->acc[k]?=some (.ref b)->a<b
end
end IT
set_option linter.all false
set_option maxHeartbeats 4000000
set_option maxRecDepth 100000
namespace IT
open PySem PySem.W PyProof.Rows
theorem zl5:∀ x y:List Nat,ltS x y=decide (x<y)
 | [],[]=>by simp [ltS]
 | [],_::_=>by simp [ltS]
 | _::_,[]=>by simp [ltS]
 | a::r,b::t=>by
  have ih:=zl5 r t
  simp only [ltS,List.cons_lt_cons_iff]
  by_cases h:a=b
  ·subst h;simp [ih]
  ·simp [h]
theorem zmU {x y:List Nat} (h1:ltS x y=false) (h2:ltS y x=false):x=y:=by
 rw [zl5,decide_eq_false_iff_not] at h1 h2
 exact List.le_antisymm (List.not_lt.mp h2) (List.not_lt.mp h1)
mutual
theorem zpo:∀ x y:D,D.lt x y=some false->D.lt y x=some false->x=y
 | .int a,y,h1,h2=>by
  cases y<;>simp [D.lt] at h1 h2
  rw [Int.le_antisymm h2 h1]
 | .str a,y,h1,h2=>by
  cases y<;>simp [D.lt] at h1 h2
  rw [zmU h1 h2]
 | .tup a,y,h1,h2=>by
  cases y<;>simp [D.lt] at h1 h2
  rw [lts_tot a _ h1 h2]
 | .non,_,h1,_=>by simp [D.lt] at h1
 | .bl _,_,h1,_=>by simp [D.lt] at h1
 | .lst _,_,h1,_=>by simp [D.lt] at h1
theorem lts_tot:∀ x y:List D,D.lts x y=some false->D.lts y x=some false->x=y
 | [],[],_,_=>rfl
 | [],_::_,h1,_=>by simp [D.lts] at h1
 | _::_,[],_,h2=>by simp [D.lts] at h2
 | a::r,b::t,h1,h2=>by
  simp only [D.lts] at h1 h2
  by_cases h:a=b
  ·subst h
   rw [if_pos (D.same_refl a)] at h1 h2
   rw [lts_tot r t h1 h2]
  ·rw [if_neg (by rw [zfz h];exact Bool.false_ne_true)] at h1
   rw [if_neg (by rw [zfz (Ne.symm h)];exact Bool.false_ne_true)] at h2
   exact absurd (zpo a b h1 h2) h
end
section
variable {prog:Program} {w:World} {E:Value->Shared->Prop}
end
noncomputable def runK {α:Type} (f:Nat->Nat->Bool):KasT α->α
 | .ret a=>a
 | .ask i j k=>runK f (k (f i j))
noncomputable def inK {α:Type} (n:Nat) (f:Nat->Nat->Bool):KasT α->Bool
 | .ret _=>true
 | .ask i j k=>decide (i<n)&&decide (j<n)&&inK n f (k (f i j))
noncomputable def fR (rs:List Nat) (i j:Nat):Bool:=decide (i<rs.length)&&decide (j<rs.length)&&decide (rs.getD i 0<rs.getD j 0)
theorem zob {xs:List D} {i:Nat} (h:i<xs.length):xs.getD i .non=xs[i]:=by simp [h]
structure Srt (xs ys:List D) (p:List Nat):Prop where
 len:xs.length<=4
 key:∀ x∈xs,zbU x=true
 fst:(∀ x∈xs,fstK x=1)\/∀ x∈xs,fstK x=2
 lt:∀ i j,i<xs.length->j<xs.length->D.lt (xs.getD i .non) (xs.getD j .non)=some (fR (xs.map (rnk xs)) i j)
 mem:∀ i∈p,i<xs.length
 plen:p.length=xs.length
 out:ys=p.map λi=>xs.getD i .non
 few:xs.length<2->p=List.range xs.length
 run:2<=xs.length->inK xs.length (fR (xs.map (rnk xs))) (kas_sort xs.length)=true/\(runK (fR (xs.map (rnk xs))) (kas_sort xs.length)).toList=p
section
variable {prog:Program} {w:World} {A:Around} {E:Value->Shared->Prop} {s:Shared} {a:Addr} {vs:List Value} {xs ys:List D}
theorem KAts.getD {h:Heap} (k:KAts h xs vs) {i:Nat} (hi:i<xs.length):KAt h (xs.getD i .non) (vs.getD i .none):=by
 obtain ⟨v,e,q⟩:=k.at i _ (List.getElem?_eq_getElem hi)
 rw [zob hi]
 have:vs.getD i .none=v:=by rw [List.getD_eq_getElem?_getD,e];rfl
 rw [this]
 exact q
end
end IT
set_option linter.all false
set_option maxHeartbeats 4000000
set_option maxRecDepth 100000
namespace IT
open PySem PySem.Spec L2 PyProof.Rows
section
variable {K:PySem.W.Frag} {μ:List Addr} {h:Sto} {H:Hp}
end
section
variable {X:Cx} {pins:List (Addr×Obj)} {σ:L2.St} {H H':Hp} {s:Shared} {h':Heap}
end
section
variable {prog:Program} {w:World} {A:Around} {E:Value->Shared->Prop} {s:Shared}
theorem zme.as {es:Array DictEntry} {h:Heap} {S it base:Addr} {acc:Array Value} {n:Nat} (P:zme es h S it base acc n):∃ as:List Addr,acc.toList=as.map Value.ref/\as.length=n/\as.Nodup/\∀ (j:Nat) (a:Addr),as[j]?=some a->base<=a/\∃ e,es[j]?=some e/\h.get? a=some (tupO e.key e.val):=by
 have el:∀ j (hj:j<acc.toList.length),∃ a e,acc.toList[j]=Value.ref a/\es[j]?=some e/\h.get? a=some (tupO e.key e.val)/\base<=a:=by
  intro j hj
  obtain ⟨a,e,e1,e2,e3,_,_,e4⟩:=P.at' j (by rw [<-P.size];simpa using hj)
  refine ⟨a,e,?_,e2,e3,e4⟩
  rw [<-Array.getElem?_toList,List.getElem?_eq_getElem hj] at e1
  exact Option.some.inj e1
 let g:Value->Addr:=λv=>match v with
  | .ref a=>a
  | _=>0
 have hg:∀ (j:Nat) (a:Addr),(acc.toList.map g)[j]?=some a->acc.toList[j]?=some (Value.ref a):=by
  intro j a e
  rw [List.getElem?_map] at e
  cases hj:acc.toList[j]? with
  | none=>rw [hj] at e;cases e
  | some v=>
   rw [hj] at e
   obtain ⟨h1,h2⟩:=List.getElem?_eq_some_iff.mp hj
   obtain ⟨a',_,e1,_⟩:=el j h1
   rw [<-h2,e1] at e
   cases e
   rw [<-h2,e1]
 refine ⟨acc.toList.map g,?_,by rw [List.length_map,Array.length_toList,P.size],?_,λj a e=>?_⟩
 ·refine List.ext_getElem (by simp) λj h1 h2=>?_
  obtain ⟨a,_,e1,_⟩:=el j h1
  rw [List.getElem_map,List.getElem_map,e1]
 ·rw [List.nodup_iff_pairwise_ne,List.pairwise_iff_getElem]
  intro i j hi hj hij
  have e1:=hg i _ (List.getElem?_eq_getElem hi)
  have e2:=hg j _ (List.getElem?_eq_getElem hj)
  rw [Array.getElem?_toList] at e1 e2
  exact Nat.ne_of_lt (P.inc i j _ _ hij e1 e2)
 ·have e1:=hg j a e
  obtain ⟨h1,h2⟩:=List.getElem?_eq_some_iff.mp e1
  obtain ⟨a',t,e3,e4,e5,e6⟩:=el j h1
  rw [h2] at e3
  cases e3
  exact ⟨e6,t,e4,e5⟩
end
section
variable {X:Cx}
end
end IT
set_option linter.all false
set_option maxHeartbeats 4000000
set_option maxRecDepth 100000
namespace IT
open PySem PySem.Spec L2
section
variable {X:Cx}
end
end IT
set_option linter.all false
set_option maxHeartbeats 4000000
set_option maxRecDepth 100000
namespace IT
open PySem
noncomputable def rise:List Nat->Bool
 | []=>true
 | a::r=>(match r with
  | []=>true
  | b::_=>decide (a<b))&&rise r
noncomputable def okP (P:List Nat):Bool:=decide (P.length<=4)&&(P.all λj=>decide (j<8))&&rise P
noncomputable def forP (f:List Nat->Bool):Bool:=f []&&((List.range 8).all λa=>f [a]&&((List.range 8).all λb=>f [a,b]&&((List.range 8).all λc=>f [a,b,c]&&(List.range 8).all λd=>f [a,b,c,d])))
theorem ziX {f:List Nat->Bool} (h:forP f=true) {P:List Nat} (o:okP P=true):f P=true:=by
 simp only [okP,Bool.and_eq_true,List.all_eq_true,decide_eq_true_eq] at o
 obtain ⟨⟨h4,h8⟩,_⟩:=o
 simp only [forP,Bool.and_eq_true,List.all_eq_true,List.mem_range] at h
 obtain ⟨h0,h1⟩:=h
 match P,h4,h8 with
 | [],_,_=>exact h0
 | [a],_,h8=>exact (h1 a (h8 a (by simp))).1
 | [a,b],_,h8=>exact ((h1 a (h8 a (by simp))).2 b (h8 b (by simp))).1
 | [a,b,c],_,h8=>exact (((h1 a (h8 a (by simp))).2 b (h8 b (by simp))).2 c (h8 c (by simp))).1
 | [a,b,c,d],_,h8=>exact (((h1 a (h8 a (by simp))).2 b (h8 b (by simp))).2 c (h8 c (by simp))).2 d (h8 d (by simp))
 | _::_::_::_::_::_,h4,_=>simp at h4
noncomputable def zn3 (P:List Nat) (j:Nat):SetTable.Slot:=if P.toArray[SetTable.below P.toArray j]?==some j then .live (SetTable.below P.toArray j) else .empty
noncomputable def zic (P:List Nat) (j:Nat):SetTable.Slot:=match P.findIdx? (·==j) with
 | some i=>.live i
 | none=>.empty
theorem zqU:forP (λP=>!okP P||(List.range 8).all λj=>decide (zn3 P j=zic P j))=true:=by decide +kernel
theorem zrh:forP (λP=>!okP P||(List.range P.length).all λi=>P.findIdx? (·==P.getD i 0)==some i)=true:=by decide +kernel
section
variable {P:List Nat} (o:okP P=true)
include o
theorem zmJ {j:Nat} (hj:j<8):zn3 P j=zic P j:=by
 have h:=ziX zqU o
 simp only [o,Bool.not_true,Bool.false_or,List.all_eq_true,List.mem_range,decide_eq_true_eq] at h
 exact h j hj
theorem zq1 {i j:Nat} (hi:P[i]?=some j):P.findIdx? (·==j)=some i:=by
 have h:=ziX zrh o
 simp only [o,Bool.not_true,Bool.false_or,List.all_eq_true,List.mem_range,beq_iff_eq] at h
 obtain ⟨h1,h2⟩:=List.getElem?_eq_some_iff.mp hi
 have:=h i h1
 rw [List.getD_eq_getElem?_getD,hi] at this
 exact this
theorem zmV:P.length<=4:=by
 simp only [okP,Bool.and_eq_true,decide_eq_true_eq] at o
 exact o.1.1
end
noncomputable def pth (h:Int):Nat->Nat×Nat
 | 0=>(SetTable.bits h % 8,SetTable.bits h)
 | k+1=>SetTable.leap 7 (pth h k).1 (pth h k).2
theorem zps (h:Int):∀ k,(pth h k).1<8
 | 0=>Nat.mod_lt _ (by omega)
 | k+1=>Nat.mod_lt _ (by omega)
structure zeA (t:SetTable) (P:List Nat):Prop where
 mask:t.mask=7
 dum:t.dummies=#[]
 pl:t.place.toList=P
 ok:okP P=true
noncomputable def stp (h:Int) (k:Nat):SetTable.Probe:={ j:=(pth h k).1,more:=0,i:=(pth h k).1,perturb:=(pth h k).2,dummy:=none }
section
variable {t:SetTable} {P:List Nat} (T:zeA t P)
include T
theorem zeA.arr:t.place=P.toArray:=by rw [<-T.pl]
theorem zeA.slot {j:Nat} (hj:j<8):t.slot j=zic P j:=by
 rw [<-zmJ T.ok hj]
 unfold SetTable.slot zn3
 rw [T.dum,T.arr]
 rfl
theorem zeA.start (h:Int):t.probeStart h=stp h 0:=by
 unfold SetTable.probeStart stp
 rw [T.mask]
 have e:SetTable.runEnd 7 (SetTable.bits h % (7+1))=SetTable.bits h % (7+1):=by
  unfold SetTable.runEnd
  rw [if_neg (by omega)]
 dsimp only
 rw [e,Nat.sub_self]
 rfl
theorem zeA.adv (h:Int) (k:Nat):t.advance (stp h k)=stp h (k+1):=by
 unfold SetTable.advance
 rw [if_neg (by show ¬ (0>0);omega),T.mask]
 show ({ j:=(pth h (k+1)).1,more:=SetTable.runEnd 7 (pth h (k+1)).1-(pth h (k+1)).1,i:=(pth h (k+1)).1,perturb:=(pth h (k+1)).2,dummy:=none }:SetTable.Probe)=_
 have e:SetTable.runEnd 7 (pth h (k+1)).1=(pth h (k+1)).1:=by
  unfold SetTable.runEnd
  rw [if_neg (by omega)]
 rw [e,Nat.sub_self]
 rfl
theorem zeA.go {hashAt:Nat->Int} {h:Int} {N:Nat} (hN:(pth h N).1 ∉ P) (hb:∀ k,k<N->(pth h k).1∈P):∀ (m k fuel:Nat),N-k=m->k<=N->m<fuel →
  ∃ k1,k<=k1/\k1<=N/\(∀ k',k<=k'->k'<k1->∀ i,P.findIdx? (·==(pth h k').1)=some i->hashAt i≠h) ∧
   ((k1=N/\SetTable.probe.go t hashAt h fuel (stp h k)=some (.empty (pth h N).1 none)) ∨
    (k1<N/\∃ i,P.findIdx? (·==(pth h k1).1)=some i/\hashAt i=h/\SetTable.probe.go t hashAt h fuel (stp h k)=some (.candidate (pth h k1).1 i (stp h (k1+1)))))
 | m,k,0,hm,hk,hf=>by omega
 | m, k,fuel+1,hm,hk,hf=>by
  unfold SetTable.probe.go
  have es:t.slot (stp h k).j=zic P (pth h k).1:=T.slot (zps h k)
  rw [es]
  by_cases e:k=N
  ·subst e
   have:P.findIdx? (·==(pth h k).1)=none:=by
    rw [List.findIdx?_eq_none_iff]
    intro x hx
    simp only [beq_eq_false_iff_ne]
    exact λz=>hN (z▸hx)
   refine ⟨k,Nat.le_refl _,Nat.le_refl _,λk' h1 h2=>by omega,.inl ⟨rfl,?_⟩⟩
   simp only [zic,this]
   rfl
  ·have hlt:k<N:=by omega
   obtain ⟨j,hj⟩:=List.getElem?_of_mem (hb k hlt)
   have hi:=zq1 T.ok hj
   simp only [zic,hi]
   by_cases eh:hashAt j=h
   ·refine ⟨k,Nat.le_refl _,hk,λk' h1 h2=>by omega,.inr ⟨hlt,j,hi,eh,?_⟩⟩
    rw [if_pos (by rw [eh];exact beq_self_eq_true h),T.adv]
    rfl
   ·obtain ⟨k1,g1,g2,g3,g4⟩:=zeA.go hN hb (N-(k+1)) (k+1) fuel rfl (by omega) (by omega)
    refine ⟨k1,by omega,g2,λk' h1 h2 i hi'=>?_,?_⟩
    ·by_cases ek:k'=k
     ·subst ek
      rw [hi] at hi'
      cases hi'
      exact eh
     ·exact g3 k' (by omega) h2 i hi'
    ·rw [if_neg (by simp [eh]),T.adv]
     exact g4
theorem zeA.probe {hashAt:Nat->Int} {h:Int} {N:Nat} (hN:(pth h N).1 ∉ P) (hb:∀ k,k<N->(pth h k).1∈P) (h20:N<=20) (k:Nat) (hk:k<=N) :
  ∃ k1,k<=k1/\k1<=N/\(∀ k',k<=k'->k'<k1->∀ i,P.findIdx? (·==(pth h k').1)=some i->hashAt i≠h) ∧
   ((k1=N/\t.probe hashAt h (stp h k)=some (.empty (pth h N).1 none)) ∨
    (k1<N/\∃ i,P.findIdx? (·==(pth h k1).1)=some i/\hashAt i=h/\t.probe hashAt h (stp h k)=some (.candidate (pth h k1).1 i (stp h (k1+1))))):=by
 unfold SetTable.probe
 rw [T.mask]
 exact T.go hN hb (N-k) k _ rfl hk (by show N-k<10*(7+15);omega)
end
end IT
set_option linter.all false
set_option maxHeartbeats 4000000
set_option maxRecDepth 100000
namespace IT
open PySem
noncomputable def byTx (w:World):Bool:=w.params.followText "set-order"
structure zdi (w:World) (h:Heap) (a:Addr) (rs:List (D×Addr)) (es:Array (Int×Value)) (ep:Nat) (t:SetTable) (P:List Nat):Prop where
 get:h.get? a=some { cls:=.type "set",dict:=none,data:=.set es ep t,slots:=#[] }
 tab:zeA t P
 len:P.length=rs.length
 led:t.led=!byTx w
 ents:es.toList=rs.map λr=>(zdE w r.1,Value.ref r.2)
 key:∀ r∈rs,zbU r.1=true/\KAt h r.1 (.ref r.2)
 nd:(rs.map (·.1)).Nodup
 way:∀ z∈P.zip rs,∃ k,(pth (zdE w z.2.1) k).1=z.1/\∀ k',k'<k->(pth (zdE w z.2.1) k').1∈P
section
variable {w:World} {h:Heap} {a:Addr} {rs:List (D×Addr)} {es:Array (Int×Value)} {ep:Nat} {t:SetTable} {P:List Nat}
theorem zdi.size (S:zdi w h a rs es ep t P):es.size=rs.length:=by rw [<-Array.length_toList,S.ents,List.length_map]
theorem zdi.psize (S:zdi w h a rs es ep t P):t.place.size=rs.length:=by rw [<-Array.length_toList,S.tab.pl,S.len]
theorem zdi.le4 (S:zdi w h a rs es ep t P):rs.length<=4:=by rw [<-S.len];exact zmV S.tab.ok
theorem zdi.fits (S:zdi w h a rs es ep t P):t.fits es.size=true:=by
 have:=S.le4
 simp only [SetTable.fits,SetTable.fill,S.psize,S.size,S.tab.dum,S.tab.mask,beq_self_eq_true,Bool.true_and,decide_eq_true_eq]
 show rs.length+0<=7
 omega
theorem zdi.at (S:zdi w h a rs es ep t P) {i:Nat} {r:D×Addr} (e:rs[i]?=some r):es[i]?=some (zdE w r.1,Value.ref r.2):=by
 rw [<-Array.getElem?_toList,S.ents,List.getElem?_map,e];rfl
theorem zdi.mono {h':Heap} (S:zdi w h a rs es ep t P) (k:∀ o,h.get? a=some o->h'.get? a=some o) (kt:∀ b its,h.IsTuple b its->h'.IsTuple b its):zdi w h' a rs es ep t P:=
 ⟨k _ S.get,S.tab,S.len,S.led,S.ents,λr hr=>⟨(S.key r hr).1,KAt.keep kt _ _ (S.key r hr).2⟩,S.nd,S.way⟩
end
section
variable {prog:Program} {w:World} {A:Around} {E:Value->Shared->Prop} {s:Shared}
variable {a:Addr} {rs:List (D×Addr)} {es:Array (Int×Value)} {ep:Nat} {t:SetTable} {P:List Nat}
end
end IT
set_option linter.all false
set_option maxHeartbeats 4000000
set_option maxRecDepth 100000
namespace IT
open PySem PyProof.Rows
section
variable {prog:Program} {w:World} {A:Around} {E:Value->Shared->Prop} {R:Result->Shared->Prop} {I l S:Addr} {items:Array Value} {vals:List (D×Addr)}
end
section
variable {prog:Program} {w:World} {A:Around} {E:Value->Shared->Prop} {s:Shared}
noncomputable abbrev set0 (w:World):Obj:={ cls:=.type "set",dict:=none,data:=.set #[] 0 (.fresh 0 0 (!byTx w)) }
theorem zkN (a:Value) {Q₁:Value->Shared->Prop} (h:Q₁ (.ref s.heap.objs.size) { s with heap:=s.heap.push (set0 w) }) :
  codeAny (model prog w) A (.call (.builtin "set.__new__") ⟨[.type "set",a],[]⟩) (wants Q₁ E) s:=by
 refine codeAny_of_tree ?_;show wpAny _ A.in1 (do checkBuiltinCall "set.__new__" ⟨[.type "set",a],[]⟩;again (.builtin "set.__new__" ⟨[.type "set",a],[]⟩)) _ _ s
 refine wpAny_bind (wpAny_of_eq (F.newCall_set_1 a) (wpAny_pure ⟨plainId_quiet PySem.F.plain_set_new _,codeAny_builtin PySem.F.entry_set_new ?_⟩))
 rw [Around.under_plainId PySem.F.plain_set_new _];unfold Builtin.«set.__new__» Builtin.Frozenset.newClass
 have hsub:=sub_set_self
 obtain ⟨hp,g,d,tk,os⟩:=s
 dsimp only
 wp_walk
 refine wpAny_askSetting (wpAny_pure ?_)
 dsimp only;simp only [newObj]
 exact wpAny_bind (wpAny_alloc (wpAny_pure (wpAny_pure h)))
end
end IT
set_option linter.all false
set_option maxHeartbeats 4000000
set_option maxRecDepth 100000
namespace IT
open PySem PyProof.Rows
inductive Mode (w:World) (v:Addr) (es:Array (Int×Value)) (ep:Nat) (t:SetTable) (P:List Nat) (fs:Nat->Value) (vs:List (Int×Value)) (h:Heap):Prop where
 | drawn (T:Addr) (p:List Nat) (hf:fs=λ_=>.ref T) (hT:h.get? T=some { cls:=.type "tuple",data:=.seq (p.map λi:Nat=>rawInt (i:Int)).toArray 0 }) (hp:p.length=es.size) (hv:∀ (i j:Nat),p[i]?=some j->∃ e,es[j]?=some e/\vs[i]?=some e)
 | text (hb:byTx w=true) (hf:fs=λ_=>rawInt 0) (hv:(pickOrder (w.params.setOrder v ep) es).toList=vs)
 | slots (hb:byTx w=false) (hd:t.plain=true\/es.size<=1) (hf:fs=λi=>rawInt ((if i=0 then 0 else P.getD (i-1) 0+1:Nat):Int)) (hv:vs=es.toList)
theorem Mode.keep {w:World} {v:Addr} {es:Array (Int×Value)} {ep:Nat} {t:SetTable} {P:List Nat} {fs:Nat->Value} {vs:List (Int×Value)} {h h':Heap} {b:Addr} (m:Mode w v es ep t P fs vs h) (k:∀ c o,c≠b->h.get? c=some o->h'.get? c=some o) (hb:∀ o,h.get? b=some o->o.cls≠.type "tuple"):Mode w v es ep t P fs vs h':=by
 cases m with
 | drawn T p hf hT hp hv=>exact .drawn T p hf (k T _ (λe=>by subst e;exact hb _ hT rfl) hT) hp hv
 | text hb hf hv=>exact .text hb hf hv
 | slots hb hd hf hv=>exact .slots hb hd hf hv
section
variable {prog:Program} {w:World} {A:Around} {E:Value->Shared->Prop} {s:Shared}
variable {I v:Addr} {rs:List (D×Addr)} {es:Array (Int×Value)} {ep:Nat} {t:SetTable} {P:List Nat} {fs:Nat->Value} {vs:List (Int×Value)} {i:Nat}
end
end IT
set_option linter.all false
set_option maxHeartbeats 4000000
set_option maxRecDepth 100000
namespace IT
open PySem PyProof.Rows
section
variable {prog:Program} {w:World} {A:Around} {E:Value->Shared->Prop} {s:Shared} {I v:Addr} {rs:List (D×Addr)} {es:Array (Int×Value)} {ep:Nat} {t:SetTable} {P:List Nat}
end
end IT
set_option linter.all false
set_option maxHeartbeats 4000000
set_option maxRecDepth 100000
namespace IT
open PySem PySem.Spec L2
structure SetF (w:World) (rs:List (D×Addr)) (es:Array (Int×Value)) (t:SetTable) (P:List Nat):Prop where
 tab:zeA t P
 len:P.length=rs.length
 led:t.led=!byTx w
 ents:es.toList=rs.map λr=>(zdE w r.1,Value.ref r.2)
 nd:(rs.map (·.1)).Nodup
 way:∀ z∈P.zip rs,∃ k,(pth (zdE w z.2.1) k).1=z.1/\∀ k',k'<k->(pth (zdE w z.2.1) k').1∈P
section
variable {X:Cx}
end
end IT
set_option linter.all false
set_option maxHeartbeats 4000000
set_option maxRecDepth 100000
namespace IT
open PySem PySem.Spec L2
inductive GEnt (K:PySem.W.Frag) (w:World):List (List Nat×D)->List DictEntry->Prop where
 | nil:GEnt K w [] []
 | cons {k:List Nat} {d:D} {e:DictEntry} {t:Tok} {v:V} {kvs:List (List Nat×D)} {es:List DictEntry} (h1:e.hash=hashStr w (zac k)) (h2:e.key=.str (zac k) t) (h3:RelV v e.val) (h4:∀ A H,RepD K A H d v) (r:GEnt K w kvs es):GEnt K w ((k,d)::kvs) (e::es)
inductive GDic (K:PySem.W.Frag) (w:World) (mg:Str->Option Value) (x:Str) (kvs:List (List Nat×D)):Prop where
 | mk (a:Addr) (o:Obj) (es:Array DictEntry) (ep:Nat) (h1:mg x=some (.ref a)) (h2:K.lookup a=some o) (h4:o.ExactDict) (h5:o.data=.dict es ep) (h6:GEnt K w kvs es.toList) (h7:(kvs.map (·.1)).Nodup)
section
variable {K:PySem.W.Frag} {w:World} {prog:Program}
theorem GEnt.keys:∀ {kvs:List (List Nat×D)} {es:List DictEntry},GEnt K w kvs es->∀ e∈es,∃ k,(strKind prog w).is k e.key=true/\e.hash=(strKind prog w).hash k
 | _,_,.nil,e,h=>nomatch h
 | _,_,.cons (k:=k) (e:=e0) h1 h2 h3 h4 r,e,h=>by
  rcases List.mem_cons.mp h with rfl | h
  ·exact ⟨zac k,by rw [h2];exact strKind_is ..,h1⟩
  ·exact GEnt.keys r e h
theorem GEnt.pairs:∀ {kvs:List (List Nat×D)} {es:List DictEntry},GEnt K w kvs es->∃ vs:List (Str×Value),Pairs (strKind prog w) es vs/\vs.map (·.1)=kvs.map (λp=>zac p.1)/\∀ (k:List Nat) (d:D),kvs.lookup k=some d->∃ (i:Nat) (u:Value) (v:V),vs[i]?=some (zac k,u)/\RelV v u/\∀ A H,RepD K A H d v
 | _,_,.nil=>⟨[],.nil,rfl,λk d e=>by simp at e⟩
 | _,_,.cons (k:=k) (d:=d) (e:=e0) (v:=v) (kvs:=kvs) h1 h2 h3 h4 r=>by
  obtain ⟨vs,g1,g2,g3⟩:=GEnt.pairs r
  refine ⟨(zac k,e0.val)::vs,.cons (by rw [h2];exact strKind_is ..) rfl g1,by rw [List.map_cons,List.map_cons,g2],λk' d' e=>?_⟩
  rw [List.lookup_cons] at e
  split at e
  ·rename_i hk
   have hk:=eq_of_beq hk
   cases e
   subst hk
   exact ⟨0,_,v,rfl,h3,h4⟩
  ·obtain ⟨i,u,v',e1,e2⟩:=g3 k' d' e
   exact ⟨i+1,u,v',by simpa using e1,e2⟩
end
section
variable {X:Cx}
end
section
variable {X:Cx} {pos:Pos}
end
end IT
set_option linter.all false
set_option maxRecDepth 100000
set_option maxHeartbeats 4000000
open PySem.AutoSeq1 (wpAny_loadPart')
namespace PySem
structure EnAt (h0 h:Heap) (e it l:Addr) (i:Nat) (vs:Array Value) (n:Nat):Prop where
 own:h.get? e=some { cls:=.type "enumerate",dict:=none,data:=.fields vs,slots:=#[] }
 at':h.IsListIter it l i
 size:h.objs.size=n
 rest:∀ b o,b≠e->b≠it->h0.get? b=some o->h.get? b=some o
section
variable {prog:Program} {w:World} {A:Around} {E:Value->Shared->Prop} {s:Shared} {h0:Heap} {e it l:Addr} {i n k:Nat} {vs items:Array Value} {x:Value}
theorem EnAt.get {Q:Value->Shared->Prop} (a:EnAt h0 s.heap e it l i vs n) (hx:vs[k]?=some x) (q:Q x s):wpAny (model prog w) A (field (.ref e) k) Q E s:=wpAny_field a.own rfl hx q
theorem EnAt.put {Q:Unit->Shared->Prop} (a:EnAt h0 s.heap e it l i vs n) (ne:e≠it) (hk:k<vs.size) (q:∀ h',EnAt h0 h' e it l i (vs.setIfInBounds k x) n->Q () { s with heap:=h' }):wpAny (model prog w) A (setField (.ref e) k x) Q E s:=
 wpAny_setField_rec a.own hk λh' o sb=>q h' ⟨o,a.at'.extBut sb.extBut ne.symm,sb.1.trans a.size,λb u be bi g=>sb.extBut b u be (a.rest b u be bi g)⟩
theorem EnAt.step {Q:Value->Shared->Prop} (a:EnAt h0 s.heap e it l i vs n) (ne:e≠it) (hl:s.heap.IsList l items) (hx:items[i]?=some x) (q:∀ h',EnAt h0 h' e it l (i+1) vs n->Q x { s with heap:=h' }):wpAny (model prog w) A (Builtin.SmallTypes.nextOf (.ref it)) Q E s:=
 wpAny_nextOf_list_item a.at' hl hx λh' j sb=>q h' ⟨(sb.2 e ne).trans a.own,j,sb.1.trans a.size,λb u be bi g=>sb.extBut b u bi (a.rest b u be bi g)⟩
theorem EnAt.lay {Q:Value->Shared->Prop} {ys:List Value} (a:EnAt h0 s.heap e it l i vs n) (hz:ys.length<=sizeLine)
  (q:∀ h',EnAt h' h' e it l i vs (n+1)->(∀ b o,b≠e->b≠it->h0.get? b=some o->h'.get? b=some o)->h'.get? n=some { cls:=.type "tuple",data:=.seq ys.toArray }->Q (.ref n) { s with heap:=h' }):wpAny (model prog w) A (newTuple ys) Q E s:=by
 obtain ⟨o,u,v,r⟩:=a.at'
 refine wpAny_newTuple (a.size▸q _ ⟨Heap.get?_push_of_some _ a.own,⟨o,Heap.get?_push_of_some _ u,v,r⟩,by rw [Heap.size_push,a.size],λ_ _ _ _ g=>g⟩ (λb o be bi g=>Heap.get?_push_of_some _ (a.rest b o be bi g)) ?_) hz
 rw [<-a.size]
 exact Heap.get?_push_size _ rfl
theorem zm5 {c:Int} {old:Value} {Q:Value->Shared->Prop} (a:EnAt s.heap s.heap e it l i #[.none,.bool false,.ref it,rawInt c,.none,old] n) (ne:e≠it) (hl:s.heap.IsList l items) (hx:items[i]?=some x)
  (q:∀ h',EnAt s.heap h' e it l (i+1) #[rawInt n,.bool false,.ref it,rawInt (c+1),.none,x] (n+1)->h'.get? n=some { cls:=.type "tuple",data:=.seq #[.int c s.toks,x] }->Q (.ref n) { s with heap:=h',toks:=s.toks+1 }) :
  wpAny (model prog w) A (Builtin.«enumerate.__next__» ⟨[.ref e],[]⟩) (λf t=>∃ v,f=.done (.ret v)/\Q v t) E s:=by
 unfold Builtin.«enumerate.__next__»
 refine wpAny_bind (wpAny_pure (wpAny_bind (a.get (k:=2) rfl (wpAny_bind (a.step ne hl hx λh1 a1=>?_)))))
 refine wpAny_bind (a1.get (s:={ s with heap:=h1 }) (k:=3) rfl (wpAny_bind (a1.get (s:={ s with heap:=h1 }) (k:=4) rfl ?_)))
 refine wpAny_bind (wpAny_mkInt (wpAny_bind (a1.put (s:={ s with heap:=h1,toks:=s.toks+1 }) ne (by simp) λh2 a2=>?_)))
 refine wpAny_bind (a2.put (s:={ s with heap:=h2,toks:=s.toks+1 }) ne (by simp) λh3 a3=>?_)
 refine wpAny_bind (a3.lay (s:={ s with heap:=h3,toks:=s.toks+1 }) (by show 2<=sizeLine;rw [sizeLine_eq];decide) λh4 a4 k4 t4=>?_)
 have two:∀ h',EnAt h4 h' e it l (i+1) #[rawInt n,.bool false,.ref it,rawInt (c+1),.none,x] (n+1)->Q (.ref n) { s with heap:=h',toks:=s.toks+1 }:=λh' z=>by
  have ln:n≠e/\n≠it:=by
   obtain ⟨o,g,_⟩:=a.at'
   exact ⟨Nat.ne_of_gt (a.size▸Heap.lt_size a.own),Nat.ne_of_gt (a.size▸Heap.lt_size g)⟩
  exact q h' ⟨z.own,z.at',z.size,λb o be bi g=>z.rest b o be bi (k4 b o be bi g)⟩ (z.rest _ _ ln.1 ln.2 t4)
 refine wpAny_bind ?_
 refine wpAny_bind (a4.get (s:={ s with heap:=h4,toks:=s.toks+1 }) (k:=0) (x:=.none) (by simp) (wpAny_pure ?_))
 refine wpAny_bind (wpAny_rule (wpAny_bind (a4.get (s:={ s with heap:=h4,toks:=s.toks+1 }) (k:=5) (x:=old) (by simp) ?_)))
 refine wpAny_bind (a4.put (s:={ s with heap:=h4,toks:=s.toks+1 }) ne (by simp) λh5 a5=>wpAny_bind ?_)
 refine wpAny_bind (a5.put (s:={ s with heap:=h5,toks:=s.toks+1 }) ne (by simp) λh6 a6=>?_)
 refine a6.put (s:={ s with heap:=h6,toks:=s.toks+1 }) ne (by simp) λh7 a7=>?_
 refine wpAny_bind (wpAny_letGo (wpAny_pure ⟨_,rfl,two h7 ?_⟩))
 simpa using a7
theorem zjW {c:Int} {old:Value} {Q:Option Value->Shared->Prop} (a:EnAt s.heap s.heap e it l i #[.none,.bool false,.ref it,rawInt c,.none,old] n) (ne:e≠it) (hl:s.heap.IsList l items) (hx:items[i]?=some x)
  (q:∀ h',EnAt s.heap h' e it l (i+1) #[rawInt n,.bool false,.ref it,rawInt (c+1),.none,x] (n+1)->h'.get? n=some { cls:=.type "tuple",data:=.seq #[.int c s.toks,x] }->Q (some (.ref n)) { s with heap:=h',toks:=s.toks+1 }) :
  wpAny (model prog w) A (pyNext (.ref e)) Q E s:=by
 have T:s.TypeIs (.ref e) "enumerate":=⟨_,a.own,rfl⟩
 refine wpAny_bind (wpAny_attempt (wpAny_callSpecial?_slot T F.slot_enumerate_next (wpAny_call_entry F.slot_enumerate_next T F.entry_enumerate_next ?_ (F.args_enumerate_next_1 _))))
 exact zm5 a ne hl hx λh' z t=>wpAny_pure (q h' z t)
theorem zkZ {c:Int} {old:Value} {Q:Option Value->Shared->Prop} (hh:A.handled=none) (a:EnAt s.heap s.heap e it l i #[.none,.bool false,.ref it,rawInt c,.none,old] n) (hl:s.heap.IsList l items) (hx:items[i]?=none)
  (q:∀ h',Heap.ExtBut it s.heap h'->Q none { s with heap:=h' }):wpAny (model prog w) A (pyNext (.ref e)) Q E s:=by
 have T:s.TypeIs (.ref e) "enumerate":=⟨_,a.own,rfl⟩
 refine wpAny_bind (wpAny_attempt (wpAny_callSpecial?_slot T F.slot_enumerate_next (wpAny_call_entry F.slot_enumerate_next T F.entry_enumerate_next ?_ (F.args_enumerate_next_1 _))))
 unfold Builtin.«enumerate.__next__»
 refine wpAny_bind (wpAny_pure (wpAny_bind (a.get (k:=2) rfl (wpAny_bind (wpAny_nextOf_list_end hh a.at' hl hx λh' y eb ⟨o,g,k⟩=>?_)))))
 exact wpAny_bind (wpAny_isInstance (b:=true) ⟨o,g,k⟩ isSubtype_stop (wpAny_pure (q _ eb)))
end
noncomputable abbrev enC (it:Addr) (c:Int) (old:Value):Array Value:=#[.none,.bool false,.ref it,rawInt c,.none,old]
theorem zlx (a v:Value):checkBuiltinCall "enumerate.__new__" ⟨[.type "enumerate",a],[("start",v)]⟩=pure ():=by kernel_rfl
theorem zod (o a v:Value):argsOk "object.__init__" ⟨[o,a],[("start",v)]⟩:=by unfold argsOk;kernel_rfl
theorem zpv (l:Addr) (items:Array Value) (k:Nat) (t:Tok) (hk:k<1000):Meets (Builtin.«enumerate.__new__» ⟨[.type "enumerate",.ref l],[("start",.int k t)]⟩)
  (λ_ R s=>s.heap.IsList l items/\∀ h',EnAt s.heap h' (s.heap.objs.size+1) s.heap.objs.size l 0 (enC s.heap.objs.size k .none) (s.heap.objs.size+2)->R (.ok (.ret (.ref (s.heap.objs.size+1)))) { s with heap:=h' }):=by
 refine .of_wp λprog w A R s h=>?_
 obtain ⟨hp,g,d,tk,os⟩:=s
 obtain ⟨hL,h⟩:=h
 obtain ⟨o,hl,hc,n,hd⟩:=id hL
 have sub:=sub_enumerate
 have small:Builtin.SmallTypes.fitsIndex (k:Int)=true:=by unfold Builtin.SmallTypes.fitsIndex;simp;omega
 have made:EnAt hp ((hp.push { cls:=.type "list_iterator",data:=.fields #[.ref l,.int 0 0] }).push { cls:=.type "enumerate",data:=.fields (enC hp.objs.size k .none) }) (hp.objs.size+1) hp.objs.size l 0 (enC hp.objs.size k .none) (hp.objs.size+2):=by
  have z:=Heap.size_push hp { cls:=.type "list_iterator",data:=.fields #[.ref l,.int 0 0] }
  refine ⟨z▸Heap.get?_push_size _ rfl,⟨_,Heap.get?_push_of_some _ (Heap.get?_push_size _ rfl),rfl,rfl⟩,by rw [Heap.size_push,z],λb u _ _ q=>Heap.get?_push_of_some _ (Heap.get?_push_of_some _ q)⟩
 have last:wpAny (model prog w) A.in1 (do ret (<-Builtin.SmallTypes.newRecord (Value.type "enumerate") (Builtin.SmallTypes.ownedTupleFields++[<-pyIter (.ref l),rawInt k,.none,.none])))
   (λf t=>∃ v,f=Fin.done (Flow.ret v)/\R (Except.ok (Flow.ret v)) t) (λe t=>R (Except.error e) t) ⟨hp,g,d,tk,os⟩:=by
  wp_walk using wpAny_pyIter_list hL
  exact ⟨_,rfl,Heap.size_push hp _▸h _ made⟩
 have whole:asInt? (.int k t)=pure (some (k:Int)):=rfl
 have index:Builtin.SmallTypes.indexObject "enumerate.__new__" (.int k t)=pure (.int k t):=by kernel_rfl
 wp_walk using wpAny_loadPart' hl
 refine wpAny_stack_any λst=>wpAny_pure ?_
 split
 ·rename_i c _ _ _ _ _
  cases (c==Value.type "enumerate")
  all_goals
   simp only [Bool.false_eq_true,if_false,if_true]
   refine wpAny_bind ?_;refine wpAny_of_eq (a:=(.ref l,some (.int k t))) ?_ ?_
   ·kernel_rfl
   dsimp only
   rw [index]
   refine wpAny_bind ?_;refine wpAny_pure ?_;rw [whole];refine wpAny_bind ?_;refine wpAny_pure ?_
   dsimp only
   rw [small]
   exact last
 ·simp only [Bool.false_eq_true,if_false]
  refine wpAny_bind ?_;refine wpAny_of_eq (a:=(.ref l,some (.int k t))) ?_ ?_
  ·kernel_rfl
  dsimp only
  rw [index]
  refine wpAny_bind ?_;refine wpAny_pure ?_;rw [whole];refine wpAny_bind ?_;refine wpAny_pure ?_
  dsimp only
  rw [small]
  exact last
section
variable {prog:Program} {w:World} {A:Around} {E:Value->Shared->Prop} {s:Shared}
theorem zo7 {M:Model} {c:Code} {P:Value->Shared->Prop} {R:Result->Shared->Prop} (h:codeAny M A c (wants P E) s) (k:∀ v t,P v t->R (.ok (.ret v)) t) (ke:∀ e t,E e t->R (.error e) t):codeAny M A c R s:=
 codeAny_mono h λr t z=>match r,z with
  | .ok (.ret v),z=>k v t z
  | .error e,z=>ke e t z
theorem zoc {o a:Value} {kw:List (Str×Value)} (hs:s.TypeIs o "enumerate") {R:Result->Shared->Prop} (r:R (.ok (.ret .none)) s) :
  wpAny (model prog w) A.in1 (Builtin.«object.__init__» ⟨[o,a],kw⟩) (λf t=>match f with | .done f=>R (.ok f) t | .again c=>c.quiet=true/\codeAny (model prog w) A c R t) (λe t=>R (.error e) t) s:=by
 have hl:=F.called_enumerate.init.lookup
 have hm:=F.called_enumerate.made
 repeat (any_goals (first | assumption | wp_step))
theorem zn9 {l:Addr} {items:Array Value} {k:Nat} {t:Tok} {Q:Value->Shared->Prop} (hk:k<1000) (hL:s.heap.IsList l items)
  (h:∀ h',EnAt s.heap h' (s.heap.objs.size+1) s.heap.objs.size l 0 (enC s.heap.objs.size k .none) (s.heap.objs.size+2)->Q (.ref (s.heap.objs.size+1)) { s with heap:=h' }) :
  wpAny (model prog w) A (call (.type "enumerate") [.ref l] [("start",.int k t)]) Q E s:=by
 have ft:=F.called_enumerate
 obtain ⟨c,tl,mro⟩:=ft.mro
 have made:=ft.made
 have sub:=ft.sub
 have no:=ft.notType
 have can:=ft.canCreate
 refine wpAny_call (codeAny_of_tree ?_)
 show wpAny _ _ (callAny (.type "enumerate") _) _ _ _
 refine wpAny_pure ⟨Code.quiet_builtin _ (by decide +kernel),codeAny_builtin F.entry_type_call ?_⟩
 rw [Around.under_plain (weight_type_call_type ..) (units_type_call_type ..)]
 repeat (any_goals (first | assumption | wp_step))
 refine zo7 (P:=λv u=>u.TypeIs v "enumerate"/\Q v u) (E:=E) (codeAny_call_builtin ft.plain F.entry_enumerate_new (wpAny_of_eq (zlx ..) (zpv l items k t hk prog w A.in1 _ s ⟨hL,λh' a=>⟨⟨_,a.own,rfl⟩,h h' a⟩⟩))) (λv u ⟨T,q⟩=>?_) λ_ _ z=>z
 have look:=ft.init.lookup
 have bind:=ft.init.bind v
 repeat (any_goals (first | assumption | wp_step))
 refine zo7 (P:=λr u=>r=.none/\Q v u) (E:=E) (codeAny_call_builtin ft.init.plain F.entry_object_init (ft.init.check _ _ _ _ _ _ _ _ T (zod ..) (zoc T ⟨rfl,q⟩))) (λr u ⟨e,q⟩=>?_) λ_ _ z=>z
 subst e
 repeat (any_goals (first | assumption | wp_step))
end
end PySem
set_option linter.all false
set_option maxHeartbeats 4000000
set_option maxRecDepth 100000
namespace IT
open PySem PySem.Spec L2
section
variable {X:Cx}
noncomputable def Iek (K:PySem.W.Frag) (k0:Nat) (a:Addr):L2.It:=⟨(Itl K a).go,λi H v H'=>∃ p x,v=.ref p/\H p=none/\H'=upd H p (.tup [.int (k0+i),x])/\∀ xs,SqL K H a xs->xs[i]?=some x,(Itl K a).stop⟩
theorem zlw (k0:Nat) {P:Program} {w:World} {K:PySem.W.Frag} {elts:List Expr} {x1:_} {tpos:Pos} (a e it:Addr) (hne:e≠it):Turn P w K (.Tuple elts x1 tpos) (Iek K k0 a) [e,it] e (λi h=>∃ old,IsEnum h e it (k0+i) old/\h.IsListIter it a i) where
 mem:=by simp
 obj:=λi h st b hb=>by
  obtain ⟨old,he,hit⟩:=st
  rcases List.mem_cons.mp hb with z | z
  ·subst z;exact ⟨_,he,λv z=>by cases z⟩
  ·have z:b=it:=by simpa using z
   subst z
   obtain ⟨o,ho,c,d⟩:=hit
   exact ⟨o,ho,λv z=>by rw [d] at z;cases z⟩
 keep:=λi h h' st k=>by
  obtain ⟨old,he,hit⟩:=st
  exact ⟨old,k e (by simp) _ he,hit.at λo q=>k it (by simp) o q⟩
 item:=by
  intro X hP hw hK hc i pins s σ H E I hf st hg
  subst hP hw hK
  obtain ⟨old,he,hit⟩:=st
  obtain ⟨xs,x,hq,hx⟩:=hg
  obtain ⟨its,rv,p,hz⟩:=I.list hq
  obtain ⟨u,hu,ru⟩:=rv.get hx
  have fe:=hf e (by simp)
  have fi:=hf it (by simp)
  have fT:FpOk X pins H s.heap.objs.size:=I.fpOk (Nat.le_refl _) (I.hok.fresh (Nat.le_refl _))
  have lte:e<s.heap.objs.size:=Heap.lt_size he
  have lti:it<s.heap.objs.size:=by obtain ⟨o,ho,_⟩:=id hit;exact Heap.lt_size ho
  refine zjW ⟨he,hit,rfl,λ_ _ _ _ g=>g⟩ hne p.isList (x:=u) (by simpa using hu) λh1 z hT=>?_
  obtain ⟨ho1,hit1,_,hk⟩:=z
  refine ⟨.ref s.heap.objs.size,rfl,wpAny_letOwnedTupleGo_enum (s:={ s with heap:=h1,toks:=s.toks+1 }) ho1 λh2 he2 hs2=>?_⟩
  have hk2:∀ b o,b≠e->b≠it->s.heap.get? b=some o->h2.get? b=some o:=λb o hb1 hb2 q=>(hs2.2 b hb1).trans (hk b o hb1 hb2 q)
  have I1:Inv X pins σ H { s with heap:=h2,toks:=s.toks+1 }:=zny I hk2 fe fi
  have hT2:h2.get? s.heap.objs.size=some { cls:=.type "tuple",data:=.seq #[.int (k0+i) s.toks,u] }:=(hs2.2 _ (Nat.ne_of_gt lte)).trans hT
  have I2:Inv X pins σ (upd H s.heap.objs.size (.tup [.int (k0+i),x])) { s with heap:=h2,toks:=s.toks+1 }:=zrx I1 fT ⟨show 2<=sizeLine by decide,[.int (k0+i) s.toks,u],.cons ⟨_,rfl⟩ (.cons ru .nil),⟨_,hT2,rfl,_,rfl⟩,λo q=>by
   have q:h2.get? s.heap.objs.size=some o:=q
   rw [hT2] at q;cases q;rfl⟩
  refine ⟨.ref s.heap.objs.size,_,I2,rfl,⟨s.heap.objs.size,x,rfl,fT.1,rfl,λys hy=>by rw [I.list_inj hy hq];exact hx⟩,⟨u,by simpa [Int.add_assoc] using he2,hit1.at λo q=>(hs2.2 it (Ne.symm hne)).trans q⟩,λb hb=>?_⟩
  have hb':b≠s.heap.objs.size:=by
   rcases List.mem_cons.mp hb with z | z
   ·rw [z];exact Nat.ne_of_lt lte
   ·have z:b=it:=by simpa using z
    rw [z];exact Nat.ne_of_lt lti
  rw [zaF hb']
  exact (hf b hb).1
 done:=by
  intro X hP hw hK hc i pins s σ H E I hf st hg
  subst hP hw hK
  obtain ⟨old,he,hit⟩:=st
  obtain ⟨xs,hq,hx⟩:=hg
  obtain ⟨its,rv,p,hz⟩:=I.list hq
  obtain ⟨f0,f1,f2,f3,f4,f5⟩:=hf it (by simp)
  have hl:=rv.length
  exact zkZ (I.ok.hd hc) ⟨he,hit,rfl,λ_ _ _ _ g=>g⟩ p.isList (by simp;omega) λh' eb=>⟨rfl,I.turned (t':=s.toks) (λb o hb q=>eb b o hb q) f0 f1 f3 f4 f5⟩
 self:=λ_ _ _ _ _ st h=>by
  obtain ⟨old,he,_⟩:=st
  exact wpAny_pyIter_enum he h
theorem zn4 {K:PySem.W.Frag} {k0:Nat} {a:Addr} {w:Wk} {ys:List Ite} {μ:List Addr} {h:Sto} {H:Hp} (W:Wlk K (Itl K a) w μ h H) (e:za6 k0 w.xs=some ys):Wlk K (Iek K k0 a) ⟨ys,w.l⟩ μ h H:=by
 refine ⟨λμ1 h1 H1 i x st R1 sy q=>?_,λμ1 h1 H1 st R1 sy=>?_⟩
 ·obtain ⟨r,e1,rfl⟩:=zi7 _ _ _ _ _ e q
  obtain ⟨go,yld⟩:=W.go μ1 h1 H1 i _ st R1 sy e1
  refine ⟨go,λv H' ⟨p,x,hv,hp,hH,hx⟩=>?_⟩
  subst hv hH
  obtain ⟨_,_,zr⟩:=yld x H1 ⟨rfl,hx⟩
  exact ⟨Stp.fresh hp,R1.fresh hp,p,x,rfl,by rw [zaD],RepR.stp (Stp.fresh hp) R1 zr⟩
 ·show (Itl K a).stop ys.length H1
  rw [zhe _ _ _ e]
  exact W.stop μ1 h1 H1 st R1 sy
end
end IT
set_option linter.all false
set_option maxHeartbeats 4000000
set_option maxRecDepth 100000
namespace PySem
section
variable {M:Model} {A:Around} {E:Value->Shared->Prop} {s:Shared} {env:Env}
theorem zpD {func e v:Expr} {n:Str} {kp pos:Pos} {Q:Value->Shared->Prop} (hs:starEach [e] env=[(false,eval e env)])
  (he:eval (.Call func [e] [⟨some n,v,kp⟩] pos) env=(do callWith pos (<-eval func env) [] (backTo pos (starEach [e] env)) (backToKw pos (keywordEach [⟨some n,v,kp⟩] env))):=by rfl)
  (h:wpAny M A (eval func env) (λf s1=>∃ T,f=.type T/\wpAny M A (spliced (backTo pos (starEach [e] env))) (λvs s2=>wpAny M A (eval v env) (λk s3=>wpAny M A (call (.type T) vs [(n,k)]) Q E s3) E s2) E s1) E s) :
  wpAny M A (eval (.Call func [e] [⟨some n,v,kp⟩] pos) env) Q E s:=by
 rw [he]
 refine wpAny_bind (wpAny_mono h (λf s1 q=>?_) λ_ _ z=>z)
 obtain ⟨T,rfl,q⟩:=q
 rw [hs] at q ⊢
 unfold callWith
 refine wpAny_bind (wpAny_holding (PyProof.Rows.evalArgs_kwB rfl (wpAny_mono q (λvs s2 q2=>PyProof.Rows.kws_cons (wpAny_mono q2 (λk s3 q3=>PyProof.Rows.kws_nil ?_) λ_ _ z=>z)) λ_ _ z=>z)))
 refine wpAny_bind (wpAny_standAt (wpAny_bind (wpAny_pure ?_)))
 exact wpAny_bind (wpAny_mono q3 (λr s4 q4=>wpAny_bind (wpAny_holding (wpAny_point (wpAny_pure q4)))) λ_ _ z=>z)
end
end PySem
namespace IT
open PySem PySem.Spec L2
section
variable {X:Cx}
theorem zpP {k:Nat} {l:Expr} {ta:TA} {elts:List Expr} {x1:_} {tpos p pos kp cp:Pos} {ck:_} (hk:k<1000) (hg:Gl X "enumerate") (hm:X.mg "enumerate"=none) (ha:PA X [l] ta) (hs:starEach [l] X.env=[(false,eval l X.env)]) :
  PI X (.Tuple elts x1 tpos) (.Call (.Name "enumerate" p) [l] [⟨some "start",.Constant (.int k) ck cp,kp⟩] pos) (λσ H R=>ta σ H λvs H1=>∃ a xs,vs=[.ref a]/\SqL X.K H1 a xs/\(xs.length<=sizeLine->R (Iek X.K k a) H1)):=by
 intro pins s σ H R I h
 refine zpD hs rfl (zfQ I hg hm PyProof.Rows.boot_enumerate ⟨_,rfl,thn (ha pos pins s σ H _ I h) λus s1 ⟨vs,H1,I1,r1,q1⟩=>?_⟩)
 obtain ⟨a,xs,rfl,hq,q⟩:=q1
 obtain ⟨u,rfl,rx⟩:=zkQ r1
 cases rx
 refine wpAny_Constant_int ?_
 have I1:=I1.tok (s1.toks+1)
 obtain ⟨its,rv,pl,hz⟩:=I1.list hq
 refine zn9 hk pl.isList λh' z=>?_
 obtain ⟨he,hit,_,hk'⟩:=z
 have hk':∀ b o,s1.heap.get? b=some o->h'.get? b=some o:=λb o q=>hk' b o (Nat.ne_of_lt (Nat.lt_succ_of_lt (Heap.lt_size q))) (Nat.ne_of_lt (Heap.lt_size q)) q
 refine wpAny_pyIter_enum (s:={ s1 with heap:=h',toks:=s1.toks+1 }) he ?_
 have I2:Inv X pins σ H1 { s1 with heap:=h',toks:=s1.toks+1 }:=I1.kept (t':=s1.toks+1) hk'
 refine ⟨s1.heap.objs.size+1,[s1.heap.objs.size+1,s1.heap.objs.size],_,_,H1,rfl,I2,zlw k a _ _ (Nat.ne_of_gt (Nat.lt_succ_self _)),⟨.none,by simpa using he,hit⟩,λb hb=>?_,q hz⟩
 rcases List.mem_cons.mp hb with z | z
 ·subst z;exact I1.fpOk (Nat.le_succ _) (I1.hok.fresh (Nat.le_succ _))
 ·have z:b=s1.heap.objs.size:=by simpa using z
  subst z;exact I1.fpOk (Nat.le_refl _) (I1.hok.fresh (Nat.le_refl _))
theorem zoG {k0:Nat} {l:Expr} {elts:List Expr} {x1:_} {tpos p pos kp cp:Pos} {ck:_} {f:IT.Env->M R} (hk:k0<1000) (hg:Gl X "enumerate") (hm:X.mg "enumerate"=none) (hl:IE X l f) (hs:starEach [l] X.env=[(false,eval l X.env)]) :
  PI X (.Tuple elts x1 tpos) (.Call (.Name "enumerate" p) [l] [⟨some "start",.Constant (.int k0) ck cp,kp⟩] pos) (tI X.K λσ=>bnd (f σ) λr=>zft k0 r):=by
 refine PI.imp (zpP hk hg hm (zby hl zc9 hs) hs) λσ H R q0=>?_
 obtain ⟨μ,h,env,R0,re,w,h',e,k⟩:=q0
 simp only [zae] at e
 obtain ⟨r,h1,e1,e2⟩:=e
 refine ⟨μ,h,env,R0,re,r,h1,e1,λμ1 H1 v s1 R1 q1=>?_⟩
 unfold zft at e2
 split at e2
 ·rename_i il
  rw [Bool.and_eq_true] at il
  simp only [zae] at e2
  obtain ⟨w0,h2,e3,e4⟩:=e2
  obtain ⟨rfl,a,vs,rfl,q2,hl2,W⟩:=zpl il.1 R1 q1 e3
  cases en:za6 k0 w0.xs with
  | none=>rw [en] at e4;cases e4
  | some ys=>
   rw [en] at e4
   simp only [zaf] at e4
   obtain ⟨rfl,rfl⟩:=e4
   exact ⟨a,vs,rfl,q2,λhz=>k μ1 H1 _ s1 R1 (zn4 W en) (by show ys.length<=sizeLine;rw [zhe _ _ _ en,<-hl2];exact hz)⟩
 ·cases e2
end
end IT
set_option linter.all false
set_option maxHeartbeats 4000000
set_option maxRecDepth 100000
namespace IT
open PySem PyProof.Rows
theorem zlv (l:List (List Nat)) (x:List Nat):ded (l++[x])=if (ded l).contains x then ded l else ded l++[x]:=by
 unfold ded;rw [List.foldl_append];rfl
theorem zhM (y:List Nat):∀ (l acc:List (List Nat)),y∈l.foldl (λacc x=>if acc.contains x then acc else acc++[x]) acc↔y∈acc\/y∈l
 | [],acc=>by simp
 | x :: l,acc=>by
  rw [List.foldl_cons,zhM y l]
  split
  ·rename_i h
   rw [List.contains_iff_mem] at h
   constructor
   ·rintro (a | a)
    ·exact .inl a
    ·exact .inr (List.mem_cons_of_mem _ a)
   ·rintro (a | a)
    ·exact .inl a
    ·rcases List.mem_cons.mp a with rfl | a
     ·exact .inl h
     ·exact .inr a
  ·simp only [List.mem_append,List.mem_cons,List.not_mem_nil,or_false,or_assoc]
theorem znA (y:List Nat) (l:List (List Nat)):y∈ded l↔y∈l:=by
 unfold ded;rw [zhM];simp
theorem zjX:∀ (l acc:List (List Nat)),(l.foldl (λacc x=>if acc.contains x then acc else acc++[x]) acc).length<=acc.length+l.length
 | [],acc=>Nat.le_refl _
 | x::l,acc=>by
  rw [List.foldl_cons]
  refine Nat.le_trans (zjX l _) ?_
  split<;>simp<;>omega
theorem zmo (l:List (List Nat)):(ded l).length<=l.length:=by
 have:=zjX l []
 simpa [ded] using this
section
variable {prog:Program} {w:World} {A:Around} {E:Value->Shared->Prop} {R:Result->Shared->Prop} {I l S:Addr} {items:Array Value} {ts:List (List Nat)}
noncomputable def zh3 (prog:Program) (w:World) (h:Heap) (S:Addr) (ts:List (List Nat)):Prop:=h.SetOf (strKind prog w) S (λk=>(ts.map zac).contains k) (ded ts).length
theorem znf (hA:A.in1.handled=none) (hlI:l≠I) (hSI:S≠I) (hSl:S≠l) (hn:ts.length=items.size) (hv:∀ (i:Nat) (x:List Nat),ts[i]?=some x->∃ t,items[i]?=some (Value.str (zac x) t)) (hb:items.size+1<scanBound) :
  ∀ (k i:Nat) (s:Shared),items.size-i=k->i<=items.size->s.heap.IsTupleIter I l i->s.heap.IsTuple l items->zh3 prog w s.heap S (ts.take i) →
  (∀ h' tk,zh3 prog w h' S ts->(∀ b o,b≠S->b≠I->s.heap.get? b=some o->h'.get? b=some o)->R (.ok (.ret .none)) { s with heap:=h',toks:=tk }) →
  codeAny (model prog w) A (.builtin "set.update.loop" ⟨[.ref S,.ref I],[]⟩) R s:=by
 have W:=Walks.tuple (prog:=prog) (w:=w) (A:=A.in1) hA I l hlI items
 intro k
 induction k with
 | zero=>
  intro i s hk hi hit hl hS hR
  have hin:i=items.size:=by omega
  subst hin
  refine codeAny_builtin F.entry_set_update_loop ?_
  rw [Around.under_plainId F.plain_set_update_loop _];show wpAny _ A.in1 (pyNext (.ref I) >>= _) _ _ s
  refine wpAny_bind (W.done s _ _ ⟨hit,hl⟩ λh' tk hk'=>?_)
  have kb:∀ b o,b≠I->s.heap.get? b=some o->h'.get? b=some o:=λb o hb e=>hk' b o (by simpa using hb) e
  refine wpAny_pure (hR h' tk ?_ λb o _ hb e=>kb b o hb e)
  rw [List.take_of_length_le (by omega)] at hS
  obtain ⟨o,es,ep,t,ho,rest⟩:=hS
  exact ⟨o,es,ep,t,kb S o hSI ho,rest⟩
 | succ k ih=>
  intro i s hk hi hit hl hS hR
  have hlt:i<items.size:=by omega
  refine codeAny_builtin F.entry_set_update_loop ?_
  rw [Around.under_plainId F.plain_set_update_loop _];show wpAny _ A.in1 (pyNext (.ref I) >>= _) _ _ s
  refine wpAny_bind (W.item i s _ _ hlt ⟨hit,hl⟩ λv h' tk hP hst' hk'=>?_)
  have kb:∀ b o,b≠I->s.heap.get? b=some o->h'.get? b=some o:=λb o hb e=>hk' b o (by simpa using hb) e
  have hx:ts[i]?=some (ts[i]'(by omega)):=List.getElem?_eq_getElem _
  generalize ts[i]'(by omega)=x at hx
  obtain ⟨t,ht⟩:=hv i x hx
  have ev:v=.str (zac x) t:=by
   have hP:items[i]?=some v:=hP
   rw [hP] at ht
   exact Option.some.inj ht
  subst ev
  have hS':zh3 prog w h' S (ts.take i):=by
   obtain ⟨o,es,ep,t,ho,rest⟩:=hS
   exact ⟨o,es,ep,t,kb S o hSI ho,rest⟩
  show wpAny _ A.in1 (holding [Value.str (zac x) t] (setAdd S (.str (zac x) t)) >>= _) _ _ _
  refine wpAny_bind (wpAny_holding ?_)
  unfold setAdd
  refine wpAny_holding ?_
  refine wpAny_bind ((strKind prog w).pyHash (k:=zac x) (strKind_is _ _ _ _) ?_)
  have hroom:(ded (ts.take i)).length+1<scanBound:=by
   have h1:=zmo (ts.take i)
   have h2:(ts.take i).length<=i:=by rw [List.length_take];exact Nat.min_le_left _ _
   omega
  have et:ts.take (i+1)=ts.take i++[x]:=by rw [List.take_succ,hx];rfl
  refine wpAny_setAddHashed_of (knd:=strKind prog w) (s:={ s with heap:=h',toks:=tk+1 }) (strKind_is _ _ _ _) rfl hS' hroom λh2 hsb hS2=>?_
  have hc:((ts.take i).map zac).contains (zac x)=(ded (ts.take i)).contains x:=by
   rw [Bool.eq_iff_iff,List.contains_iff_mem,List.contains_iff_mem,znA,List.mem_map]
   exact ⟨λ⟨y,hy,e⟩=>zce e▸hy,λh=>⟨x,h,rfl⟩⟩
  have hSi:zh3 prog w h2 S (ts.take (i+1)):=by
   refine SetOf_congr hS2 (λk'=>?_) ?_
   ·rw [et,List.map_append]
    rw [Bool.eq_iff_iff]
    simp only [Bool.or_eq_true,List.contains_iff_mem,decide_eq_true_eq,List.mem_append,List.map_cons,List.map_nil,List.mem_singleton]
   ·rw [et,zlv,hc]
    split<;>simp
  refine wpAny_pure ⟨plainId_quiet F.plain_set_update_loop _,ih (i+1) _ (by omega) hlt ?_ ?_ hSi λh3 tk3 hS3 hk3=>?_⟩
  ·exact hst'.1.at λo e=>(hsb.2 I (Ne.symm hSI)).trans e
  ·exact hst'.2.at λo e=>(hsb.2 l (Ne.symm hSl)).trans e
  ·exact hR h3 tk3 hS3 λb o b1 b2 e=>hk3 b o b1 b2 ((hsb.2 b b1).trans (kb b o b2 e))
theorem zhh:isSubtype (.type "tuple") (.type "set")=pure false:=by rw [isSubtype_type];kernel_rfl
theorem zf2:isSubtype (.type "tuple") (.type "frozenset")=pure false:=by rw [isSubtype_type];kernel_rfl
variable {s:Shared}
theorem zgo {Q:Value->Shared->Prop} (hh:A.handled=none) (hl:s.heap.IsTuple l items) (hn:ts.length=items.size) (hv:∀ (i:Nat) (x:List Nat),ts[i]?=some x->∃ t,items[i]?=some (Value.str (zac x) t)) (hb:items.size+1<scanBound)
  (h:∀ h' tk,zh3 prog w h' s.heap.objs.size ts->(∀ b o,s.heap.get? b=some o->h'.get? b=some o)->Q (.ref s.heap.objs.size) { s with heap:=h',toks:=tk }) :
  wpAny (model prog w) A (call (.type "set") [.ref l]) Q E s:=by
 obtain ⟨c,tl,hmro⟩:=PySem.F.called_set.mro
 have hmade:=PySem.F.called_set.made
 have hsub:=PySem.F.called_set.sub
 refine wpAny_call (codeAny_of_tree ?_);show wpAny _ _ (callAny (.type "set") _) _ _ _
 refine wpAny_pure ⟨Code.quiet_builtin _ (by decide +kernel),codeAny_builtin PySem.F.entry_type_call ?_⟩;rw [Around.under_plain (weight_type_call_type "set" [.ref l] []) rfl]
 have h1:=PySem.F.called_set.notType
 have h2:=PySem.F.called_set.canCreate
 have hct:=PySem.F.typeCall_set_1 (.ref l)
 repeat (any_goals (first | assumption | wp_step))
 refine codeAny_mono (zkN (.ref l) (E:=E) (Q₁:=λobj s₁=>obj=.ref s.heap.objs.size/\s₁={ s with heap:=s.heap.push (set0 w) }) ⟨rfl,rfl⟩) λr s₁ hr=>?_
 cases r with
 | error e=>exact hr
 | ok fl=>
  cases fl with
  | ret obj=>
   obtain ⟨rfl,rfl⟩:=hr
   have hS:(s.heap.push (set0 w)).get? s.heap.objs.size=some (set0 w):=Heap.get?_push_size _ rfl
   have hT:Shared.TypeIs { s with heap:=s.heap.push (set0 w) } (.ref s.heap.objs.size) "set":=⟨_,hS,rfl⟩
   have hli:=PySem.F.called_set.init.lookup
   have hbi:=PySem.F.called_set.init.bind (.ref s.heap.objs.size)
   repeat (any_goals (first | assumption | wp_step))
   refine codeAny_mono (codeAny_call_builtin (R:=wants (λr s₂=>r=.none/\∃ h' tk,s₂={ s with heap:=h',toks:=tk }/\zh3 prog w h' s.heap.objs.size ts/\(∀ b o,s.heap.get? b=some o->h'.get? b=some o)) E)
    PySem.F.called_set.init.plain PySem.F.entry_set_init (check_set_init_1 hT ?_)) λr₂ s₂ hr₂=>?_
   ·obtain ⟨⟨ocls,odict,odata,oslots⟩,hol,hcl,nl,hdl⟩:=hl
    simp only at hcl hdl
    subst hcl;subst hdl
    have hol':(s.heap.push (set0 w)).get? l=some { cls:=.type "tuple",dict:=odict,data:=.seq items nl,slots:=oslots }:=Heap.get?_push_of_some _ hol
    have hsls:=zhh
    have hslf:=zf2
    have hne:(Value.type "tuple"==Value.type "dict")=false:=by decide
    have hl1:(s.heap.push (set0 w)).IsTuple l items:=⟨_,hol',rfl,nl,rfl⟩
    unfold Builtin.«set.__init__» noKeywords Builtin.Frozenset.updateFrom
    generalize hPI:pyIter=PI
    wp_walk
    subst hPI
    refine wpAny_pyIter_tuple hl1 ?_
    refine wpAny_bind (wpAny_runValue ?_)
    have hlS:l<s.heap.objs.size:=Heap.lt_size hol
    have sz1:(s.heap.push (set0 w)).objs.size=s.heap.objs.size+1:=Heap.size_push ..
    refine znf (ts:=ts) (items:=items) (l:=l) (by simp [hh]) ?_ ?_ (Nat.ne_of_gt hlS) hn hv hb items.size 0 _ (by omega) (Nat.zero_le _) ⟨_,Heap.get?_push_size _ rfl,rfl,rfl⟩ (hl1.at λo e=>Heap.get?_push_of_some _ e) ?_ ?_
    ·rw [sz1];exact Nat.ne_of_lt (Nat.lt_succ_of_lt hlS)
    ·rw [sz1];exact Nat.ne_of_lt (Nat.lt_succ_self _)
    ·exact SetOf_congr ((PyProof.Rows.setObjOf_fresh (knd:=strKind prog w) (!byTx w)).setOf (Heap.get?_push_of_some _ hS) (by unfold scanBound;omega)) (λ_=>rfl) rfl
    ·intro h' tk g1 g4
     refine wpAny_pure ?_
     show wpAny _ _ (ret Value.none) _ _ _
     refine wpAny_pure ⟨rfl,h',tk,rfl,g1,λb o e=>g4 b o (Nat.ne_of_lt (Heap.lt_size e)) ?_ (Heap.get?_push_of_some _ (Heap.get?_push_of_some _ e))⟩
     rw [sz1];exact Nat.ne_of_lt (Nat.lt_succ_of_lt (Heap.lt_size e))
   ·cases r₂ with
    | error e=>exact hr₂
    | ok fl₂=>
     cases fl₂ with
     | ret r=>
      obtain ⟨rfl,h',tk,rfl,g1,g4⟩:=hr₂
      repeat (any_goals (first | assumption | wp_step))
      exact h _ _ g1 g4
     | _=>exact hr₂.elim
  | _=>exact hr.elim
end
end IT
set_option linter.all false
set_option maxHeartbeats 4000000
set_option maxRecDepth 100000
namespace IT
open PySem PySem.Spec L2
noncomputable def lenO (v:Addr) (n:Nat):HO:=.ext λh=>∃ o es ep t,h.get? v=some o/\o.ExactSet/\o.data=.set es ep t/\SetTable.fits t es.size=true/\es.size=n
section
variable {X:Cx}
theorem zfH (hc:X.calm=true):zdH X (.type "set") (λus H Q=>∃ (l:Addr) (ts:List (List Nat)),us=[.ref l]/\SqT X.K H l (ts.map λx=>V.str (zac x))/\ts.length<4000/\∀ v,H v=none->Q (.ref v) (upd H v (lenO v (ded ts).length))):=by
 intro pins s σ H us vs Q I rv q
 obtain ⟨l,ts,rfl,hq,hn,k⟩:=q
 obtain ⟨u,rfl,ru⟩:=rv.one
 cases ru
 obtain ⟨its,ri,pt,hz⟩:=I.tuple hq
 have hlen:ts.length=its.length:=by have:=ri.length;simpa using this
 refine zgo (ts:=ts) (I.ok.hd hc) (show s.heap.IsTuple l its.toArray from pt) (by simpa using hlen) (λi x hx=>?_) (by rw [List.size_toArray];unfold scanBound;omega) λh' tk S kp=>?_
 ·obtain ⟨u,hu,ru⟩:=ri.get (i:=i) (x:=V.str (zac x)) (by rw [List.getElem?_map,hx];rfl)
  obtain ⟨t,rfl⟩:=(show ∃ t',u=Value.str (zac x) t' from ru)
  exact ⟨t,by simpa using hu⟩
 ·obtain ⟨o,es,ep,t,g1,g2,g3,g4,g5,g6,g7,g8⟩:=S
  exact ⟨.ref s.heap.objs.size,upd H s.heap.objs.size (lenO s.heap.objs.size (ded ts).length),I.laid (t':=tk) kp (Nat.le_refl _) ⟨⟨o,es,ep,t,g1,g2,g3,g7,g8⟩,⟨_,g1⟩,λh1 h2 ⟨o,es,ep,t,e1,e2⟩ kp=>⟨o,es,ep,t,kp _ e1,e2⟩⟩,rfl,k _ I.fresh⟩
theorem zfb:zdH X (.builtin "len") (λus H Q=>∃ (v:Addr) (n:Nat),us=[.ref v]/\H v=some (lenO v n)/\n<4096/\Q (.int n) H):=by
 intro pins s σ H us vs Q I rv q
 obtain ⟨v,n,rfl,hv,hn,k⟩:=q
 obtain ⟨u,rfl,ru⟩:=rv.one
 cases ru
 obtain ⟨o,es,ep,t,g1,g2,g3,g4,rfl⟩:=(show zb0 X.prog X.w H s.heap v (lenO v n) from I.hok v _ hv).1
 exact call_len_set g1 g2 g3 g4 (by omega) ⟨.int _,H,I.tok _,⟨_,rfl⟩,k⟩
theorem zmH {e:Expr} {p p2 pos2 pos:Pos} {f:IT.Env->M R} (hc:X.calm=true) (hg:Gl X "len") (hm:X.mg "len"=none) (hg2:Gl X "set") (hm2:X.mg "set"=none) (he:IE X e f) (hs:starEach [e] X.env=[(false,eval e X.env)])
  (hs2:starEach [.Call (.Name "set" p2) [e] [] pos2] X.env=[(false,eval (.Call (.Name "set" p2) [e] [] pos2) X.env)]) :
  IE X (.Call (.Name "len" p) [.Call (.Name "set" p2) [e] [] pos2] [] pos) (λσ=>bnd (f σ) λr=>bnd (rd r) λd=>bnd (opt (zc5 d)) λz=>ok (.d z)):=by
 refine PE.imp (zcR zfb hg hm PySem.boot_len (zby (zgk (zfH hc) hg2 hm2 PyProof.Rows.boot_set (zby he zc9 hs) (by decide) (by decide) hs rfl) zc9 hs2) (by decide) (by decide) hs2 rfl) λσ H Q q0=>?_
 obtain ⟨μ,h,env,R0,re,r0,h',e,k⟩:=q0
 simp only [zae,za7,zaf] at e
 obtain ⟨r,h1,e1,d,h2,e2,z,h3,⟨e3,rfl⟩,rfl,rfl⟩:=e
 refine ⟨μ,h,env,R0,re,r,h1,e1,λμ1 H1 v s1 R1 q1=>?_⟩
 obtain ⟨rfl,zz⟩:=zbN R1 q1 e2
 cases d with
 | tup xs=>
  simp only [RdD,RepD] at zz
  obtain ⟨a,vs,rfl,q,zs⟩:=zz
  simp only [zc5] at e3
  cases hx:txts xs with
  | none=>rw [hx] at e3;cases e3
  | some ts=>
   rw [hx] at e3
   simp only at e3
   split at e3
   ·rename_i hb
    cases e3
    have hb:=of_decide_eq_true hb
    rw [zeW zs hx] at q
    refine ⟨a,ts,rfl,q,hb,λv hv=>?_⟩
    have sF:=Stp.fresh (μ:=μ1) (h:=h2) (o:=lenO v (ded ts).length) hv
    exact ⟨v,_,rfl,zaD,by have:=zmo ts;omega,k μ1 _ _ (s1.trans sF) (R1.fresh hv) (by simp only [RepR,RepD])⟩
   ·cases e3
 | _=>simp [zc5] at e3
end
end IT
set_option linter.all false
set_option maxHeartbeats 4000000
set_option maxRecDepth 100000
namespace IT
open PySem PySem.Spec L2
theorem noT {P:Prop} (h:false=true):P:=by cases h
theorem noF {P:Prop} (h:true=false):P:=by cases h
structure zi6 where
 name:Str
 init:Nat
 fields:List Str
 meths:List (Str×Nat)
structure Cst where
 N:List Str
 names:List (Str×NameKind)
 fns:List (Str×Nat×List D)
 globs:List (Str×D)
 top:Bool
 cls:List zi6
 gds:List (Str×List (List Nat×D))
noncomputable def zaX:Expr->Bool
 | .Starred _ _=>false
 | _=>true
noncomputable def visB (C:Cst) (x:Str):Bool:=match C.names.lookup x with
 | some .local=>true
 | some .cell=>true
 | some .free=>true
 | _=>false
noncomputable def locB (C:Cst) (x:Str):Bool:=match C.names.lookup x with
 | some .local=>true
 | some .cell=>C.top
 | _=>false
noncomputable def zec (C:Cst) (x:Str):Bool:=match C.names.lookup x with
 | some .globalImplicit=>true
 | _=>false
noncomputable def zcb (x:Str):Bool:=!(x==("__debug__":Str))&&!(x==("__classdict__":Str))
noncomputable def conB:D->Const->Bool
 | .non,.none=>true
 | .bl b,.bool c=>b==c
 | .int i,.int j=>i==j
 | .str x,.str y=>zac x==y
 | _,_=>false
noncomputable def boB:Bo->Operator->Bool
 | .add,.Add=>true
 | .sub,.Sub=>true
 | .mul,.Mult=>true
 | .fdiv,.FloorDiv=>true
 | .mod,.Mod=>true
 | .pow,.Pow=>true
 | .band,.BitAnd=>true
 | .bor,.BitOr=>true
 | _,_=>false
noncomputable def coB:Co->CmpOp->Bool
 | .eq,.Eq=>true
 | .ne,.NotEq=>true
 | .lt,.Lt=>true
 | .le,.LtE=>true
 | .gt,.Gt=>true
 | .ge,.GtE=>true
 | .isin,.In=>true
 | .notin,.NotIn=>true
 | .isN,.Is=>true
 | .isnotN,.IsNot=>true
 | _,_=>false
noncomputable def biS:Bi->Str
 | .len=>"len"
 | .sum=>"sum"
 | .tuple=>"tuple"
 | .int=>"int"
 | .all=>"all"
 | .any=>"any"
 | .max=>"max"
 | .min=>"min"
noncomputable def meS:Me->Str
 | .append=>"append"
 | .pop=>"pop"
 | .popAt=>"pop"
 | .clear=>"clear"
 | .extend=>"extend"
noncomputable def biOn:Bi->Bool
 | .len=>true
 | .sum=>false
 | .tuple=>true
 | .int=>false
 | .all=>true
 | .any=>true
 | .max=>false
 | .min=>false
noncomputable def meOn:Me->Bool
 | .append=>true
 | .pop=>false
 | .popAt=>false
 | .clear=>false
 | .extend=>true
noncomputable def zln:Expr->Bool
 | .Call _ [] _ _=>false
 | _=>true
noncomputable def me0:Me->Bool
 | .pop=>true
 | .clear=>true
 | _=>false
noncomputable def zf3:Expr->Bool
 | .Name _ _=>true
 | _=>false
noncomputable def zih:Expr->Bool
 | .Set _ _ _=>true
 | _=>false
noncomputable def zd3:Expr->Bool
 | .Slice _ _ _ _=>true
 | _=>false
noncomputable def zdQ:E->Bool
 | .con .non=>true
 | _=>false
noncomputable def zd0:Expr->Bool
 | .UnaryOp .Not _ _=>false
 | .BoolOp _ _ _=>false
 | .IfExp _ _ _ _=>false
 | .Compare _ _ _ _=>false
 | _=>true
noncomputable def zjv:Expr->Bool
 | .Compare _ _ _ _=>true
 | _=>false
noncomputable def zqa (x:Str):Str:=("?":Str)++x
noncomputable def relN (outer names:List (Str×NameKind)):List (Str×NameKind):=
 names.map λ(n,k)=>if (k==NameKind.free&&outer.lookup n==some .cell) then (n,.cell) else (n,k)
mutual
noncomputable def zds:Tg->Expr->List (Nat×Str)
 | .name i,e=>match e with
  | .Name x _=>[(i,x)]
  | _=>[]
 | .tup ts,e=>match e with
  | .Tuple xs _ _=>tgNamess ts xs
  | _=>[]
noncomputable def tgNamess:List Tg->List Expr->List (Nat×Str)
 | [],_=>[]
 | t::ts,es=>match es with
  | e::es=>zds t e++tgNamess ts es
  | []=>[]
end
noncomputable def blkN (N:List Str) (own:List (Nat×Str)):List Str:=
 own.foldl (λM p=>M.set p.1 p.2) (N.map λx=>if own.any (λp=>p.2==x) then zqa x else x)
noncomputable def blkC (C:Cst) (sc:Scope) (own:List (Nat×Str)):Cst:={ N:=blkN C.N own,names:=relN C.names sc.names,fns:=C.fns,globs:=C.globs,top:=false,cls:=C.cls,gds:=C.gds }
noncomputable def zoz (C:Cst) (C':Cst) (own:List Nat) (i:Nat) (x:Str):Bool:=match C'.names.lookup x with
 | some .local=>own.contains i
 | some .cell | some .free=>own.contains i||(C.N[i]?==some x&&(C.names.lookup x==some .cell||C.names.lookup x==some .free))
 | _=>true
noncomputable def zjG (C:Cst) (sc:Scope) (C':Cst) (own:List Nat):Bool:=
 sc.kind==.function&&sc.names.all (λy=>y.2 != .cell)&&sc.names.all (λx=>x.2 != .local||sc.names.lookup x.1==some .local)
 && sc.names.all (λx=>x.2 != .free||C.names.lookup x.1==some .cell||C.names.lookup x.1==some .free)
 && (List.range C'.N.length).all (λi=>match C'.N[i]? with | some x=>zoz C C' own i x | none=>true)
 && C'.N.length==C.N.length&&decide C'.N.Nodup
mutual
noncomputable def zcz (C:Cst):Tg->Expr->Bool
 | .name i,e=>match e with
  | .Name x _=>C.N[i]?==some x&&locB C x
  | _=>false
 | .tup ts,e=>match e with
  | .Tuple xs _ _=>chkTgs C ts xs
  | _=>false
noncomputable def chkTgs (C:Cst):List Tg->List Expr->Bool
 | [],es=>match es with
  | []=>true
  | _=>false
 | t::ts,es=>match es with
  | e::es=>zaX e&&zcz C t e&&chkTgs C ts es
  | []=>false
end
noncomputable def inB:Bool->CmpOp->Bool
 | false,.In=>true
 | true,.NotIn=>true
 | _,_=>false
noncomputable def enuB:I->Expr->Bool
 | .enk _ _,e=>match e with
  | .Tuple _ _ _=>true
  | _=>false
 | _,_=>true
mutual
noncomputable def chkE:E->Cst->Expr->Bool
 | .con d,_,e=>match e with
  | .Constant c _ _=>conB d c
  | _=>false
 | .var i,C,e=>match e with
  | .Name x _=>C.N[i]?==some x&&visB C x&&zcb x
  | _=>false
 | .bin o a b,C,e=>match e with
  | .BinOp l op r _=>boB o op&&chkE a C l&&chkE b C r
  | _=>false
 | .neg a,C,e=>match e with
  | .UnaryOp .USub x _=>chkE a C x
  | _=>false
 | .cmp o a b,C,e=>match e with
  | .Compare l [op] [r] _=>coB o op&&chkE a C l&&chkE b C r&&!zih r
  | _=>false
 | .and a b,C,e=>match e with
  | .BoolOp .And (v::w::rest) pos=>chkE a C v&&(match rest with | []=>chkE b C w | y::ys=>chkE b C (.BoolOp .And (w::y::ys) pos))
  | _=>false
 | .or a b,C,e=>match e with
  | .BoolOp .Or (v::w::rest) pos=>chkE a C v&&(match rest with | []=>chkE b C w | y::ys=>chkE b C (.BoolOp .Or (w::y::ys) pos))
  | _=>false
 | .not a,C,e=>match e with
  | .UnaryOp .Not x _=>chkE a C x
  | _=>false
 | .ife c a b,C,e=>match e with
  | .IfExp t x y _=>chkT c C t&&chkE a C x&&chkE b C y
  | _=>false
 | .tup es,C,e=>match e with
  | .Tuple xs _ _=>chkEs es C xs&&decide (xs.length<=1000)
  | _=>false
 | .lst _ l,C,e=>chkL l C e
 | .idx a i,C,e=>match e with
  | .Subscript x y _=>chkE a C x&&chkE i C y&&!zd3 y
  | _=>false
 | .sli a lo hi,C,e=>match e with
  | .Subscript x (.Slice l u none _) _=>chkE a C x&&(match l with | none=>zdQ lo | some y=>chkE lo C y)&&(match u with | none=>zdQ hi | some y=>chkE hi C y)
  | _=>false
 | .call f es,C,e=>match e with
  | .Call (.Name x _) (v::vs) [] _=>(match C.fns[f]? with | some p=>p.1==x | none=>false)&&zec C x&&zcb x&&chkEs es C (v::vs)
  | _=>false
 | .bi b es,C,e=>match e with
  | .Call (.Name x _) (v::vs) [] _=>(biOn b&&x==biS b)&&zec C x&&chkEs es C (v::vs)
  | _=>false
 | .me m o es,C,e=>match e with
   | .Call (.Attribute ov name apos) (v::vs) [] cpos=>(!me0 m&&meOn m)&&name==meS m&&zf3 ov&&chkE o C ov&&chkEs es C (v::vs)&&apos.endLine==cpos.line&&decide ((v::vs).length<20)
   | .Call (.Attribute ov name apos) [] [] cpos=>(me0 m&&meOn m)&&name==meS m&&zf3 ov&&chkE o C ov&&chkEs es C []&&apos.endLine==cpos.line
   | _=>false
 | .glo d,C,e=>match e with
  | .Name x _=>(match C.globs.lookup x with | some d'=>D.same d d' | none=>false)&&zec C x&&zcb x
  | _=>false
 | .lset a,C,e=>match e with
  | .Call (.Name x _) [.Call (.Name y _) [v] [] _] [] _=>x==("len":Str)&&zec C x&&y==("set":Str)&&zec C y&&zaX v&&chkE a C v
  | _=>false
 | .isi t a,C,e=>match e with
  | .Call (.Name x _) [v,.Name y _] [] _=>x==("isinstance":Str)&&zec C x&&zaX v&&chkE a C v&&y==Str.ofString (tyS t)&&zec C y
  | _=>false
 | .tm m o es,C,e=>match e with
   | .Call (.Attribute ov name apos) (v::vs) [] cpos=>name==tmS m&&zln ov&&chkE o C ov&&chkEs es C (v::vs)&&apos.endLine==cpos.line&&decide ((v::vs).length<20)
   | _=>false
 | .lm m o a,C,e=>match e with
   | .Call (.Attribute ov name apos) [v] [] cpos=>name==lmS m&&zln ov&&chkE o C ov&&zaX v&&chkE a C v&&apos.endLine==cpos.line
   | _=>false
 | .dnew,_,e=>match e with
  | .Dict [] [] _=>true
  | _=>false
 | .din neg k d,C,e=>match e with
  | .Compare l [op] [r] _=>inB neg op&&chkE k C l&&chkE d C r&&!zih r
  | _=>false
 | .stuck,_,_=>true
noncomputable def chkEs:List E->Cst->List Expr->Bool
 | [],_,es=>match es with
  | []=>true
  | _=>false
 | a::as,C,es=>match es with
  | e::es=>zaX e&&chkE a C e&&chkEs as C es
  | []=>false
noncomputable def chkT:T->Cst->Expr->Bool
 | .val a,C,e=>chkE a C e&&(zd0 e||zjv e)
 | .and a b,C,e=>match e with
  | .BoolOp .And (v::w::rest) pos=>chkT a C v&&(match rest with | []=>chkT b C w | y::ys=>chkT b C (.BoolOp .And (w::y::ys) pos))
  | _=>false
 | .or a b,C,e=>match e with
  | .BoolOp .Or (v::w::rest) pos=>chkT a C v&&(match rest with | []=>chkT b C w | y::ys=>chkT b C (.BoolOp .Or (w::y::ys) pos))
  | _=>false
 | .not a,C,e=>match e with
  | .UnaryOp .Not x _=>chkT a C x
  | _=>false
noncomputable def zg6:List T->Cst->List Expr->Bool
 | [],_,es=>match es with
  | []=>true
  | _=>false
 | t::ts,C,es=>match es with
  | e::es=>chkT t C e&&zg6 ts C es&&es.isEmpty
  | []=>false
noncomputable def chkL:L->Cst->Expr->Bool
 | .disp es,C,e=>match e with
  | .List xs _=>chkEs es C xs&&decide (xs.length<=1000)
  | _=>false
 | .comp tg it cs el,C,e=>match e with
  | .ListComp elt [g] sc _=>g.is_async==0&&!zih g.iter&&zjG C sc (blkC C sc (zds tg g.target)) tg.slots&&(zcz (blkC C sc (zds tg g.target)) tg g.target&&enuB it g.target)&&chkI it C g.iter
    && zg6 cs (blkC C sc (zds tg g.target)) g.ifs&&chkE el (blkC C sc (zds tg g.target)) elt
  | _=>false
 | .spl a b,C,e=>match e with
  | .Call (.Attribute ov name apos) [v] [] cpos=>name==("split":Str)&&zln ov&&chkE a C ov&&zaX v&&chkE b C v&&apos.endLine==cpos.line
  | _=>false
noncomputable def chkI:I->Cst->Expr->Bool
 | .seq a,C,e=>chkE a C e
 | .rng a,C,e=>match e with
  | .Call (.Name x _) [v] [] _=>x==("range":Str)&&zec C x&&zaX v&&chkE a C v
  | _=>false
 | .dic a,C,e=>chkE a C e
 | .enk k a,C,e=>match e with
  | .Call (.Name x _) [v] [⟨some n,.Constant (.int i) _ _,_⟩] _=>x==("enumerate":Str)&&n==("start":Str)&&i==(k:Int)&&decide (k<1000)&&zec C x&&zaX v&&chkE a C v
  | _=>false
end
noncomputable def zdB:Expr->Bool
 | .ListComp _ _ _ _=>true
 | .SetComp _ _ _ _=>true
 | .DictComp _ _ _ _ _=>true
 | _=>false
noncomputable def zl2:E->Bool
 | _=>false
noncomputable def zdh:Expr->Bool
 | .Tuple _ _ _=>true
 | .List _ _=>true
 | _=>false
mutual
noncomputable def chkS:S->Cst->Stmt->Bool
 | .asg tg a,C,st=>match st with
  | .Assign [t] v pos=>zcz C tg t&&zaX t&&chkE a C v&&!(zdh t&&zdh v)&&(!zdB v||(zdB v&&zf3 t&&!zl2 a))
  | _=>false
 | .setI o i a,C,st=>match st with
  | .Assign [.Subscript ov iv _] v _=>chkE a C v&&chkE o C ov&&chkE i C iv&&!zdB v&&!zd3 iv
  | _=>false
 | .exp a,C,st=>match st with
  | .Expr v _=>chkE a C v&&!zdB v
  | _=>false
 | .ife c a b,C,st=>match st with
  | .If t x y _=>chkT c C t&&chkSs a C x&&chkSs b C y
  | _=>false
 | .for tg it body,C,st=>match st with
  | .For t iter b [] _=>(zcz C tg t&&enuB it t)&&chkI it C iter&&chkSs body C b&&!zih iter
  | _=>false
 | .ret a,C,st=>match st with
  | .Return (some v) _=>chkE a C v
  | _=>false
 | .brk,_,st=>false
 | .cnt,_,st=>false
 | .setD o i a,C,st=>match st with
  | .Assign [.Subscript ov iv _] v _=>chkE a C v&&chkE o C ov&&chkE i C iv&&!zdB v&&!zd3 iv
  | _=>false
 | .stuck,_,_=>true
noncomputable def chkSs:List S->Cst->List Stmt->Bool
 | [],_,sts=>match sts with
  | []=>true
  | _=>false
 | s::ss,C,sts=>match sts with
  | st::sts=>chkS s C st&&chkSs ss C sts
  | []=>false
end
end IT
set_option linter.all false
set_option maxHeartbeats 4000000
set_option maxRecDepth 100000
namespace IT
open PySem PySem.Spec L2
noncomputable def zc2:List Str:=["len", "sum", "tuple", "int", "range", "all", "any", "max", "min", "list", "isinstance", "str", "bool", "dict", "enumerate", "sorted", "set"]
structure Good (Γ:Calls) (n:Nat) (C:Cst) (X:Cx):Prop where
 nox:X.xe=λ_ _=>False
 calm:X.calm=true
 room:Room n X.A
 room1:Room (n+1) X.A
 kind:X.env.scope.kind=.function
 N:X.N=C.N
 nd:X.N.Nodup
 names:X.env.scope.names=C.names
 fn:C.top=true->∀ x,X.fn x=true
 funs:∀ (f:Nat) (p:Str×Nat×List D),C.fns[f]?=some p->zqC X n p.1 p.2.1 p.2.2 (Γ f)
 blt:∀ x∈zc2,X.mg x=none
 glob:∀ (x:Str) (d:D),C.globs.lookup x=some d->∃ u v,X.mg x=some u/\RelV v u/\∀ A H,RepD X.K A H d v
 gdic:∀ (x:Str) (kvs:List (List Nat×D)),C.gds.lookup x=some kvs->GDic X.K X.w X.mg x kvs
 makes:∀ i∈C.cls,∃ np,zon X n i.name np (Γ i.init)
 meths:∀ i∈C.cls,∀ p∈i.meths,∃ np,zpF X n i.name p.1 np (Γ p.2)
 attrs:∀ i∈C.cls,∀ f∈i.fields,∀ A,PySem.W.nsIn X.K mainGlobals i.name=some (some (.ref A))->zka X.K A f
theorem zaO {e:Expr} {es:List Expr} {env:PySem.Env} (h:zaX e=true):starEach (e::es) env=(false,eval e env)::starEach es env:=by
 cases e<;>first | rfl | (first | exact noT h | exact noF h)
theorem zcY:∀ {as:List E} {C:Cst} {es:List Expr},chkEs as C es=true->as.length=es.length
 | [],C,[],_=>rfl
 | [],C,_::_,h=>by simp [chkEs] at h
 | a::as,C,[],h=>by simp [chkEs] at h
 | a::as,C,e::es,h=>by
  simp only [chkEs,Bool.and_eq_true] at h
  simp [zcY h.2]
theorem zbG:∀ {as:List E} {C:Cst} {es:List Expr},chkEs as C es=true->∀ e∈es,zaX e=true
 | [],C,[],_,e,he=>by simp at he
 | [],C,_::_,h,_,_=>by simp [chkEs] at h
 | a::as,C,[],h,_,_=>by simp [chkEs] at h
 | a::as,C,e::es,h,x,hx=>by
  simp only [chkEs,Bool.and_eq_true] at h
  rcases List.mem_cons.mp hx with rfl | hx
  ·exact h.1.1
  ·exact zbG h.2 x hx
theorem zcp {env:PySem.Env} {pos:Pos}:∀ {es:List Expr},(∀ e∈es,zaX e=true)->(backTo pos (starEach es env)).any (·.1)=false
  | [],_=>rfl
  | e::es,h=>by
    rw [zaO (h e (by simp))]
    show (false||(backTo pos (starEach es env)).any (·.1))=false
    rw [zcp λx hx=>h x (by simp [hx])]
    rfl
theorem zcZ {env:PySem.Env} {pos:Pos}:∀ {es:List Expr},(∀ e∈es,zaX e=true)->(backTo pos (starEach es env)).all (λx=>!x.1)=true
 | [],_=>rfl
 | e::es,h=>by
  rw [zaO (h e (by simp))]
  show (true&&(backTo pos (starEach es env)).all (λx=>!x.1))=true
  rw [zcZ λx hx=>h x (by simp [hx])]
  rfl
theorem zfv {Γ:Calls}:∀ {es:List E} {σ:IT.Env} {h h':Sto} {rs:List R},evs Γ es σ h=some (rs,h')->rs.length=es.length
 | [],σ,h,h',rs,e=>by
  simp only [evs,zaf] at e
  rw [<-e.1];rfl
 | a::as,σ,h,h',rs,e=>by
  simp only [evs,zae,zaf] at e
  obtain ⟨r,h1,e1,rs',h2,e2,rfl,rfl⟩:=e
  simp [zfv e2]
section
variable {Γ:Calls} {n:Nat} {C:Cst} {X:Cx} {x:Str}
theorem zqD (G:Good Γ n C X) (h:visB C x=true):Vis X.env.scope x:=by
 unfold visB at h
 unfold Vis
 rw [G.names]
 split at h
 ·rename_i e;exact .inl e
 ·rename_i e;exact .inr (.inl e)
 ·rename_i e;exact .inr (.inr e)
 ·cases h
theorem zmr (G:Good Γ n C X) (h:locB C x=true):Loc X.env.scope x/\(X.fn x=true\/X.env.scope.names.lookup x=some .local):=by
 unfold locB at h
 unfold L2.Loc
 rw [G.names]
 split at h
 ·rename_i e;exact ⟨.inl e,.inr e⟩
 ·rename_i e;exact ⟨.inr e,.inl (G.fn h x)⟩
 ·cases h
theorem zeY (G:Good Γ n C X) (h:zec C x=true):Gl X x:=by
 unfold zec at h
 show X.env.scope.names.lookup x=_
 rw [G.names]
 split at h
 ·rename_i e;exact e
 ·cases h
theorem zfe (h:zcb x=true):(x==("__debug__":Str))=false/\(x==("__classdict__":Str))=false:=by
 unfold zcb at h
 simpa using h
end
theorem opB {X:Cx} {o:Bo} {op:Operator} (h:boB o op=true):OpD X (binaryOp op) (bop o):=by
  cases o<;>cases op<;>first | (exact noT h) | exact znl | exact zmx | exact zn5 | exact zk9 | exact znU | exact znC | exact zlD | exact zm8
theorem coBe {X:Cx} {o:Co} {op:CmpOp} (hu:X.A.units+64<cLine) (h:coB o op=true):OpD X (compareOp op) (cop o):=by
  cases o<;>cases op<;>first | (exact noT h) | exact zp3 hu | exact zqo hu | exact zpw | exact zqn | exact zpR | exact zp9 | exact zkY hu | exact ziz hu | exact zmO | exact zif
theorem zo9 {o:Co} {x y z:D} (h:cop o x y=some z):∃ t,z=.bl t:=by
 (delta cop at h;(try dsimp only at h))
 split at h<;>first
  | (split at h<;>first | (cases h;exact ⟨_,rfl⟩) | (split at h<;>first | (cases h;exact ⟨_,rfl⟩) | cases h) | cases h)
  | (cases h;exact ⟨_,rfl⟩)
  | cases h
theorem zq2 {o:Co} {x y r:R} {h h':Sto} (e:mD (cop o) x y h=some (r,h')):∃ t,r=.d (.bl t):=by
 simp only [mD,zae,zaf,za7] at e
 obtain ⟨dx,h1,e1,dy,h2,e2,z,h3,⟨e3,_⟩,rfl,_⟩:=e
 obtain ⟨t,rfl⟩:=zo9 e3
 exact ⟨t,rfl⟩
theorem zhY {e:Expr} {env:PySem.Env} (h:zd0 e=true):∀ whole,isTrue e env whole=(do let v<-whole;standAt e.pos;holding [v] (truthy v)):=by
 intro whole
 cases e with
 | UnaryOp op x p=>cases op<;>first | rfl | (first | exact noT h | exact noF h)
 | BoolOp _ _ _=>first | exact noT h | exact noF h
 | IfExp _ _ _ _=>first | exact noT h | exact noF h
 | Compare _ _ _ _=>first | exact noT h | exact noF h
 | _=>rfl
theorem zfy {o:Expr} {env:PySem.Env} {name:Str} (h:zln o=true):attributeBase o name env (eval o env)=eval o env:=by
 unfold attributeBase
 split
 ·cases h
 ·rfl
theorem zgm {o:Expr} {env:PySem.Env} {name:Str} (h:zf3 o=true):attributeBase o name env (eval o env)=eval o env:=by
 cases o<;>first | rfl | (first | exact noT h | exact noF h)
theorem zlJ {e:Expr} (h:zd3 e=false):zgP e:=by
 intro o i
 cases e<;>first | rfl | (first | exact noT h | exact noF h)
theorem zkj {e:Expr} {env:PySem.Env} (h:zih e=false):∀ x,foldedSetIterable e env x=pure x:=by
 intro x
 cases e<;>first | rfl | (first | exact noT h | exact noF h)
theorem zfI {e:Expr} {op:CmpOp} (h:zih e=false):behindInMarks op e=false:=by
 cases e<;>first | rfl | (first | exact noT h | exact noF h)
theorem zgS {t v:Expr} {l:Nat} {env:PySem.Env} (h:zdB v=false):swapsWithSole [t] v l env=pure false:=by
 cases v<;>first | rfl | (first | exact noT h | exact noF h)
theorem zlu {v:Expr} {l:Nat} {env:PySem.Env} (h:zdB v=false):swapsWith v none l env=pure false:=by
 cases v<;>first | rfl | (first | exact noT h | exact noF h)
theorem zdb {t v:Expr} {env:PySem.Env} (h:(zdh t&&zdh v)=false):swappedStores [t] v env=pure none:=by
 cases t with
 | Tuple a b c=>cases v<;>first | rfl | (first | exact noT h | exact noF h)
 | List a b=>cases v<;>first | rfl | (first | exact noT h | exact noF h)
 | _=>rfl
theorem zfo {t:Expr} {env:PySem.Env} (h:zaX t=true):(assignEach [t] env).map (·.2)=[assign t env]:=by
 cases t<;>first | rfl | (first | exact noT h | exact noF h)
theorem zdK {t:Expr} {ts:List Expr} {env:PySem.Env} (h:zaX t=true):assignEach (t::ts) env=(false,assign t env)::assignEach ts env:=by
 cases t<;>first | rfl | (first | exact noT h | exact noF h)
theorem zgN {env:PySem.Env}:∀ {ts:List Expr},(∀ e∈ts,zaX e=true)->(assignEach ts env).length=ts.length/\(assignEach ts env).findIdx? (·.1)=none
 | [],_=>⟨rfl,rfl⟩
 | t::ts,h=>by
  obtain ⟨h1,h2⟩:=zgN (env:=env) (ts:=ts) λx hx=>h x (by simp [hx])
  rw [zdK (h t (by simp))]
  refine ⟨by simp [h1],?_⟩
  rw [List.findIdx?_cons]
  simp [h2]
theorem ziP {o i:Expr} {p:Pos} {env:PySem.Env} (h:zd3 i=false) (v:Value):assign (.Subscript o i p) env v=(do let ov<-holding [v] (eval o env);let iv<-holding [v,ov] (eval i env);standAt p;holding [v,ov,iv] (setItem ov iv v);release [v,ov,iv] []):=by
 cases i<;>first | rfl | (first | exact noT h | exact noF h)
theorem zop {X:Cx} {d:D} {c:Const} {k:Nat} {pos:Pos} (h:conB d c=true):IE X (.Constant c k pos) (λ_=>ok (.d d)):=by
 cases d with
 | non=>cases c<;>first | (exact noT h) | exact zgB zpL (by intro _ _;simp only [RepD])
 | bl b=>
  cases c with
  | bool c=>obtain rfl:=eq_of_beq h;exact zgB zrN (by intro _ _;simp only [RepD])
  | _=>exact noT h
 | int b=>
  cases c with
  | int c=>obtain rfl:=eq_of_beq h;exact zgB zpe (by intro _ _;simp only [RepD])
  | _=>exact noT h
 | str b=>
  cases c with
  | str c=>obtain rfl:=eq_of_beq h;exact zgB zqg (by intro _ _;simp only [RepD])
  | _=>exact noT h
 | _=>cases c<;>exact noT h
theorem zgI {C:Cst}:∀ {ts:List Tg} {es:List Expr},chkTgs C ts es=true->(∀ e∈es,zaX e=true)/\es.length=ts.length
 | [],[],_=>⟨by simp,rfl⟩
 | [],_::_,h=>by simp [chkTgs] at h
 | _::_,[],h=>by simp [chkTgs] at h
 | t::ts,e::es,h=>by
  simp only [chkTgs,Bool.and_eq_true] at h
  obtain ⟨h1,h2⟩:=zgI h.2
  refine ⟨λx hx=>?_,by simp [h2]⟩
  rcases List.mem_cons.mp hx with rfl | hx
  ·exact h.1.1
  ·exact h1 x hx
mutual
theorem okTg {Γ:Calls} {n:Nat} {C:Cst} {X:Cx} (G:Good Γ n C X):∀ (t:Tg) (e:Expr),zcz C t e=true->PG X e (tG X.K t)
 | .name i,e,h=>by
  cases e with
  | Name x pos=>
   simp only [zcz,Bool.and_eq_true] at h
   obtain ⟨h1,h2⟩:=zmr G h.2
   exact zn8 G.nd (by rw [G.N];exact eq_of_beq h.1) h1 h2
  | _=>simp [zcz] at h
 | .tup ts,e,h=>by
  cases e with
  | Tuple xs k pos=>
   have h:chkTgs C ts xs=true:=by simpa [zcz] using h
   obtain ⟨h1,h2⟩:=zgI h
   obtain ⟨h3,h4⟩:=zgN (env:=X.env) h1
   exact zoF G.calm (okTgs G ts xs h) h2 h3 h4
  | _=>simp [zcz] at h
theorem okTgs {Γ:Calls} {n:Nat} {C:Cst} {X:Cx} (G:Good Γ n C X):∀ (ts:List Tg) (es:List Expr),chkTgs C ts es=true->PGs X es (tGs X.K ts)
 | [],es,h=>by
  cases es with
  | nil=>exact zni
  | cons _ _=>simp [chkTgs] at h
 | t::ts,es,h=>by
  cases es with
  | nil=>simp [chkTgs] at h
  | cons e es=>
   simp only [chkTgs,Bool.and_eq_true] at h
   exact zkP (okTg G t e h.1.2) (okTgs G ts es h.2) (by rw [zdK h.1.1];rfl)
end
theorem zoU {Γ:Calls} {n:Nat} {C:Cst} {X:Cx} (G:Good Γ n C X) (t:Tg) (e:Expr) (h:zcz C t e=true):PG X e (tGI X.K t):=by
 cases t with
 | name i=>exact zlp (okTg G _ _ h)
 | tup ts=>
  by_cases hl:ts.length=2
  ·match ts,hl,h with
   | [a,b],_,h=>
    cases e with
    | Tuple xs k pos=>
     have h:chkTgs C [a,b] xs=true:=by simpa [zcz] using h
     match xs,h with
     | [x,y],h=>
      obtain ⟨h1,h2⟩:=zgI h
      obtain ⟨h3,h4⟩:=zgN (env:=X.env) h1
      have hs:=okTgs G [a,b] [x,y] h
      simp only [chkTgs,Bool.and_eq_true] at h
      exact znP G.calm hs (zrf (okTg G a x h.1.2) (okTg G b y h.2.1.2) (by rw [zdK h.1.1];rfl) (by rw [zdK h.2.1.1];rfl)) h3 h4
     | [],h=>simp [chkTgs] at h
     | [_],h=>simp [chkTgs] at h
     | _::_::_::_,h=>simp [chkTgs] at h
    | _=>simp [zcz] at h
  ·exact zmy hl (okTg G _ _ h)
theorem zga {r:R} {w:Wk} {h h':Sto} (e:zbo r h=some (w,h')):WlOk w h':=by
 (delta zbo at e;simp only [zae] at e)
 obtain ⟨o,h1,e1,e2⟩:=e
 obtain ⟨rfl,ho⟩:=zdt e1
 cases o with
 | some ls=>
  obtain ⟨l,rfl,ho⟩:=ho
  simp only [zaf] at e2
  obtain ⟨rfl,rfl⟩:=e2
  intro i hi
  cases hi
  exact ⟨_,ho,λc fs z=>by cases z⟩
 | none=>
  simp only [zae] at e2
  obtain ⟨d,h2,e3,e4⟩:=e2
  cases r with
  | loc l=>
   obtain ⟨o,ho,il,rfl,rfl⟩:=zd6 e3
   (delta wkOf items at e4;(try dsimp only at e4);simp only [zaf] at e4)
   obtain ⟨rfl,rfl⟩:=e4
   intro i hi
   cases hi
   exact ⟨o,ho,λc fs z=>by rw [z] at il;cases il⟩
  | d x=>
   have:w.l=none:=by
    (delta wkOf at e4;(try dsimp only at e4))
    cases hi:items d with
    | none=>
     rw [hi] at e4
     simp only at e4
     split at e4
     ·split at e4
      ·obtain ⟨rfl,rfl⟩:=zaf.mp e4;rfl
      ·cases e4
     ·cases e4
    | some xs=>rw [hi] at e4;obtain ⟨rfl,rfl⟩:=zaf.mp e4;rfl
   intro i hi
   rw [this] at hi
   cases hi
theorem zjP {Γ:Calls} {it:I} {σ:IT.Env} {h h':Sto} {w:Wk} (e:evI Γ it σ h=some (w,h')):WlOk w h':=by
 cases it with
 | seq a=>
  simp only [evI,zae] at e
  obtain ⟨r,h1,e1,e2⟩:=e
  exact zga e2
 | enk k0 a=>
  simp only [evI,zae] at e
  obtain ⟨r,h1,e1,e2⟩:=e
  unfold zft at e2
  split at e2
  ·simp only [zae] at e2
   obtain ⟨w0,h2,e3,e4⟩:=e2
   have:=zga e3
   cases en:za6 k0 w0.xs with
   | none=>rw [en] at e4;cases e4
   | some l=>rw [en] at e4;obtain ⟨rfl,rfl⟩:=zaf.mp e4;exact this
  ·cases e2
 | dic a=>
  simp only [evI,zae] at e
  obtain ⟨r,h1,e1,e2⟩:=e
  cases r with
  | d _=>cases e2
  | loc l=>
   simp only [zgr] at e2
   split at e2
   ·rename_i kvs ho
    simp only [Option.some.injEq,Prod.mk.injEq] at e2
    obtain ⟨rfl,rfl⟩:=e2
    intro i hi
    cases hi
    exact ⟨_,ho,λc fs z=>by cases z⟩
   ·cases e2
 | rng a=>
  simp only [evI,zae] at e
  obtain ⟨r,h1,e1,e2⟩:=e
  (delta zfq at e2;(try dsimp only at e2))
  intro i el
  split at e2
  ·split at e2
   ·obtain ⟨rfl,rfl⟩:=zaf.mp e2;cases el
   ·cases e2
  ·cases e2
end IT
set_option linter.all false
set_option maxHeartbeats 4000000
set_option maxRecDepth 100000
namespace IT
open PySem PySem.Spec L2
section
variable {Γ:Calls} {n:Nat} {C:Cst} {X:Cx}
theorem zfL (G:Good Γ n C X) (sc:Scope):(relabel sc X.env).names=relN C.names sc.names:=by
 unfold relabel relN
 show sc.names.map _=sc.names.map _
 refine List.map_congr_left λp _=>?_
 obtain ⟨m,k⟩:=p
 have e1:X.env.kindOf m=C.names.lookup m:=by
  show X.env.scope.names.lookup m=_
  rw [G.names]
 simp only [G.kind,e1]
 have e2:(ScopeKind.function==ScopeKind.function)=true:=rfl
 rw [e2,Bool.and_true]
theorem Good.blk (G:Good Γ n C X) {sc:Scope} {own:List (Nat×Str)} {os:List Nat} (h:zjG C sc (blkC C sc own) os=true) (cl:List (Str×Addr)) (pins:List (Addr×Obj)) (s₂:Shared) (H₂:Hp) (Cc:Addr) (fp:List Addr) :
  Good Γ n (blkC C sc own) (blk X (blkC C sc own).N s₂ H₂ (compEnvC sc cl Cc X.env) fp pins):=by
 unfold zjG at h
 simp only [Bool.and_eq_true] at h
 obtain ⟨⟨⟨⟨⟨⟨hk,_⟩,_⟩,_⟩,_⟩,_⟩,hnd⟩:=h
 refine ⟨G.nox,G.calm,G.room,G.room1,?_,rfl,of_decide_eq_true hnd,zfL G sc,λz=>absurd z (by show ¬ (false=true);decide),λf x e=>⟨(G.funs f x e).ex,(G.funs f x e).fill,(G.funs f x e).len⟩,G.blt,G.glob,G.gdic,λi hi=>let ⟨np,z⟩:=G.makes i hi;⟨np,z.ex,z.len⟩,λi hi p hp=>let ⟨np,z⟩:=G.meths i hi p hp;⟨np,z.ex,z.len⟩,G.attrs⟩
 show (relabel sc X.env).kind=_
 have:sc.kind=.function:=by cases e:sc.kind<;>rw [e] at hk<;>first | rfl | (exact absurd hk (by decide))
 exact this
theorem znp (G:Good Γ n C X) {sc:Scope} {own:List (Nat×Str)} {os:List Nat} (h:zjG C sc (blkC C sc own) os=true):zhi X sc (blkC C sc own).N os:=by
 unfold zjG at h
 simp only [Bool.and_eq_true] at h
 obtain ⟨⟨⟨⟨⟨⟨hk,hc⟩,hn⟩,hf⟩,hs⟩,hl⟩,hnd⟩:=h
 have ke:∀ m,X.env.kindOf m=C.names.lookup m:=λm=>by
  show X.env.scope.names.lookup m=_
  rw [G.names]
 refine ⟨?_,?_,?_,?_,?_,?_⟩
 ·cases e:sc.kind<;>rw [e] at hk<;>first | rfl | (exact absurd hk (by decide))
 ·intro y hy z
  have:=List.all_eq_true.mp hc y hy
  rw [z] at this
  exact absurd this (by decide)
 ·intro x hx z
  have:=List.all_eq_true.mp hn x hx
  rw [z] at this
  have e2:(NameKind.local != NameKind.local)=false:=by decide
  rw [e2,Bool.false_or] at this
  exact eq_of_beq this
 ·intro x hx z
  have:=List.all_eq_true.mp hf x hx
  rw [z] at this
  have e2:(NameKind.free != NameKind.free)=false:=by decide
  rw [e2,Bool.false_or,Bool.or_eq_true] at this
  rw [ke]
  rcases this with q | q
  ·exact .inl (eq_of_beq q)
  ·exact .inr (eq_of_beq q)
 ·intro i x e v
  have hi:i<(blkC C sc own).N.length:=(List.getElem?_eq_some_iff.mp e).1
  have:=List.all_eq_true.mp hs i (by simpa using hi)
  rw [e] at this
  simp only [zoz] at this
  unfold Vis at v
  rw [zfL G sc] at v ⊢
  have en:(blkC C sc own).names=relN C.names sc.names:=rfl
  rw [en] at this
  rw [G.N,ke]
  rcases v with v | v | v
  ·rw [v] at this
   exact .inl (by simpa using this)
  ·rw [v] at this
   simp only [Bool.or_eq_true,Bool.and_eq_true] at this
   rcases this with q | ⟨q,q2⟩
   ·exact .inl (by simpa using q)
   ·refine .inr ⟨eq_of_beq q,?_,by rw [v];decide⟩
    rcases q2 with q2 | q2
    ·exact .inl (eq_of_beq q2)
    ·exact .inr (eq_of_beq q2)
  ·rw [v] at this
   simp only [Bool.or_eq_true,Bool.and_eq_true] at this
   rcases this with q | ⟨q,q2⟩
   ·exact .inl (by simpa using q)
   ·refine .inr ⟨eq_of_beq q,?_,by rw [v];decide⟩
    rcases q2 with q2 | q2
    ·exact .inl (eq_of_beq q2)
    ·exact .inr (eq_of_beq q2)
 ·rw [G.N]
  exact eq_of_beq hl
end
noncomputable def zer (Γ:Calls) (X:Cx) (tg:Tg) (it:I) (cs:List T) (el:E) (e:Expr):Prop:=
 ∃ elt gt gi gifs sc pos N',e=.ListComp elt [⟨gt,gi,gifs,0⟩] sc pos/\zhi X sc N' tg.slots/\PI X gt gi (tI X.K (evI Γ it)) ∧
  (∀ cl pins s₂ H₂ C fp,PG (blk X N' s₂ H₂ (compEnvC sc cl C X.env) fp pins) gt (tGI X.K tg)/\PTs (blk X N' s₂ H₂ (compEnvC sc cl C X.env) fp pins) gifs (tTv X.K (tvs Γ cs))/\PE (blk X N' s₂ H₂ (compEnvC sc cl C X.env) fp pins) elt (tE X.K (ev Γ el))) ∧
  ∀ x,foldedSetIterable gi X.env x=pure x
theorem zer.read {Γ:Calls} {K:PySem.W.Frag} {tg:Tg} {it:I} {cs:List T} {el:E} {σ:St} {H:Hp} {Q:VK} (q:tLs K (evL Γ (.comp tg it cs el)) σ H Q):ziv (tI K (evI Γ it)) tg.slots (tGI K tg) (tTv K (tvs Γ cs)) (tE K (ev Γ el)) σ H Q:=by
 have e:evL Γ (.comp tg it cs el)=λσ=>bnd (evI Γ it σ) λw=>zb1 w.l (zqF tg (tvs Γ cs) (ev Γ el) σ) w.xs:=by
  funext σ
  rfl
 rw [e] at q
 exact zjV (λσ h w h' e=>zjP e) q
theorem zer.il {Γ:Calls} {X:Cx} {tg:Tg} {it:I} {cs:List T} {el:E} {e:Expr} (hx:X.xe=λ_ _=>False) (hc:X.calm=true) (h:zer Γ X tg it cs el e):IL X e (evL Γ (.comp tg it cs el)):=by
 obtain ⟨elt,gt,gi,gifs,sc,pos,N',rfl,ok,hi,hB,hs⟩:=h
 exact PE.imp (zmv hx hc ok hi hB hs) λσ H Q q=>zer.read q
theorem zle {K:PySem.W.Frag} {fl:IT.Env->M (List D)} {m:Bool} {σ:St} {H:Hp} {Q:VK} (q:tE K (λσ=>bnd (fl σ) λxs=>if m then alloc xs else ok (.d (.lst xs))) σ H Q):tLs K fl σ H Q:=by
 obtain ⟨μ,h,env,R0,re,r,h',e,k⟩:=q
 simp only [zae] at e
 obtain ⟨xs,h1,e1,e2⟩:=e
 refine ⟨μ,h,env,R0,re,xs,h1,e1,λμ1 H1 a vs s1 R1 q1 ha=>?_⟩
 cases m with
 | true=>
  simp only [if_true,alloc,Option.some.injEq,Prod.mk.injEq] at e2
  obtain ⟨rfl,rfl⟩:=e2
  refine k (μ1++[a]) _ (.ref a) (s1.trans (Stp.alloc R1 ha)) (R1.alloc ha q1) ⟨a,?_,rfl⟩
  rw [<-R1.len]
  simp
 | false=>
  simp only [Bool.false_eq_true,if_false] at e2
  obtain ⟨rfl,rfl⟩:=zaf.mp e2
  have s2:Stp μ1 h1 H1 μ1 h1 (upd H1 a (.lst vs)):=Stp.fresh ha
  refine k μ1 _ (.ref a) (s1.trans s2) (R1.fresh ha) ?_
  simp only [RepR,RepD]
  refine ⟨a,vs,rfl,.inl ⟨λl=>?_,.inl zaD⟩,RepDs.stp s2 R1 q1⟩
  obtain ⟨ws,z,_⟩:=R1.liveAt l
  rw [ha] at z;cases z
theorem tLs.imp {K:PySem.W.Frag} {fl:IT.Env->M (List D)} {σ:St} {H:Hp} {Q Q':VK} (q:tLs K fl σ H Q) (i:∀ v H,Q v H->Q' v H):tLs K fl σ H Q':=by
 obtain ⟨μ,h,env,R0,re,xs,h',e,k⟩:=q
 exact ⟨μ,h,env,R0,re,xs,h',e,λμ' H' a vs s1 R1 q1 ha=>i _ _ (k μ' H' a vs s1 R1 q1 ha)⟩
theorem zii {K:PySem.W.Frag} {i:Nat} {v:V} {σ:St} {H:Hp} {Q:St->Hp->Prop} (q:tG K (.name i) v σ H Q):zlO i v σ H Q:=by
 obtain ⟨μ,h,env,r,env',R0,re,qr,e,k⟩:=q
 simp only [zbd,zaf] at e
 obtain ⟨rfl,_⟩:=e
 exact k _ (re.set i qr)
theorem zlt {K:PySem.W.Frag} {t:Tg} {f:IT.Env->M R} {D:Ends} {σ:St} {H:Hp} (q:tS K (λσ=>bnd (f σ) λr=>bnd (zbd t r σ) λσ'=>ok (.nx,σ')) D σ H):tE K f σ H λx H1=>tG K t x σ H1 D.nx:=by
 obtain ⟨μ,h,env,R0,re,fl,env',h',e,k⟩:=q
 simp only [zae,zaf,Prod.mk.injEq] at e
 obtain ⟨r,h1,e1,env1,h2,e2,⟨rfl,rfl⟩,rfl⟩:=e
 have:=zbs _ _ _ _ _ _ e2
 subst this
 exact ⟨μ,h,env,R0,re,r,_,e1,λμ1 H1 v s1 R1 q1=>⟨μ1,_,env,r,env1,R1,re.stp s1 R0,q1,e2,λσ' re'=>k μ1 H1 σ' s1 R1 re'⟩⟩
noncomputable def zmj:Expr->Bool
 | .BoolOp _ _ _=>true
 | _=>false
theorem zrH {Γ:Calls} {n:Nat} {C:Cst} {X:Cx} (G:Good Γ n C X) {b:Bi} {x:Str} {e:Expr} {es:List Expr} {p pos:Pos} {fs:IT.Env->M (List R)} (ho:biOn b=true) (hx:x=biS b) (hg:Gl X x) (ha:IA X (e::es) fs)
  (he:starEach (e::es) X.env=(false,eval e X.env)::starEach es X.env) (hpl:(backTo pos (starEach es X.env)).any (·.1)=false):IE X (.Call (.Name x p) (e::es) [] pos) (λσ=>bnd (fs σ) λrs=>bnd (rds rs) λds=>bnd (opt (biD b ds)) λz=>ok (.d z)):=by
 subst hx
 cases b with
 | len=>exact PE.imp (zcR ziG hg (G.blt _ (by decide)) PySem.boot_len ha (by decide) (by decide) he hpl) λσ H Q q=>zfh q
 | sum=>simp [biOn] at ho
 | tuple=>exact PE.imp (zgk zg0 hg (G.blt _ (by decide)) PyProof.Rows.boot_tuple ha (by decide) (by decide) he hpl) λσ H Q q=>zfh q
 | all=>exact PE.imp (zcR (zes G.calm true) hg (G.blt _ (by decide)) PyProof.Rows.boot_all ha (by decide) (by decide) he hpl) λσ H Q q=>zfh q
 | any=>exact PE.imp (zcR (zes G.calm false) hg (G.blt _ (by decide)) PyProof.Rows.boot_any ha (by decide) (by decide) he hpl) λσ H Q q=>zfh q
 | max=>simp [biOn] at ho
 | min=>simp [biOn] at ho
 | int=>simp [biOn] at ho
end IT
set_option linter.all false
set_option maxHeartbeats 4000000
set_option maxRecDepth 100000
namespace IT
open PySem PySem.Spec L2
theorem zo1 {neg:Bool} {op:CmpOp} (h:inB neg op=true):op=if neg then .NotIn else .In:=by
 cases neg<;>cases op<;>first | rfl | exact noT h
theorem zaW {a:E} {C:Cst} {e:Expr} (h:chkT (.val a) C e=true):chkE a C e=true:=by
 unfold chkT at h
 rw [Bool.and_eq_true] at h
 exact h.1
theorem zaw {Γ:Calls} {a:E} {C:Cst} {e:Expr} {X:Cx} (k:IE X e (ev Γ a)) (h:chkT (.val a) C e=true) (hn:∀ l ops rs pos,e≠.Compare l ops rs pos):IT' X e (tv Γ (.val a))/\(zmj e=true->PW X e (tTv X.K (tv Γ (.val a)))):=by
 unfold chkT at h
 rw [Bool.and_eq_true,Bool.or_eq_true] at h
 have hp:zd0 e=true:=by
  rcases h.2 with z | z
  ·exact z
  ·cases e<;>first | (exact noT z) | exact absurd rfl (hn _ _ _ _)
 refine ⟨zpr k (zhY hp),λz=>?_⟩
 cases e<;>first | (exact noT z) | (first | exact noT hp | exact noF hp)
mutual
theorem okE {Γ:Calls} {n:Nat}:∀ (a:E) (C:Cst) (e:Expr) (X:Cx),chkE a C e=true->Good Γ n C X->IE X e (ev Γ a)
 | .con d,C,e,X,h,G=>by
  cases e with
  | Constant c k pos=>exact zop (d:=d) (by simpa only [chkE] using h)
  | _=>exact noT h
 | .var i,C,e,X,h,G=>by
  cases e with
  | Name x pos=>
   simp only [chkE,Bool.and_eq_true] at h
   obtain ⟨h1,h2⟩:=zfe h.2
   exact zqB (zpp (by rw [G.N];exact eq_of_beq h.1.1) (zqD G h.1.2) h1 h2)
  | _=>exact noT h
 | .bin o a b,C,e,X,h,G=>by
  cases e with
  | BinOp l op r pos=>
   simp only [chkE,Bool.and_eq_true] at h
   exact zoj (m:=mD (bop o)) (OpD.opI (opB h.1.1)) (okE a C l X h.1.2 G) (okE b C r X h.2 G)
  | _=>exact noT h
 | .neg a,C,e,X,h,G=>by
  unfold chkE at h
  split at h
  ·exact zpU (okE a C _ X h G)
  ·cases h
 | .cmp o a b,C,e,X,h,G=>by
  unfold chkE at h
  split at h
  ·simp only [Bool.and_eq_true,Bool.not_eq_true'] at h
   exact ziT (m:=mD (cop o)) (OpD.opI (coBe G.room.units h.1.1.1)) (okE a C _ X h.1.1.2 G) (okE b C _ X h.1.2 G) (zfI h.2)
  ·cases h
 | .and a b,C,e,X,h,G=>by
  unfold chkE at h
  split at h
  ·rename_i v w rest pos
   simp only [Bool.and_eq_true] at h
   cases rest with
   | nil=>exact zmg (okE a C v X h.1 G) (zl6 (okE b C w X h.2 G))
   | cons y ys=>exact zmg (okE a C v X h.1 G) (okE b C _ X h.2 G)
  ·cases h
 | .or a b,C,e,X,h,G=>by
  unfold chkE at h
  split at h
  ·rename_i v w rest pos
   simp only [Bool.and_eq_true] at h
   cases rest with
   | nil=>exact zpG (okE a C v X h.1 G) (zl6 (okE b C w X h.2 G))
   | cons y ys=>exact zpG (okE a C v X h.1 G) (okE b C _ X h.2 G)
  ·cases h
 | .not a,C,e,X,h,G=>by
  unfold chkE at h
  split at h
  ·exact zoq (okE a C _ X h G)
  ·cases h
 | .ife c a b,C,e,X,h,G=>by
  unfold chkE at h
  split at h
  ·simp only [Bool.and_eq_true] at h
   exact zpq (okT c C _ X h.1.1 G).1 (okE a C _ X h.1.2 G) (okE b C _ X h.2 G)
  ·cases h
 | .tup es,C,e,X,h,G=>by
  unfold chkE at h
  split at h
  ·simp only [Bool.and_eq_true] at h
   exact zp8 (okEs es C _ X h.1 G) (of_decide_eq_true h.2) (λσ h0 rs h' e=>by rw [zfv e];exact zcY h.1)
  ·cases h
 | .lst m l,C,e,X,h,G=>by
  cases l with
  | disp es=>exact zj9 m (okL (.disp es) C e X (by simpa only [chkE] using h) G)
  | comp tg it cs el=>exact zj9 m (zer.il G.nox G.calm (okL (.comp tg it cs el) C e X (by simpa only [chkE] using h) G))
  | spl a b=>exact zj9 m (okL (.spl a b) C e X (by simpa only [chkE] using h) G)
 | .idx a i,C,e,X,h,G=>by
  unfold chkE at h
  split at h
  ·simp only [Bool.and_eq_true,Bool.not_eq_true'] at h
   exact zph (okE a C _ X h.1.1 G) (okE i C _ X h.1.2 G) (zlJ h.2)
  ·cases h
 | .sli a lo hi,C,e,X,h,G=>by
  unfold chkE at h
  split at h
  ·rename_i x l u p2 pos
   simp only [Bool.and_eq_true] at h
   have non:∀ {z:E},zdQ z=true->PO X none (tO X.K (ev Γ z)):=by
    intro z hz
    unfold zdQ at hz
    split at hz
    ·exact zmA
    ·cases hz
   have hl:PO X l (tO X.K (ev Γ lo)):=by
    cases l with
    | none=>exact non h.1.2
    | some y=>exact ziA (okE lo C y X h.1.2 G)
   have hu:PO X u (tO X.K (ev Γ hi)):=by
    cases u with
    | none=>exact non h.2
    | some y=>exact ziA (okE hi C y X h.2 G)
   exact zqu (okE a C x X h.1.1 G) hl hu
  ·cases h
 | .call f es,C,e,X,h,G=>by
  unfold chkE at h
  split at h
  ·rename_i x p v vs pos
   simp only [Bool.and_eq_true] at h
   have st:=zbG h.2
   cases hp:C.fns[f]? with
   | none=>rw [hp] at h;simp at h
   | some q=>
    rw [hp] at h
    have hx:=eq_of_beq h.1.1.1
    subst hx
    exact znt (G.funs f q hp) G.room (zeY G h.1.1.2) (okEs es C _ X h.2 G) (λσ h0 rs h' e=>by rw [zfv e];exact zcY h.2) (zfe h.1.2).1 (zaO (st v (by simp))) (zcp λy hy=>st y (by simp [hy]))
  ·cases h
 | .bi b es,C,e,X,h,G=>by
  unfold chkE at h
  split at h
  ·rename_i x p v vs pos
   simp only [Bool.and_eq_true] at h
   have st:=zbG h.2
   exact zrH G h.1.1.1 (eq_of_beq h.1.1.2) (zeY G h.1.2) (okEs es C _ X h.2 G) (zaO (st v (by simp))) (zcp λy hy=>st y (by simp [hy]))
  ·cases h
 | .me m o es,C,e,X,h,G=>by
  unfold chkE at h
  split at h
  ·rename_i ov name apos v vs cpos
   simp only [Bool.and_eq_true] at h
   obtain ⟨⟨⟨⟨⟨⟨h0,h1⟩,h2⟩,h3⟩,h4⟩,h5⟩,h6⟩:=h
   have st:=zbG h4
   have h7:(v::vs).length<20:=of_decide_eq_true h6
   have few:((backTo cpos (starEach (v::vs) X.env)).all (λx=>!x.1)&&(backToKw cpos (keywordEach [] X.env)).all (λx=>x.1.isSome)&&decide ((v::vs).length+([]:List Keyword).length+(if ([]:List Keyword).isEmpty then 0 else 1)<30))=true:=by
    rw [zcZ st]
    simp only [List.length_nil,List.isEmpty_nil,if_true,Bool.true_and,Bool.and_eq_true]
    exact ⟨rfl,decide_eq_true (by omega)⟩
   cases m with
   | append=>exact zi0 (okE o C ov X h3 G) (okEs es C _ X h4 G) (eq_of_beq h1) (zgm h2) few h5 (zaO (st v (by simp))) (zcp λy hy=>st y (by simp [hy]))
   | extend=>exact ziE (okE o C ov X h3 G) (okEs es C _ X h4 G) (eq_of_beq h1) (zgm h2) few h5 (zaO (st v (by simp))) (zcp λy hy=>st y (by simp [hy]))
   | popAt=>simp [meOn] at h0
   | pop=>exact noT h0.1
   | clear=>exact noT h0.1
  ·rename_i ov name apos cpos
   simp only [Bool.and_eq_true] at h
   obtain ⟨⟨⟨⟨⟨h0,h1⟩,h2⟩,h3⟩,h4⟩,h5⟩:=h
   cases es with
   | cons _ _=>simp [chkEs] at h4
   | nil=>
    cases m with
    | append=>exact noT h0.1
    | popAt=>exact noT h0.1
    | extend=>exact noT h0.1
    | pop=>simp [meOn] at h0
    | clear=>simp [meOn] at h0
  ·cases h
 | .glo d,C,e,X,h,G=>by
  unfold chkE at h
  split at h
  ·rename_i x pos
   simp only [Bool.and_eq_true] at h
   obtain ⟨⟨h1,h2⟩,h3⟩:=h
   cases hd:C.globs.lookup x with
   | none=>rw [hd] at h1;cases h1
   | some d'=>
    rw [hd] at h1
    have e:=D.same_eq _ _ h1
    subst e
    obtain ⟨u,v,e1,e2,e3⟩:=G.glob x d hd
    exact zgB (znm (zeY G h2) e1 e2 (zfe h3).1) e3
  ·cases h
 | .lset a,C,e,X,h,G=>by
  unfold chkE at h
  split at h
  ·simp only [Bool.and_eq_true] at h
   obtain ⟨⟨⟨⟨⟨h1,h2⟩,h3⟩,h4⟩,h5⟩,h6⟩:=h
   have hx:=eq_of_beq h1
   have hy:=eq_of_beq h3
   subst hx hy
   exact zmH G.calm (zeY G h2) (G.blt _ (by decide)) (zeY G h4) (G.blt _ (by decide)) (okE a C _ X h6 G) (zaO h5) rfl
  ·cases h
 | .isi t a,C,e,X,h,G=>by
  unfold chkE at h
  split at h
  ·rename_i x p v y p2 pos
   simp only [Bool.and_eq_true] at h
   obtain ⟨⟨⟨⟨⟨h1,h2⟩,h3⟩,h4⟩,h5⟩,h6⟩:=h
   have hx:=eq_of_beq h1
   subst hx
   have hy:=eq_of_beq h5
   have hb:y∈zc2:=by rw [hy];cases t<;>decide
   exact zpn (zeY G h2) (G.blt _ (by decide)) (okE a C v X h4 G) hy (zeY G h6) (G.blt _ hb) (by rw [zaO h3];rfl)
  ·cases h
 | .tm m o es,C,e,X,h,G=>by
  unfold chkE at h
  split at h
  ·rename_i ov name apos v vs cpos
   simp only [Bool.and_eq_true] at h
   obtain ⟨⟨⟨⟨⟨h1,h2⟩,h3⟩,h4⟩,h5⟩,h6⟩:=h
   have st:=zbG h4
   have hl:=of_decide_eq_true h6
   have few:((backTo cpos (starEach (v::vs) X.env)).all (λx=>!x.1)&&(backToKw cpos (keywordEach [] X.env)).all (λx=>x.1.isSome)
     && decide ((v::vs).length+([]:List Keyword).length+(if ([]:List Keyword).isEmpty then 0 else 1)<30))=true:=by
    rw [zcZ st]
    simp only [List.length_nil,List.isEmpty_nil,if_true,Bool.true_and,Bool.and_eq_true]
    exact ⟨rfl,decide_eq_true (by omega)⟩
   exact zrL (okE o C ov X h3 G) (okEs es C _ X h4 G) (eq_of_beq h1) (zfy h2) few h5 (zaO (st v (by simp))) (zcp λy hy=>st y (by simp [hy]))
  ·cases h
 | .lm m o a,C,e,X,h,G=>by
  unfold chkE at h
  split at h
  ·rename_i ov name apos v cpos
   simp only [Bool.and_eq_true] at h
   obtain ⟨⟨⟨⟨⟨h1,h2⟩,h3⟩,h4⟩,h5⟩,h6⟩:=h
   have st:∀ y∈[v],zaX y=true:=by intro y hy;simp at hy;rw [hy];exact h4
   have few:((backTo cpos (starEach [v] X.env)).all (λx=>!x.1)&&(backToKw cpos (keywordEach [] X.env)).all (λx=>x.1.isSome)
     && decide ([v].length+([]:List Keyword).length+(if ([]:List Keyword).isEmpty then 0 else 1)<30))=true:=by
    rw [zcZ st]
    simp only [List.length_nil,List.isEmpty_nil,if_true,Bool.true_and,Bool.and_eq_true]
    exact ⟨rfl,decide_eq_true (by simp)⟩
   by_cases hm:m=.countT
   ·subst hm
    exact zpg G.room.units (okE o C ov X h3 G) (okE a C v X h5 G) (eq_of_beq h1) (zfy h2) few h6 (zaO h4) rfl
   ·exact zrJ G.room.units hm (okE o C ov X h3 G) (okE a C v X h5 G) (eq_of_beq h1) (zfy h2) few h6 (zaO h4) rfl
  ·cases h
 | .dnew,C,e,X,h,G=>by
  unfold chkE at h
  split at h
  ·exact zng
  ·cases h
 | .din neg k d,C,e,X,h,G=>by
  unfold chkE at h
  split at h
  ·simp only [Bool.and_eq_true,Bool.not_eq_true'] at h
   exact zqm G.room.units (zo1 h.1.1.1) (okE k C _ X h.1.1.2 G) (okE d C _ X h.1.2 G) (zfI h.2)
  ·cases h
 | .stuck,C,e,X,h,G=>zk5
theorem okEs {Γ:Calls} {n:Nat}:∀ (as:List E) (C:Cst) (es:List Expr) (X:Cx),chkEs as C es=true->Good Γ n C X->IA X es (evs Γ as)
 | [],C,es,X,h,G=>by
  cases es with
  | nil=>exact zpc
  | cons _ _=>simp [chkEs] at h
 | a::as,C,es,X,h,G=>by
  cases es with
  | nil=>simp [chkEs] at h
  | cons e es=>
   simp only [chkEs,Bool.and_eq_true] at h
   exact zmu (okE a C e X h.1.2 G) (okEs as C es X h.2 G) (zaO h.1.1)
theorem okT {Γ:Calls} {n:Nat}:∀ (t:T) (C:Cst) (e:Expr) (X:Cx),chkT t C e=true->Good Γ n C X->IT' X e (tv Γ t)/\(zmj e=true->PW X e (tTv X.K (tv Γ t)))
 | .val (.cmp o a b),C,e,X,h,G=>by
  unfold chkT at h
  rw [Bool.and_eq_true] at h
  obtain ⟨h,h'⟩:=h
  unfold chkE at h
  split at h
  ·simp only [Bool.and_eq_true,Bool.not_eq_true'] at h
   exact ⟨zjQ (m:=mD (cop o)) (OpD.opI (coBe G.room.units h.1.1.1)) (okE a C _ X h.1.1.2 G) (okE b C _ X h.1.2 G) (zfI h.2) (λx y h0 r h1 e=>zq2 e),λz=>by first | exact noT z | exact noF z⟩
  ·cases h
 | .val (.con d),C,e,X,h,G=>zaw (okE (.con d) C e X (zaW h) G) h (by intro l ops rs pos z;subst z;exact noT (zaW h))
 | .val (.var i),C,e,X,h,G=>zaw (okE (.var i) C e X (zaW h) G) h (by intro l ops rs pos z;subst z;exact noT (zaW h))
 | .val (.bin o a b),C,e,X,h,G=>zaw (okE (.bin o a b) C e X (zaW h) G) h (by intro l ops rs pos z;subst z;exact noT (zaW h))
 | .val (.neg a),C,e,X,h,G=>zaw (okE (.neg a) C e X (zaW h) G) h (by intro l ops rs pos z;subst z;exact noT (zaW h))
 | .val (.and a b),C,e,X,h,G=>zaw (okE (.and a b) C e X (zaW h) G) h (by intro l ops rs pos z;subst z;exact noT (zaW h))
 | .val (.or a b),C,e,X,h,G=>zaw (okE (.or a b) C e X (zaW h) G) h (by intro l ops rs pos z;subst z;exact noT (zaW h))
 | .val (.not a),C,e,X,h,G=>zaw (okE (.not a) C e X (zaW h) G) h (by intro l ops rs pos z;subst z;exact noT (zaW h))
 | .val (.ife c a b),C,e,X,h,G=>zaw (okE (.ife c a b) C e X (zaW h) G) h (by intro l ops rs pos z;subst z;exact noT (zaW h))
 | .val (.tup es),C,e,X,h,G=>zaw (okE (.tup es) C e X (zaW h) G) h (by intro l ops rs pos z;subst z;exact noT (zaW h))
 | .val (.idx a i),C,e,X,h,G=>zaw (okE (.idx a i) C e X (zaW h) G) h (by intro l ops rs pos z;subst z;exact noT (zaW h))
 | .val (.sli a lo hi),C,e,X,h,G=>zaw (okE (.sli a lo hi) C e X (zaW h) G) h (by intro l ops rs pos z;subst z;exact noT (zaW h))
 | .val (.call f es),C,e,X,h,G=>zaw (okE (.call f es) C e X (zaW h) G) h (by intro l ops rs pos z;subst z;exact noT (zaW h))
 | .val (.bi b es),C,e,X,h,G=>zaw (okE (.bi b es) C e X (zaW h) G) h (by intro l ops rs pos z;subst z;exact noT (zaW h))
 | .val (.lst m l),C,e,X,h,G=>zaw (okE (.lst m l) C e X (zaW h) G) h (by intro _ ops rs pos z;subst z;cases l<;>simp [chkT,chkE,chkL] at h)
 | .val (.me m o es),C,e,X,h,G=>zaw (okE (.me m o es) C e X (zaW h) G) h (by intro l ops rs pos z;subst z;exact noT (zaW h))
 | .val (.glo d),C,e,X,h,G=>zaw (okE (.glo d) C e X (zaW h) G) h (by intro l ops rs pos z;subst z;exact noT (zaW h))
 | .val (.isi t a),C,e,X,h,G=>zaw (okE (.isi t a) C e X (zaW h) G) h (by intro l ops rs pos z;subst z;exact noT (zaW h))
 | .val (.lset a),C,e,X,h,G=>zaw (okE (.lset a) C e X (zaW h) G) h (by intro l ops rs pos z;subst z;exact noT (zaW h))
 | .val (.tm m o es),C,e,X,h,G=>zaw (okE (.tm m o es) C e X (zaW h) G) h (by intro l ops rs pos z;subst z;exact noT (zaW h))
 | .val (.lm m o a),C,e,X,h,G=>zaw (okE (.lm m o a) C e X (zaW h) G) h (by intro l ops rs pos z;subst z;exact noT (zaW h))
 | .val (.din neg k d),C,e,X,h,G=>by
  unfold chkT at h
  rw [Bool.and_eq_true] at h
  obtain ⟨h,h'⟩:=h
  unfold chkE at h
  split at h
  ·simp only [Bool.and_eq_true,Bool.not_eq_true'] at h
   exact ⟨zou G.room.units (zo1 h.1.1.1) (okE k C _ X h.1.1.2 G) (okE d C _ X h.1.2 G) (zfI h.2),λz=>by first | exact noT z | exact noF z⟩
  ·cases h
 | .val (.dnew),C,e,X,h,G=>zaw (okE (.dnew) C e X (zaW h) G) h (by intro l ops rs pos z;subst z;exact noT (zaW h))
 | .val .stuck,C,e,X,h,G=>by
  refine ⟨λpins s σ H Q I q=>?_,λ_ whole pins s σ H Q I q=>?_⟩
  ·obtain ⟨μ,h,env,R0,re,t,h',e,k⟩:=q
   cases e
  ·obtain ⟨μ,h,env,R0,re,t,h',e,k⟩:=q
   cases e
 | .and a b,C,e,X,h,G=>by
  unfold chkT at h
  split at h
  ·rename_i v w rest pos
   simp only [Bool.and_eq_true] at h
   have key:PW X (.BoolOp .And (v::w::rest) pos) (tTv X.K (tv Γ (.and a b))):=by
    cases rest with
    | nil=>exact zmh (tb:=λ_ _ _=>True) (okT a C v X h.1 G).1 (znw (okT b C w X h.2 G).1)
    | cons y ys=>exact zmh (tb:=λ_ _ _=>True) (okT a C v X h.1 G).1 ((okT b C _ X h.2 G).2 rfl)
   exact ⟨key.pt,λ_=>key⟩
  ·cases h
 | .or a b,C,e,X,h,G=>by
  unfold chkT at h
  split at h
  ·rename_i v w rest pos
   simp only [Bool.and_eq_true] at h
   have key:PW X (.BoolOp .Or (v::w::rest) pos) (tTv X.K (tv Γ (.or a b))):=by
    cases rest with
    | nil=>exact zqz (okT a C v X h.1 G).1 (zp1 (okT b C w X h.2 G).1)
    | cons y ys=>exact zqz (okT a C v X h.1 G).1 ((okT b C _ X h.2 G).2 rfl)
   exact ⟨key.pt,λ_=>key⟩
  ·cases h
 | .not a,C,e,X,h,G=>by
  unfold chkT at h
  split at h
  ·exact ⟨zot (okT a C _ X h G).1,λz=>by first | exact noT z | exact noF z⟩
  ·cases h
theorem okTs {Γ:Calls} {n:Nat}:∀ (ts:List T) (C:Cst) (es:List Expr) (X:Cx),zg6 ts C es=true->Good Γ n C X->PTs X es (tTv X.K (tvs Γ ts))
 | [],C,es,X,h,G=>by
  cases es with
  | nil=>
   intro pins s σ H Q I ⟨μ,h0,env,R0,re,t,h',e,k⟩
   simp only [tvs,zaf] at e
   obtain ⟨rfl,rfl⟩:=e
   exact znI pins s σ H Q I (k μ H true Stp.refl R0 rfl)
  | cons _ _=>simp [zg6] at h
 | t :: ts,C,es,X,h,G=>by
  cases es with
  | nil=>simp [zg6] at h
  | cons e es=>
   simp only [zg6,Bool.and_eq_true] at h
   obtain ⟨⟨h1,h2⟩,h3⟩:=h
   cases es with
   | cons _ _=>simp at h3
   | nil=>
    cases ts with
    | cons _ _=>simp [zg6] at h2
    | nil=>
     intro pins s σ H Q I ⟨μ,h0,env,R0,re,t',h',e,k⟩
     simp only [tvs,zae] at e
     obtain ⟨t1,h1',e1,e2⟩:=e
     refine zmR (okT t C _ X h1 G).1 pins s σ H Q I ⟨μ,h0,env,R0,re,t1,h1',e1,λμ1 H1 b s1 R1 hb=>?_⟩
     subst hb
     cases t1 with
     | true=>
      simp only [if_true,zaf] at e2
      obtain ⟨rfl,rfl⟩:=e2
      exact k μ1 H1 _ s1 R1 rfl
     | false=>
      simp only [Bool.false_eq_true,if_false,zaf] at e2
      obtain ⟨rfl,rfl⟩:=e2
      exact k μ1 H1 _ s1 R1 rfl
theorem okL {Γ:Calls} {n:Nat}:∀ (l:L) (C:Cst) (e:Expr) (X:Cx),chkL l C e=true->Good Γ n C X->match l with
  | .disp es=>IL X e (evL Γ (.disp es))
  | .comp tg it cs el=>zer Γ X tg it cs el e
  | .spl a b=>IL X e (evL Γ (.spl a b))
 | .disp es,C,e,X,h,G=>by
  unfold chkL at h
  split at h
  ·simp only [Bool.and_eq_true] at h
   exact znn (okEs es C _ X h.1 G) (of_decide_eq_true h.2) (λσ h0 rs h' e=>by rw [zfv e];exact zcY h.1)
  ·cases h
 | .comp tg it cs el,C,e,X,h,G=>by
  unfold chkL at h
  split at h
  ·rename_i elt g sc pos
   obtain ⟨gt,gi,gifs,ga⟩:=g
   simp only [Bool.and_eq_true,Bool.not_eq_true'] at h
   obtain ⟨⟨⟨⟨⟨⟨h1,h2⟩,h3⟩,h4,h4'⟩,h5⟩,h6⟩,h7⟩:=h
   have ea:ga=0:=by simpa using h1
   subst ea
   refine ⟨elt,gt,gi,gifs,sc,pos,(blkC C sc (zds tg gt)).N,rfl,znp G h3,okI it C gi X h5 G gt h4',λcl pins s₂ H₂ Cc fp=>?_,zkj h2⟩
   have G':=G.blk h3 cl pins s₂ H₂ Cc fp
   exact ⟨zoU G' tg gt h4,okTs cs _ gifs _ h6 G',okE el _ elt _ h7 G'⟩
  ·cases h
 | .spl a b,C,e,X,h,G=>by
  unfold chkL at h
  split at h
  ·rename_i ov name apos v cpos
   simp only [Bool.and_eq_true] at h
   obtain ⟨⟨⟨⟨⟨h1,h2⟩,h3⟩,h4⟩,h5⟩,h6⟩:=h
   have st:∀ y∈[v],zaX y=true:=by intro y hy;simp at hy;rw [hy];exact h4
   have few:((backTo cpos (starEach [v] X.env)).all (λx=>!x.1)&&(backToKw cpos (keywordEach [] X.env)).all (λx=>x.1.isSome)
     && decide ([v].length+([]:List Keyword).length+(if ([]:List Keyword).isEmpty then 0 else 1)<30))=true:=by
    rw [zcZ st]
    simp only [List.length_nil,List.isEmpty_nil,if_true,Bool.true_and,Bool.and_eq_true]
    exact ⟨rfl,decide_eq_true (by simp)⟩
   exact zo5 (okE a C ov X h3 G) (okE b C v X h5 G) (eq_of_beq h1) (zfy h2) few h6 (zaO h4) rfl
  ·cases h
theorem okI {Γ:Calls} {n:Nat}:∀ (it:I) (C:Cst) (e:Expr) (X:Cx),chkI it C e=true->Good Γ n C X->∀ tg,enuB it tg=true->PI X tg e (tI X.K (evI Γ it))
 | .seq a,C,e,X,h,G,tg,_=>zqb (okE a C e X (by simpa only [chkI] using h) G)
 | .dic a,C,e,X,h,G,tg,_=>zoC (okE a C e X (by simpa only [chkI] using h) G)
 | .enk k0 a,C,e,X,h,G,tg,ht=>by
  unfold chkI at h
  split at h
  ·simp only [Bool.and_eq_true] at h
   obtain ⟨⟨⟨⟨⟨⟨h1,h2⟩,h3⟩,h4⟩,h5⟩,h6⟩,h7⟩:=h
   have hx:=eq_of_beq h1
   have hy:=eq_of_beq h2
   have hz:=eq_of_beq h3
   subst hx hy hz
   cases tg with
   | Tuple es k tp=>exact zoG (of_decide_eq_true h4) (zeY G h5) (G.blt _ (by decide)) (okE a C _ X h7 G) (zaO h6)
   | _=>first | exact noT ht | exact noF ht
  ·cases h
 | .rng a,C,e,X,h,G,tg,_=>by
  unfold chkI at h
  split at h
  ·rename_i x p v pos
   simp only [Bool.and_eq_true] at h
   have hx:=eq_of_beq h.1.1.1
   subst hx
   exact zpA (zeY G h.1.1.2) (G.blt _ (by decide)) (okE a C v X h.2 G) (zaO h.1.2)
  ·cases h
end
end IT
set_option linter.all false
set_option maxHeartbeats 4000000
set_option maxRecDepth 100000
namespace IT
open PySem PySem.Spec L2
theorem zlK {Γ:Calls} {n:Nat} {C:Cst} {X:Cx} (G:Good Γ n C X) {tg:Tg} {a:E} {t v:Expr} {pos:Pos} (h1:zcz C tg t=true) (h3:chkE a C v=true) (h2:zaX t=true) (h4:(zdh t&&zdh v)=false) (hc:zdB v=true) (hn:zf3 t=true) (hO:zl2 a=false) :
  PS X (.Assign [t] v pos) (tS X.K λσ=>bnd (ev Γ a σ) λr=>bnd (zbd tg r σ) λσ'=>ok (.nx,σ')):=by
 have g:=okTg G tg t h1
 cases t with
 | Name y py=>
  cases tg with
  | tup ts=>simp [zcz] at h1
  | name iy=>
   cases v with
   | ListComp elt gens sc cpos=>
    have hb:∃ b,swapsWith (.ListComp elt gens sc cpos) (some (.Name y py)) pos.line X.env=pure b:=⟨_,rfl⟩
    obtain ⟨b,hb⟩:=hb
    cases b with
    | false=>exact zmb (okE a C _ X h3 G) g hb (zdb h4) (zfo h2)
    | true=>
     cases a with
     | lst m l=>
      cases l with
      | disp es=>simp [chkE,chkL] at h3
      | spl a b=>simp [chkE,chkL] at h3
      | comp tg2 it cs el=>
       obtain ⟨elt',gt,gi,gifs,sc',pos',N',e,ok,hi,hB,hs⟩:=okL (Γ:=Γ) (n:=n) (.comp tg2 it cs el) C _ X (by simpa only [chkE] using h3) G
       cases e
       simp only [zcz,Bool.and_eq_true] at h1
       obtain ⟨l1,l2⟩:=zmr G h1.2
       refine PS.imp (zhg G.nox G.calm ok hi hB hs hb (zkl G.nd (by rw [G.N];exact eq_of_beq h1.1) l1 l2)) λD σ H q=>?_
       have q1:=zlt q
       have q2:=zle (fl:=evL Γ (.comp tg2 it cs el)) (m:=m) q1
       exact zer.read (q2.imp λv H1 z=>zii z)
     | me m o es=>simp [chkE] at h3
     | stuck=>exact λpins s σ H D I ⟨μ,h,env,R0,re,fl,env',h',e,k⟩=>by cases e
     | _=>simp [chkE] at h3
   | SetComp _ _ _ _=>
    cases a with
    | lst m l=>cases l<;>simp [chkE,chkL] at h3
    | me m o es=>simp [chkE] at h3
    | stuck=>exact λpins s σ H D I ⟨μ,h,env,R0,re,fl,env',h',e,k⟩=>by cases e
    | _=>simp [chkE] at h3
   | DictComp _ _ _ _ _=>
    cases a with
    | lst m l=>cases l<;>simp [chkE,chkL] at h3
    | me m o es=>simp [chkE] at h3
    | stuck=>exact λpins s σ H D I ⟨μ,h,env,R0,re,fl,env',h',e,k⟩=>by cases e
    | _=>simp [chkE] at h3
   | _=>first | exact noT hc | exact noF hc
 | _=>first | exact noT hn | exact noF hn
mutual
theorem okS {Γ:Calls} {n:Nat}:∀ (s:S) (C:Cst) (st:Stmt) (X:Cx),chkS s C st=true->Good Γ n C X->PS X st (tS X.K (ex Γ s))
 | .asg tg a,C,st,X,h,G=>by
  unfold chkS at h
  split at h
  ·rename_i t v pos
   simp only [Bool.and_eq_true,Bool.not_eq_true',Bool.or_eq_true] at h
   obtain ⟨⟨⟨⟨h1,h2⟩,h3⟩,h4⟩,h5⟩:=h
   rcases h5 with h5 | h5
   ·exact zmb (okE a C v X h3 G) (okTg G tg t h1) (zgS h5) (zdb h4) (zfo h2)
   ·exact zlK G h1 h3 h2 h4 h5.1.1 h5.1.2 h5.2
  ·cases h
 | .setI o i a,C,st,X,h,G=>by
  unfold chkS at h
  split at h
  ·rename_i ov iv p2 v pos
   simp only [Bool.and_eq_true,Bool.not_eq_true'] at h
   obtain ⟨⟨⟨⟨h1,h2⟩,h3⟩,h4⟩,h5⟩:=h
   exact znY (okE a C v X h1 G) (okE o C ov X h2 G) (okE i C iv X h3 G) (ziP h5) (zgS h4) (zdb (by rfl)) (zfo rfl)
  ·cases h
 | .exp a,C,st,X,h,G=>by
  unfold chkS at h
  split at h
  ·simp only [Bool.and_eq_true,Bool.not_eq_true'] at h
   exact zoI (okE a C _ X h.1 G) (zlu h.2)
  ·cases h
 | .ife c a b,C,st,X,h,G=>by
  unfold chkS at h
  split at h
  ·simp only [Bool.and_eq_true] at h
   exact zrA (okT c C _ X h.1.1 G).1 (okSs a C _ X h.1.2 G) (okSs b C _ X h.2 G)
  ·cases h
 | .for tg it body,C,st,X,h,G=>by
  unfold chkS at h
  split at h
  ·simp only [Bool.and_eq_true,Bool.not_eq_true'] at h
   obtain ⟨⟨⟨⟨h1,h1'⟩,h2⟩,h3⟩,h4⟩:=h
   exact zqd (by rw [G.nox];exact PassesOwn.never) G.calm (okI it C _ X h2 G _ h1') (zoU G tg _ h1) (okSs body C _ X h3 G) (zkj h4) (λσ h w h' e=>zjP e)
  ·cases h
 | .ret a,C,st,X,h,G=>by
  unfold chkS at h
  split at h
  ·exact zoS (okE a C _ X h G)
  ·cases h
 | .brk,C,st,X,h,G=>by simp [chkS] at h
 | .cnt,C,st,X,h,G=>by simp [chkS] at h
 | .setD o i a,C,st,X,h,G=>by
  unfold chkS at h
  split at h
  ·rename_i ov iv p2 v pos
   simp only [Bool.and_eq_true,Bool.not_eq_true'] at h
   obtain ⟨⟨⟨⟨h1,h2⟩,h3⟩,h4⟩,h5⟩:=h
   exact znJ G.room.units (okE a C v X h1 G) (okE o C ov X h2 G) (okE i C iv X h3 G) (ziP h5) (zgS h4) (zdb (by rfl)) (zfo rfl)
  ·cases h
 | .stuck,C,st,X,h,G=>zlr
theorem okSs {Γ:Calls} {n:Nat}:∀ (ss:List S) (C:Cst) (sts:List Stmt) (X:Cx),chkSs ss C sts=true->Good Γ n C X->PSs X sts (tS X.K (exs Γ ss))
 | [],C,sts,X,h,G=>by
  cases sts with
  | nil=>exact zmC
  | cons _ _=>simp [chkSs] at h
 | s::ss,C,sts,X,h,G=>by
  cases sts with
  | nil=>simp [chkSs] at h
  | cons st sts=>
   simp only [chkSs,Bool.and_eq_true] at h
   exact zkA (okS s C st X h.1 G) (okSs ss C sts X h.2 G)
end
end IT
set_option linter.all false
set_option maxHeartbeats 4000000
set_option maxRecDepth 100000
namespace IT
open PySem PySem.Spec L2
section
variable {K:PySem.W.Frag} {μ μ':List Addr} {h h':Sto} {H H':Hp}
theorem RepDs.less {A A':Addr->Prop} (i:∀ a,A' a->A a) {x:List D} {v:List V} (q:RepDs K A H x v):RepDs K A' H x v:=RepDs.mono (λ_ _ z=>z) (λ_ _ n z=>⟨λl=>n (i _ l),z⟩) x v q
theorem RepD.less {A A':Addr->Prop} (i:∀ a,A' a->A a) {x:D} {v:V} (q:RepD K A H x v):RepD K A' H x v:=RepD.mono (λ_ _ z=>z) (λ_ _ n z=>⟨λl=>n (i _ l),z⟩) x v q
theorem zdN (st:Stp μ h H μ' h' H') (R0:Rep K μ h H):μ'.take h.length=μ:=by
 have hl:=R0.len
 refine List.ext_getElem? λi=>?_
 by_cases hi:i<μ.length
 ·rw [List.getElem?_take_of_lt (by omega),st.pre i μ[i] (List.getElem?_eq_getElem hi),List.getElem?_eq_getElem hi]
 ·rw [List.getElem?_eq_none (by simp;omega),List.getElem?_eq_none (by omega)]
theorem zgf {n:Nat}:∀ a,Live (μ'.take n) (h'.take n) a->Live μ' h' a:=by
 rintro a ⟨i,o,e1,e2,e3⟩
 have hi:i<n:=by
  have:=(List.getElem?_eq_some_iff.mp e1).1
  simp at this
  omega
 rw [List.getElem?_take_of_lt hi] at e1 e2
 exact ⟨i,o,e1,e2,e3⟩
noncomputable def R.locs:R->List Nat
 | .d _=>[]
 | .loc l=>[l]
noncomputable def Ob.locs:Ob->List Nat
 | .lst _=>[]
 | .fro _=>[]
 | .ols ls=>ls
 | .dic _=>[]
 | .dfr _=>[]
 | .ins _ fs=>(fs.map λp=>R.locs p.2).flatten
theorem zdk {α β:Type} {F:α->β->Prop}:∀ {xs:List α} {ys:List β} {x:α},Paired F xs ys->x∈xs->∃ y,F x y
 | _,_,_,.nil,h=>by simp at h
 | _,_,x,.cons r t,h=>by
  rcases List.mem_cons.mp h with rfl | h
  ·exact ⟨_,r⟩
  ·exact zdk t h
theorem zcc {α β:Type} {F G:α->β->Prop}:∀ {xs:List α} {ys:List β},Paired F xs ys->(∀ x∈xs,∀ y,F x y->G x y)->Paired G xs ys
 | _,_,.nil,_=>.nil
 | _,_,.cons r t,f=>.cons (f _ (by simp) _ r) (zcc t λx hx=>f x (by simp [hx]))
theorem ziZ {a:Addr} {o:Ob} (q:RepO K μ h H a o):∀ l∈o.locs,l<μ.length:=by
 intro l hl
 cases o with
 | lst _=>simp [Ob.locs] at hl
 | fro _=>simp [Ob.locs] at hl
 | dic _=>simp [Ob.locs] at hl
 | dfr _=>simp [Ob.locs] at hl
 | ols ls=>
  obtain ⟨vs,_,z⟩:=q
  obtain ⟨v,b,eb,_⟩:=zdk z hl
  exact (List.getElem?_eq_some_iff.mp eb).1
 | ins c fs=>
  obtain ⟨C,dx,fs',_,_,z⟩:=q
  simp only [Ob.locs,List.mem_flatten,List.mem_map] at hl
  obtain ⟨_,⟨p,hp,rfl⟩,hl⟩:=hl
  obtain ⟨q',_,qr⟩:=zdk z hp
  cases hr:p.2 with
  | d x=>rw [hr] at hl;simp [R.locs] at hl
  | loc k=>
   rw [hr] at hl qr
   simp [R.locs] at hl
   subst hl
   obtain ⟨b,eb,_⟩:=qr
   exact (List.getElem?_eq_some_iff.mp eb).1
theorem zgs {μ2:List Addr} {h2:Sto} {a:Addr} {o:Ob} (q:RepO K μ' h' H' a o) (lv:∀ b,Live μ2 h2 b->Live μ' h' b) (cl:∀ l∈o.locs,∀ b,μ'[l]?=some b->μ2[l]?=some b):RepO K μ2 h2 H' a o:=by
 cases o with
 | lst xs=>obtain ⟨vs,e,z⟩:=q;exact ⟨vs,e,z.less lv⟩
 | fro xs=>obtain ⟨vs,e,z⟩:=q;exact ⟨vs,e,z.less lv⟩
 | dic kvs=>obtain ⟨xs,e,z⟩:=q;exact ⟨xs,e,zcc z λp _ r y=>⟨y.1,⟨y.2.1.1,RepD.less lv y.2.1.2⟩,RepD.less lv y.2.2⟩⟩
 | dfr kvs=>obtain ⟨ob,xs,e,z⟩:=q;exact ⟨ob,xs,e,zcc z λp _ r y=>⟨y.1,⟨y.2.1.1,RepD.less lv y.2.1.2⟩,RepD.less lv y.2.2⟩⟩
 | ols ls=>obtain ⟨vs,e,z⟩:=q;exact ⟨vs,e,zcc z λl hl v ⟨b,eb,ev⟩=>⟨b,cl l hl b eb,ev⟩⟩
 | ins c fs=>
  obtain ⟨C,dx,fs',hC,e,z⟩:=q
  refine ⟨C,dx,fs',hC,e,zcc z λp hp q' ⟨e1,qr⟩=>⟨e1,?_⟩⟩
  cases hr:p.2 with
  | d x=>rw [hr] at qr;exact RepD.less lv qr
  | loc k=>
   rw [hr] at qr
   obtain ⟨b,eb,ev⟩:=qr
   refine ⟨b,cl k ?_ b eb,ev⟩
   simp only [Ob.locs,List.mem_flatten,List.mem_map]
   exact ⟨_,⟨p,hp,rfl⟩,by rw [hr];simp [R.locs]⟩
theorem R.same_eq {x y:R} (e:x.same y=true):x=y:=by
 cases x with
 | d x=>
  cases y with
  | d y=>rw [D.same_eq x y e]
  | loc _=>cases e
 | loc l=>
  cases y with
  | d _=>cases e
  | loc k=>simp only [R.same] at e;rw [eq_of_beq e]
theorem zgG:∀ {fs gs:List (Str×R)},zdd fs gs=true->fs=gs
  | [],[],_=>rfl
  | [],_::_,e=>by simp [zdd] at e
  | (f,x)::r,[],e=>by simp [zdd] at e
  | (f,x)::r,(g,y)::t,e=>by
    simp only [zdd,Bool.and_eq_true] at e
    obtain ⟨⟨e1,e2⟩,e3⟩:=e
    rw [eq_of_beq e1,R.same_eq e2,zgG e3]
theorem zgE:∀ {h h1:Sto} {i:Nat} {o1:Ob},objs h h1=true->h1[i]?=some o1->i<h.length->∃ o,h[i]?=some o/\o1.locs=o.locs
 | [],_,_,_,_,_,hi=>by simp at hi
 | o::h,[],_,_,e,_,_=>by simp [objs] at e
 | o::h,o1::t,0,x,e,ex,_=>by
  simp only [List.getElem?_cons_zero,Option.some.injEq] at ex
  subst ex
  refine ⟨o,rfl,?_⟩
  simp only [objs,Bool.and_eq_true] at e
  have e:=e.1
  cases o<;>cases o1<;>simp only [Bool.false_eq_true] at e<;>try rfl
  ·simp only [Bool.and_eq_true] at e
   rw [zgG e.2]
   rfl
  ·simp only [Ob.locs]
   rw [eq_of_beq e]
 | o::h,o1::t,i+1,x,e,ex,hi=>by
  simp only [objs,Bool.and_eq_true] at e
  obtain ⟨o',e1,e2⟩:=zgE (i:=i) e.2 (by simpa using ex) (by simpa using hi)
  exact ⟨o',by simpa using e1,e2⟩
theorem zlm (st:Stp μ h H μ' h' H') (R0:Rep K μ h H) (R1:Rep K μ' h' H'):Stp μ h H μ (h'.take h.length) H':=by
 refine ⟨λ_ _ e=>e,st.keep,λa l=>st.live a (zgf (n:=h.length) a ?_)⟩
 rw [zdN st R0]
 exact l
theorem zmG {keep:Bool} {r r2:R} {v:V} {h2:Sto} (st:Stp μ h H μ' h' H') (R0:Rep K μ h H) (R1:Rep K μ' h' H') (ob:objs h h'=true) (q:RepR K μ' h' H' r v) (e:fin0 h.length keep r h'=some (r2,h2)) :
  ∃ μ2,Stp μ h H μ2 h2 H'/\Rep K μ2 h2 H'/\RepR K μ2 h2 H' r2 v:=by
 have st1:=zlm st R0 R1
 have lv:∀ a,Live μ (h'.take h.length) a->Live μ' h' a:=λa l=>zgf (n:=h.length) a (by rw [zdN st R0];exact l)
 have hlen:=R0.len
 have at1:∀ (l:Nat) (b:Addr),l<h.length->μ'[l]?=some b->μ[l]?=some b:=λl b hl eb=>by
  rw [<-zdN st R0,List.getElem?_take_of_lt hl];exact eb
 have small:∀ (i:Nat) (o:Ob),i<h.length->h'[i]?=some o->∀ l∈o.locs,l<h.length:=by
  intro i o hi ho l hl
  obtain ⟨o0,e0,el⟩:=zgE ob ho hi
  rw [el] at hl
  have hi':i<μ.length:=by omega
  have:=ziZ (R0.obj i μ[i] o0 (List.getElem?_eq_getElem hi') e0) l hl
  omega
 have R2:Rep K μ (h'.take h.length) H':=by
  have hl':(h'.take h.length).length=h.length:=by
   have:=R1.len
   have h3:μ.length<=μ'.length:=by rw [<-zdN st R0,List.length_take];exact Nat.min_le_right _ _
   simp;omega
  refine ⟨by rw [hl'];exact hlen,R0.nd,λi a o e1 e2=>?_⟩
  have hi:i<h.length:=by rw [<-hlen];exact (List.getElem?_eq_some_iff.mp e1).1
  rw [List.getElem?_take_of_lt hi] at e2
  exact zgs (R1.obj i a o (st.pre i a e1) e2) lv λl hl b eb=>at1 l b (small i o hi e2 l hl) eb
 cases r with
 | d x=>
  simp only [fin0,Option.some.injEq,Prod.mk.injEq] at e
  obtain ⟨rfl,rfl⟩:=e
  exact ⟨μ,st1,R2,RepD.less lv q⟩
 | loc l =>
  obtain ⟨a,ea,rfl⟩:=q
  simp only [fin0] at e
  by_cases hl:l<h.length
  ·rw [if_pos hl] at e
   simp only [Option.some.injEq,Prod.mk.injEq] at e
   obtain ⟨rfl,rfl⟩:=e
   exact ⟨μ,st1,R2,a,at1 l a hl ea,rfl⟩
  ·rw [if_neg hl] at e
   obtain ⟨o,ho⟩:=R1.placeO ea
   rw [ho] at e
   have apart:a ∉ μ:=by
    intro hm
    obtain ⟨i,hi,ei⟩:=List.getElem_of_mem hm
    have:=zff R1.nd (st.pre i a (by rw [List.getElem?_eq_getElem hi,ei])) ea
    omega
   have data:∀ xs,o.isL=true->o.items=xs->∃ μ2,Stp μ h H μ2 (h'.take h.length) H'/\Rep K μ2 (h'.take h.length) H'/\RepR K μ2 (h'.take h.length) H' (.d (.lst xs)) (.ref a):=by
    rintro xs il rfl
    obtain ⟨vs,hH,z⟩:=R1.placeL ea ho il
    refine ⟨μ,st1,R2,?_⟩
    simp only [RepR,RepD]
    refine ⟨a,vs,rfl,.inl ⟨?_,.inl hH⟩,z.less lv⟩
    rintro ⟨i,ys,e1,e2,_⟩
    exact apart (List.mem_of_getElem? e1)
   cases o with
   | ins _ _=>cases e
   | ols _=>cases e
   | dic _=>cases e
   | dfr _=>cases e
   | fro xs=>
    simp only [Option.some.injEq,Prod.mk.injEq] at e
    obtain ⟨rfl,rfl⟩:=e
    exact data xs rfl rfl
   | lst xs=>
    cases keep with
    | false=>
     simp only [Bool.false_eq_true,if_false,Option.some.injEq,Prod.mk.injEq] at e
     obtain ⟨rfl,rfl⟩:=e
     exact data xs rfl rfl
    | true=>
     simp only [if_true,Option.some.injEq,Prod.mk.injEq] at e
     obtain ⟨rfl,rfl⟩:=e
     obtain ⟨vs,hH,z⟩:=R1.placeL ea ho rfl
     have hl2:(h'.take h.length).length=μ.length:=by rw [<-R2.len]
     have lv2:∀ b,Live (μ++[a]) (h'.take h.length++[.lst xs]) b->Live μ' h' b:=by
      intro b l2
      rcases (zhA R2.len).mp l2 with w | ⟨rfl,_⟩
      ·exact lv b w
      ·exact ⟨l,_,ea,ho,rfl⟩
     refine ⟨μ++[a],⟨λi b e=>?_,st.keep,λb l2=>st.live b (lv2 b l2)⟩,⟨by simp [hl2],?_,λi b o e1 e2=>?_⟩,a,?_,rfl⟩
     ·rw [List.getElem?_append_left (List.getElem?_eq_some_iff.mp e).1];exact e
     ·rw [List.nodup_append]
      refine ⟨R0.nd,by simp,λb hb c hc=>?_⟩
      simp at hc
      subst hc
      rintro rfl
      exact apart hb
     ·by_cases hi:i<μ.length
      ·rw [List.getElem?_append_left hi] at e1
       rw [List.getElem?_append_left (by omega)] at e2
       have hi2:i<h.length:=by omega
       rw [List.getElem?_take_of_lt hi2] at e2
       refine zgs (R1.obj i b o (st.pre i b e1) e2) lv2 λk hk c ec=>?_
       have hk2:=small i o hi2 e2 k hk
       rw [List.getElem?_append_left (by omega)]
       exact at1 k c hk2 ec
      ·rw [List.getElem?_append_right (by omega)] at e1
       rw [List.getElem?_append_right (by omega)] at e2
       have hz:i-μ.length=0:=by
        cases hk:i-μ.length with
        | zero=>rfl
        | succ k=>rw [hk] at e1;simp at e1
       rw [hl2,hz] at e2
       rw [hz] at e1
       simp at e1 e2
       subst e1 e2
       exact ⟨vs,hH,z.less lv2⟩
     ·rw [hlen.symm]
      simp
theorem zl8 {all keep:Bool} {r r2:R} {v:V} {h2:Sto} (st:Stp μ h H μ' h' H') (R0:Rep K μ h H) (R1:Rep K μ' h' H') (q:RepR K μ' h' H' r v) (e:fin h all keep r h'=some (r2,h2)) :
  ∃ μ2,Stp μ h H μ2 h2 H'/\Rep K μ2 h2 H'/\RepR K μ2 h2 H' r2 v:=by
 unfold fin at e
 cases all with
 | true=>
  simp only [if_true,Option.some.injEq,Prod.mk.injEq] at e
  obtain ⟨rfl,rfl⟩:=e
  exact ⟨μ',st,R1,q⟩
 | false=>
  simp only [Bool.false_eq_true,if_false] at e
  split at e
  ·rename_i ob
   exact zmG st R0 R1 ob q e
  ·cases e
end
structure Fun2 (K:PySem.W.Frag) (x qual:Str) (st:Stmt) (f:Addr) (fd:FuncData):Prop where
 ex:∃ (oc:Value) (od:Option Addr) (dV kV doc pm:Value) (an:Option Addr) (cdv ct:Value) (osl:Array (Option Value)),
  fd=PySem.W.fnOf x qual (zad st) (zab st) (zaa st) dV kV doc pm an cdv ct/\K.lookup f=some ⟨oc,od,.func fd,osl⟩/\PySem.W.codeIn K cdv qual=true
 kp:PySem.W.keepIn K (.ref f)=true
section
variable {P:Program} {w:World} {K:PySem.W.Frag} {mg:Str->Option Value} {base:Heap}
theorem Fun2.ok {x qual:Str} {st:Stmt} {f:Addr} {fd:FuncData} {N ps:List Str} {k:Nat} {sp:Sp} (F:Fun2 K x qual st f fd) (S:zam N ps (zaa st)) (len:∀ vs H Q E,sp vs H Q E->vs.length=ps.length)
  (hbody:∀ (cdv:Value) (A:Around) (outer:List PySem.Env) (s:Shared) (H:Hp) (vs:List V) (Q:VK) (E:XK),Room k (A.deeper (PyProof.Rows.envOfC qual (zaa st) s.heap.objs.size f cdv))->sp vs H Q E →
   ∃ t,PSs (cxOf CX0 P w K mg base N qual (zaa st) f cdv A outer s H E).nox (zab st) t/\t { nx:=λ_ H'=>Q .non H',rt:=Q } (L2.start N vs) H):FnOk P w K mg base CX0 (k+1) f fd ps sp:=by
 obtain ⟨oc,od,dV,kV,doc,pm,an,cdv,ct,osl,rfl,lk,hcd⟩:=F.ex
 refine zoD lk hcd S len λA outer s H vs Q E hr hsp=>?_
 obtain ⟨t,h,q⟩:=hbody cdv A outer s H vs Q E hr hsp
 exact ⟨t,h.nox,q⟩
theorem zav {x qual:Str} {st:Stmt} {f:Addr} {oc:Value} {od an:Option Addr} {osl:Array (Option Value)} {dV kV doc pm cdv ct:Value} (l:K.lookup f=some ⟨oc,od,.func (PySem.W.fnOf x qual (zad st) (zab st) (zaa st) dV kV doc pm an cdv ct),osl⟩)
  (c:PySem.W.codeIn K cdv qual=true) (k:PySem.W.keepIn K (.ref f)=true):Fun2 K x qual st f (PySem.W.fnOf x qual (zad st) (zab st) (zaa st) dV kV doc pm an cdv ct):=⟨⟨oc,od,dV,kV,doc,pm,an,cdv,ct,osl,rfl,l,c⟩,k⟩
end
structure za8 (K:PySem.W.Frag) (fns:List (Str×Nat×List D)) (cls:List zi6) (Pr:List F) (globs:List (Str×D)) (gds:List (Str×List (List Nat×D))) (fi:Nat) (x qual:Str) (st:Stmt) (f:Addr) (fd:FuncData) (N ps:List Str) (B:F):Prop where
 at':Pr[fi]?=some B
 fn:Fun2 K x qual st f fd
 sc:zam N ps (zaa st)
 np:B.np=ps.length
 ns:B.ns=N.length
 bi:∃ dvs,(∀ A H,RepDs K A H B.dfl dvs)/\∀ j,j<=B.dfl.length->∃ ds,zaV K fd ps ds/\Vals (dvs.drop j) ds
 chk:chkSs B.body ⟨N,(zaa st).names,fns,globs,true,cls,gds⟩ (zab st)=true
structure Txt (w:World) (K:PySem.W.Frag) (mg:Str->Option Value) (fns:List (Str×Nat×List D)) (cls:List zi6) (Pr:List F) (globs:List (Str×D)) (gds:List (Str×List (List Nat×D))) (addr:Nat->Addr) (fdOf:Nat->FuncData) (psOf:Nat->List Str):Prop where
 defs:∀ fi B,Pr[fi]?=some B->∃ x qual st N,za8 K fns cls Pr globs gds fi x qual st (addr fi) (fdOf fi) N (psOf fi) B
 blt:∀ x∈zc2,mg x=none
 glob:∀ (x:Str) (d:D),globs.lookup x=some d->∃ u v,mg x=some u/\RelV v u/\∀ A H,RepD K A H d v
 gdic:∀ (x:Str) (kvs:List (List Nat×D)),gds.lookup x=some kvs->GDic K w mg x kvs
 funs:∀ fi p,fns[fi]?=some p->mg p.1=some (.ref (addr fi))/\∃ B,Pr[fi]?=some B/\B.np=p.2.1/\B.dfl=p.2.2
 makes:∀ i∈cls,∃ C B,mg i.name=some (.ref C)/\PySem.W.nsIn K mainGlobals i.name=some (some (.ref C))/\Cls K C/\Mk K C (addr i.init)/\Pr[i.init]?=some B/\B.dfl=[]
 meths:∀ i∈cls,∀ p∈i.meths,∃ C B,PySem.W.nsIn K mainGlobals i.name=some (some (.ref C))/\Cls K C/\Meth K C p.1 (addr p.2)/\Pr[p.2]?=some B/\B.dfl=[]
 attrs:∀ i∈cls,∀ f∈i.fields,∀ A,PySem.W.nsIn K mainGlobals i.name=some (some (.ref A))->zka K A f
section
variable {P:Program} {w:World} {K:PySem.W.Frag} {mg:Str->Option Value} {base:Heap} {fns:List (Str×Nat×List D)} {cls:List zi6} {Pr:List F} {globs:List (Str×D)} {gds:List (Str×List (List Nat×D))} {addr:Nat->Addr} {fdOf:Nat->FuncData} {psOf:Nat->List Str}
theorem zf1 {np:Nat} {dfl:List D} {rs:List R} (h:np<=rs.length):zbj np dfl rs=rs:=by
 rw [zdc (by omega),List.drop_eq_nil_of_le (by omega)]
 simp
theorem zkv {np:Nat} {dfl:List D} {rs:List R}:zbj np dfl (zbj np dfl rs)=zbj np dfl rs:=by
 by_cases hs:rs.length+dfl.length<np
 ·rw [zdv hs,zdv hs]
 ·refine zf1 ?_
  rw [zdc hs]
  simp only [List.length_append,List.length_map,List.length_drop]
  omega
theorem zij {m fi:Nat} {B:F} (e0:Pr[fi]?=some B) (rs:List R):zaq Pr m fi rs=zaq Pr m fi (zbj B.np B.dfl rs):=by
 cases m with
 | zero=>rfl
 | succ m=>
  funext h
  rw [zbO,zbO]
  simp only [e0]
  rw [zkv]
theorem zfX {m fi:Nat} {B:F} {rs:List R} {h:Sto} {p:R×Sto} (e0:Pr[fi]?=some B) (e:zaq Pr (m+1) fi rs h=some p):(zbj B.np B.dfl rs).length=B.np:=by
 rw [zbO] at e
 simp only [e0] at e
 split at e
 ·assumption
 ·cases e
theorem zbJ.env {μ:List Addr} {h:Sto} {H:Hp} {rs:List R} {vs:List V} (q:zbJ K μ h H rs vs) (i:Nat) (r:R) (e:(rs.map some)[i]?=some (some r)):∃ v,(vs.map some)[i]?=some (some v)/\RepR K μ h H r v:=by
 induction q generalizing i with
 | nil=>simp at e
 | @cons r' v rs vs q1 _ ih=>
  cases i with
  | zero=>simp at e;subst e;exact ⟨v,rfl,q1⟩
  | succ i=>
   simp only [List.map_cons,List.getElem?_cons_succ] at e ⊢
   exact ih i e
theorem zeI {m fi:Nat} {B:F} {rs:List R} {h:Sto} {p:R×Sto} (e0:Pr[fi]?=some B) (ed:B.dfl=[]) (e:zaq Pr m fi rs h=some p):rs.length=B.np:=by
 cases m with
 | zero=>cases e
 | succ m=>
  have:=zfX e0 e
  rw [ed] at this
  have ef:zbj B.np [] rs=rs:=by
   unfold zbj
   split
   ·rfl
   ·simp
  rwa [ef] at this
theorem zig {m fi:Nat} {B:F} {rs:List R} {h:Sto} {p:R×Sto} (e0:Pr[fi]?=some B) (e:zaq Pr m fi rs h=some p):(zbj B.np B.dfl rs).length=B.np:=by
 cases m with
 | zero=>cases e
 | succ m=>exact zfX e0 e
theorem zor {m fi:Nat} {x qual:Str} {st:Stmt} {f:Addr} {fd:FuncData} {N ps:List Str} {B:F} (T:Txt w K mg fns cls Pr globs gds addr fdOf psOf) (Dd:za8 K fns cls Pr globs gds fi x qual st f fd N ps B)
  (ih:∀ g B,Pr[g]?=some B->FnOk P w K mg base CX0 (2*m) (addr g) (fdOf g) (psOf g) (spF K (psOf g).length (zaq Pr m g))):FnOk P w K mg base CX0 (2*m+2) f fd ps (spF K ps.length (zaq Pr (m+1) fi)):=by
 refine Dd.fn.ok (k:=2*m+1) Dd.sc (λvs H Q E h=>?_) (λcdv A outer s H vs Q E hr h=>?_)
 ·exact h.1
 ·have G:Good (zaq Pr m) (2*m) ⟨N,(zaa st).names,fns,globs,true,cls,gds⟩ (cxOf CX0 P w K mg base N qual (zaa st) f cdv A outer s H E).nox:=by
   refine ⟨rfl,rfl,hr.mono (by omega),hr,Dd.sc.kind,rfl,Dd.sc.nd,rfl,λ_ _=>rfl,λg y e=>?_,T.blt,T.glob,T.gdic,λi hi=>?_,λi hi p hp=>?_,T.attrs⟩
   ·obtain ⟨e1,B',e2,e3,e4⟩:=T.funs g y e
    obtain ⟨x',q',st',N',d'⟩:=T.defs g B' e2
    obtain ⟨dvs,b1,b2⟩:=d'.bi
    rw [<-e3,<-e4]
    have:=ih g B' e2
    rw [<-d'.np] at this
    exact ⟨⟨addr g,fdOf g,psOf g,dvs,this,e1,d'.fn.kp,b1,b2⟩,zij d'.at',λrs h p e=>zig d'.at' e⟩
   ·obtain ⟨C,B',e1,e2,e3,e4,e5,e6⟩:=T.makes i hi
    obtain ⟨x',q',st',N',d'⟩:=T.defs _ B' e5
    obtain ⟨dvs,b1,b2⟩:=d'.bi
    have:=ih _ B' e5
    rw [<-d'.np] at this
    obtain ⟨ds,c1,c2⟩:=b2 0 (Nat.zero_le _)
    have hd:ds=[]:=by
     have hv:dvs=[]:=by
      have:=b1 (λ_=>False) (λ_=>none)
      rw [e6] at this
      simpa [RepDs] using this
     rw [hv] at c2
     cases c2
     rfl
    subst hd
    exact ⟨B'.np,⟨C,addr i.init,fdOf i.init,psOf i.init,e1,e2,e3,e4,this,c1⟩,λrs h p e=>zeI d'.at' e6 e⟩
   ·obtain ⟨C,B',e2,e3,e4,e5,e6⟩:=T.meths i hi p hp
    obtain ⟨x',q',st',N',d'⟩:=T.defs _ B' e5
    obtain ⟨dvs,b1,b2⟩:=d'.bi
    have:=ih _ B' e5
    rw [<-d'.np] at this
    obtain ⟨ds,c1,c2⟩:=b2 0 (Nat.zero_le _)
    have hd:ds=[]:=by
     have hv:dvs=[]:=by
      have:=b1 (λ_=>False) (λ_=>none)
      rw [e6] at this
      simpa [RepDs] using this
     rw [hv] at c2
     cases c2
     rfl
    subst hd
    exact ⟨B'.np,⟨C,addr p.2,fdOf p.2,psOf p.2,e2,e3,e4,this,c1⟩,λrs h p e=>zeI d'.at' e6 e⟩
  refine ⟨_,okSs B.body _ (zab st) _ Dd.chk G,?_⟩
  obtain ⟨hv0,μ,h0,rs,R0,qr,r,h',e,k⟩:=h
  have hl0:rs.length=B.np:=by rw [qr.length,hv0,Dd.np]
  have ef:zbj B.np B.dfl rs=rs:=zf1 (by omega)
  rw [zbO] at e
  simp only [Dd.at'] at e
  rw [ef,if_pos hl0] at e
  have hpl:ps.length<=N.length:=by have:=congrArg List.length Dd.sc.pre;rw [List.length_take] at this;omega
  have re:RepE K μ h0 H (rs.map some++List.replicate (B.ns-B.np) none) (L2.start N vs):=by
   have hv:=qr.length
   have h1:=Dd.np
   have h2:=Dd.ns
   refine ⟨?_,λi r e=>?_⟩
   ·unfold L2.start
    simp
    omega
   ·by_cases hi:i<rs.length
    ·rw [List.getElem?_append_left (by simpa using hi)] at e
     obtain ⟨v,e1,z⟩:=qr.env i r e
     refine ⟨v,?_,z⟩
     unfold L2.start
     rw [List.getElem?_append_left (by simp;omega)]
     exact e1
    ·rw [List.getElem?_append_right (by simpa using hi),List.getElem?_replicate] at e
     split at e<;>cases e
  cases eb:exs (zaq Pr m) B.body (rs.map some++List.replicate (B.ns-B.np) none) h0 with
  | none=>rw [eb] at e;cases e
  | some p=>
   obtain ⟨⟨fl,env'⟩,h1⟩:=p
   rw [eb] at e
   refine ⟨μ,h0,_,R0,re,fl,env',h1,eb,λμ' H' σ' st1 R1 _=>?_⟩
   cases fl with
   | ret r1=>
    intro v qv
    obtain ⟨μ2,st2,R2,q2⟩:=zl8 st1 R0 R1 qv e
    exact k μ2 H' v st2 R2 q2
   | nx=>
    obtain ⟨μ2,st2,R2,q2⟩:=zl8 (v:=.non) st1 R0 R1 (by simp only [RepR,RepD]) e
    exact k μ2 H' .non st2 R2 q2
   | brk=>cases e
   | cnt=>cases e
theorem zjC {fi np:Nat} {f:Addr} {fd:FuncData} {ps:List Str}:FnOk P w K mg base CX0 0 f fd ps (spF K np (zaq Pr 0 fi)):=by
 refine ⟨λvs H Q E h=>?_,λA outer s H args us vs Q E hr e0 hb r h=>?_⟩
 ·obtain ⟨_,μ,h0,rs,R0,qr,r,h',e,k⟩:=h
  cases e
 ·obtain ⟨_,μ,h0,rs,R0,qr,r,h',e,k⟩:=h
  cases e
theorem zkf (T:Txt w K mg fns cls Pr globs gds addr fdOf psOf):∀ m fi B,Pr[fi]?=some B->FnOk P w K mg base CX0 (2*m) (addr fi) (fdOf fi) (psOf fi) (spF K (psOf fi).length (zaq Pr m fi))
 | 0,fi,B,e=>zjC
 | m+1,fi,B,e=>by
  obtain ⟨x,q,st,N,d⟩:=T.defs fi B e
  exact zor T d λg B' e'=>zkf T m g B' e'
end
theorem zhF {K:PySem.W.Frag} {A:Addr->Prop} {H:Hp}:∀ ns:List Int,RepDs K A H (ns.map D.int) (ns.map V.int)
 | []=>.nil
 | n::r=>.cons (by simp only [RepD]) (zhF r)
theorem ziM {K:PySem.W.Frag} {m:List R->M R} {H:Hp} {a:Addr} {ns:List Int} {E:XK} (hS:SqL K H a (ns.map V.int)) (e:m [.d (.lst (ns.map .int))] []=some (.d (.bl true),[])):spF K 1 m [.ref a] H (λv _=>v=.bl true) E:=by
 have nl:∀ b,¬ Live [] [] b:=by
  rintro b ⟨i,xs,e1,_⟩
  simp at e1
 refine ⟨rfl,[],[],[.d (.lst (ns.map .int))],⟨rfl,by simp,λi a o e1 _=>by simp at e1⟩,.cons ?_ .nil,_,_,e,λμ' H' v st R1 q=>?_⟩
 ·simp only [RepR,RepD]
  refine ⟨a,ns.map V.int,rfl,?_,zhF ns⟩
  rcases hS with z | z
  ·exact .inl ⟨nl a,z⟩
  ·exact .inr z
 ·simpa only [RepR,RepD] using q
theorem us1 {P:List Value->Prop} (h:∀ a0,P [a0]):∀ us:List Value,us.length=1->P us
 | [a0],_=>h a0
theorem us2 {P:List Value->Prop} (h:∀ a0 a1,P [a0,a1]):∀ us:List Value,us.length=2->P us
 | [a0,a1],_=>h a0 a1
theorem us3 {P:List Value->Prop} (h:∀ a0 a1 a2,P [a0,a1,a2]):∀ us:List Value,us.length=3->P us
 | [a0,a1,a2],_=>h a0 a1 a2
theorem us4 {P:List Value->Prop} (h:∀ a0 a1 a2 a3,P [a0,a1,a2,a3]):∀ us:List Value,us.length=4->P us
 | [a0,a1,a2,a3],_=>h a0 a1 a2 a3
inductive Idx {α:Type} (Q:Nat->α->Prop):Nat->List α->Prop where
 | nil {i:Nat}:Idx Q i []
 | cons {i:Nat} {x:α} {r:List α}:Q i x->Idx Q (i+1) r->Idx Q i (x::r)
theorem Idx.get {α:Type} {Q:Nat->α->Prop}:∀ {l:List α} {i:Nat},Idx Q i l->∀ {n:Nat} {x:α},l[n]?=some x->Q (i+n) x
 | _,_,.nil,_,_,e=>by simp at e
 | _,i,.cons q r,0,_,e=>by cases e;exact q
 | _,i,.cons q r,n+1,_,e=>by
  have:=Idx.get r (n:=n) (by simpa using e)
  rwa [Nat.add_assoc,Nat.add_comm 1] at this
open PySem.W in
theorem toX {q:Program} {loose:List Str} {XP:(Str->Option Value)->Heap->Prop} {as:List Addr} {K:Params->Frag} {n t:Nat} {r:RowW} {d:DefRec} {kwd:List (Str×Expr)} {run:Value->List Value->Sem Value} (e:∀ P,as=(K P).map (·.1))
  (h:WalkO q loose XP (InK K) r d kwd run):WalkX q loose XP (X.obsZ as) (X.valZ K n t) r d kwd run:=by
 intro w s₀ s₁ mg mb G y a o pm cd doc dV kV h1 h2 h3 h4 h5 h6 args vals as' L
 exact h w s₀ s₁ mg mb G (InK.keeps w _ _ (X.z_facts e y).2.1 L.keeps) a o pm cd doc dV kV h1 h2 h3 h4 h5 h6 args vals as'
end IT
set_option linter.all false
namespace K01
open IT
/- is_word (0): 0 text,1 ?1?sign -/
noncomputable def zdX:List S:=[
 .ife (.or (.val (.cmp .lt (.bi .len [(.var 0)]) (.con (.int 1)))) (.val (.cmp .gt (.bi .len [(.var 0)]) (.glo (.int 8))))) [.ret (.con (.bl false))] [],
 .ret (.bi .all [(.lst false (.comp (.name 1) (.seq (.var 0)) [] (.cmp .isin (.var 1) (.glo (.str [97,98,99,100,101,102,103,104,105,106,107,108,109,110,111,112,113,114,115,116,117,118,119,120,121,122])))))])]
/- is_kind (1): 0 text -/
noncomputable def zem:List S:=[
 .ret (.and (.call 0 [(.var 0)]) (.cmp .notin (.var 0) (.glo (.tup [(.str [114,101,97,100]),(.str [119,114,105,116,101]),(.str [100,114,111,112])]))))]
/- are_states (2): 0 words,1 ?1?word -/
noncomputable def zcj:List S:=[
 .ife (.or (.val (.cmp .lt (.bi .len [(.var 0)]) (.con (.int 1)))) (.val (.cmp .gt (.bi .len [(.var 0)]) (.glo (.int 8))))) [.ret (.con (.bl false))] [],
 .ret (.and (.bi .all [(.lst false (.comp (.name 1) (.seq (.var 0)) [] (.call 0 [(.var 1)])))]) (.cmp .eq (.lset (.var 0)) (.bi .len [(.var 0)])))]
/- are_hands (3): 0 pairs,1 ?1?pair -/
noncomputable def zcF:List S:=[
 .ife (.not (.val (.bi .all [(.lst false (.comp (.name 1) (.seq (.var 0)) [] (.and (.cmp .eq (.bi .len [(.var 1)]) (.con (.int 2))) (.cmp .isin (.idx (.var 1) (.con (.int 1))) (.glo (.tup [(.str [110,111,110,101]),(.str [114,101,97,100]),(.str [119,114,105,116,101])]))))))]))) [.ret (.con (.bl false))] [],
 .ret (.call 2 [(.call 4 [(.var 0)])])]
/- states_of (4): 0 hands,1 ?1?pair -/
noncomputable def zcH:List S:=[
 .ret (.bi .tuple [(.lst false (.comp (.name 1) (.seq (.var 0)) [] (.idx (.var 1) (.con (.int 0)))))])]
/- is_row (5): 0 row,1 hand_states,2 house_states -/
noncomputable def zfx:List S:=[
 .ife (.val (.cmp .eq (.idx (.var 0) (.con (.int 0))) (.con (.str [104,97,110,100])))) [.ret (.and (.cmp .eq (.bi .len [(.var 0)]) (.con (.int 5))) (.call 6 [(.var 0),(.var 1)]))] [],
 .ife (.val (.cmp .eq (.idx (.var 0) (.con (.int 0))) (.con (.str [104,111,117,115,101])))) [.ret (.and (.cmp .eq (.bi .len [(.var 0)]) (.con (.int 6))) (.call 7 [(.var 0),(.var 2)]))] [],
 .ret (.con (.bl false))]
/- is_hand_row (6): 0 row,1 states,2 acts -/
noncomputable def zbp:List S:=[
 .ife (.or (.val (.cmp .notin (.idx (.var 0) (.con (.int 1))) (.var 1))) (.or (.val (.cmp .notin (.idx (.var 0) (.con (.int 3))) (.var 1))) (.not (.val (.call 0 [(.idx (.var 0) (.con (.int 2)))]))))) [.ret (.con (.bl false))] [],
 .asg (.name 2) (.idx (.var 0) (.con (.int 4))),
 .ife (.and (.val (.cmp .isin (.idx (.var 0) (.con (.int 2))) (.glo (.tup [(.str [114,101,97,100]),(.str [119,114,105,116,101]),(.str [100,114,111,112])])))) (.val (.cmp .isin (.tup [(.con (.str [107,101,101,112]))]) (.var 2)))) [.ret (.con (.bl false))] [],
 .ife (.val (.cmp .gt (.bin .add (.lm .countT (.var 2) (.tup [(.con (.str [116,101,108,108]))])) (.lm .countT (.var 2) (.tup [(.con (.str [112,117,116]))]))) (.con (.int 1)))) [.ret (.con (.bl false))] [],
 .ret (.call 8 [(.var 2),(.glo (.tup [(.str [107,101,101,112]),(.str [108,111,115,101]),(.str [116,101,108,108]),(.str [112,117,116])])),(.glo (.tup [(.str [115,101,110,100])]))])]
/- is_house_row (7): 0 row,1 states -/
noncomputable def zbh:List S:=[
 .ife (.or (.val (.cmp .notin (.idx (.var 0) (.con (.int 1))) (.var 1))) (.val (.cmp .notin (.idx (.var 0) (.con (.int 4))) (.var 1)))) [.ret (.con (.bl false))] [],
 .ife (.or (.not (.val (.call 1 [(.idx (.var 0) (.con (.int 2)))]))) (.val (.cmp .notin (.idx (.var 0) (.con (.int 3))) (.glo (.tup [(.str [97,110,121]),(.str [108,97,115,116]),(.str [109,111,114,101])]))))) [.ret (.con (.bl false))] [],
 .ife (.val (.cmp .eq (.idx (.var 0) (.con (.int 5))) (.glo (.tup [(.tup [(.str [119,97,105,116])])])))) [.ret (.cmp .eq (.idx (.var 0) (.con (.int 3))) (.con (.str [97,110,121])))] [],
 .ret (.call 8 [(.idx (.var 0) (.con (.int 5))),(.glo (.tup [(.str [107,101,101,112]),(.str [111,119,110]),(.str [115,104,97,114,101]),(.str [102,111,114,103,101,116]),(.str [99,108,101,97,114]),(.str [115,116,97,121])])),(.glo (.tup [(.str [115,101,110,100]),(.str [111,119,110,101,114]),(.str [111,116,104,101,114,115])]))])]
/- are_acts (8): 0 acts,1 plain,2 sends,3 ?1?act -/
noncomputable def zdj:List S:=[
 .ret (.and (.cmp .le (.bi .len [(.var 0)]) (.glo (.int 6))) (.bi .all [(.lst false (.comp (.name 3) (.seq (.var 0)) [] (.call 9 [(.var 3),(.var 1),(.var 2)])))]))]
/- is_act (9): 0 act,1 plain,2 sends -/
noncomputable def zfr:List S:=[
 .ife (.val (.cmp .eq (.bi .len [(.var 0)]) (.con (.int 1)))) [.ret (.cmp .isin (.idx (.var 0) (.con (.int 0))) (.var 1))] [],
 .ret (.and (.cmp .eq (.bi .len [(.var 0)]) (.con (.int 3))) (.and (.cmp .isin (.idx (.var 0) (.con (.int 0))) (.var 2)) (.and (.call 1 [(.idx (.var 0) (.con (.int 1)))]) (.cmp .isin (.idx (.var 0) (.con (.int 2))) (.glo (.tup [(.str [98,97,114,101]),(.str [118,97,108,117,101])]))))))]
/- place_of (10): 0 row -/
noncomputable def zdu:List S:=[
 .ret (.ife (.val (.cmp .eq (.idx (.var 0) (.con (.int 0))) (.con (.str [104,97,110,100])))) (.sli (.var 0) (.con .non) (.con (.int 3))) (.sli (.var 0) (.con .non) (.con (.int 4))))]
/- rival_places (11): 0 row,1 whens,2 ?1?when -/
noncomputable def zbC:List S:=[
 .ife (.val (.cmp .eq (.idx (.var 0) (.con (.int 0))) (.con (.str [104,97,110,100])))) [.ret (.lst false (.disp [(.sli (.var 0) (.con .non) (.con (.int 3)))]))] [],
 .asg (.name 1) (.ife (.val (.cmp .eq (.idx (.var 0) (.con (.int 3))) (.con (.str [97,110,121])))) (.glo (.tup [(.str [97,110,121]),(.str [108,97,115,116]),(.str [109,111,114,101])])) (.tup [(.con (.str [97,110,121])),(.idx (.var 0) (.con (.int 3)))])),
 .ret (.lst false (.comp (.name 2) (.seq (.var 1)) [] (.bin .add (.sli (.var 0) (.con .non) (.con (.int 3))) (.tup [(.var 2)]))))]
/- table_text (12): 0 table,1 pairs,2 lines,3 ?1?pair,4 ?2?row -/
noncomputable def zcd:List S:=[
 .asg (.name 1) (.lst false (.comp (.name 3) (.seq (.idx (.var 0) (.con (.int 0)))) [] (.tm .join (.con (.str [32])) [(.var 3)]))),
 .asg (.name 2) (.lst true (.disp [(.bin .add (.glo (.str [104,97,110,100,115,32])) (.tm .join (.con (.str [44,32])) [(.var 1)])),(.bin .add (.glo (.str [104,111,117,115,101,115,32])) (.tm .join (.con (.str [44,32])) [(.idx (.var 0) (.con (.int 1)))]))])),
 .exp (.me .extend (.var 2) [(.lst false (.comp (.name 4) (.seq (.idx (.var 0) (.con (.int 2)))) [] (.call 13 [(.var 4)])))]),
 .ret (.tm .join (.con (.str [10])) [(.var 2)])]
/- row_text (13): 0 row,1 head,2 acts,3 ?1?act -/
noncomputable def zdo:List S:=[
 .asg (.name 1) (.tm .join (.con (.str [32])) [(.bin .add (.sli (.var 0) (.con .non) (.neg (.con (.int 2)))) (.tup [(.glo (.str [45,62])),(.idx (.var 0) (.neg (.con (.int 2))))]))]),
 .asg (.name 2) (.lst false (.comp (.name 3) (.seq (.idx (.var 0) (.neg (.con (.int 1))))) [] (.tm .join (.con (.str [32])) [(.var 3)]))),
 .ife (.not (.val (.var 2))) [.ret (.var 1)] [],
 .ret (.bin .add (.bin .add (.var 1) (.con (.str [58,32]))) (.tm .join (.con (.str [44,32])) [(.var 2)]))]
/- read_table (14): 0 text,1 lines,2 hands,3 houses -/
noncomputable def zb7:List S:=[
 .ife (.not (.val (.isi .str (.var 0)))) [.stuck] [],
 .asg (.name 1) (.lst false (.spl (.var 0) (.con (.str [10])))),
 .asg (.name 2) (.call 15 [(.idx (.var 1) (.con (.int 0)))]),
 .ife (.not (.val (.call 3 [(.var 2)]))) [.stuck] [],
 .asg (.name 3) (.ife (.val (.cmp .gt (.bi .len [(.var 1)]) (.con (.int 1)))) (.call 16 [(.idx (.var 1) (.con (.int 1)))]) (.tup [])),
 .ife (.not (.val (.call 2 [(.var 3)]))) [.stuck] [],
 .ret (.tup [(.var 2),(.var 3),(.call 19 [(.var 1),(.call 4 [(.var 2)]),(.var 3)])])]
/- read_hands (15): 0 line,1 ?1?part -/
noncomputable def zch:List S:=[
 .ret (.bi .tuple [(.lst false (.comp (.name 1) (.seq (.call 17 [(.glo (.str [104,97,110,100,115,32])),(.var 0)])) [] (.call 18 [(.var 1)])))])]
/- read_houses (16): 0 line -/
noncomputable def zbV:List S:=[
 .ret (.bi .tuple [(.call 17 [(.glo (.str [104,111,117,115,101,115,32])),(.var 0)])])]
/- parts_behind (17): 0 heading,1 line -/
noncomputable def zbz:List S:=[
 .ife (.not (.val (.tm .starts (.var 1) [(.var 0)]))) [.ret (.lst false (.disp []))] [],
 .ret (.lst false (.spl (.sli (.var 1) (.bi .len [(.var 0)]) (.con .non)) (.con (.str [44,32]))))]
/- words_of (18): 0 part -/
noncomputable def zdg:List S:=[
 .ret (.bi .tuple [(.lst false (.spl (.var 0) (.con (.str [32]))))])]
/- read_rows (19): 0 lines,1 hand_states,2 house_states,3 rows,4 taken,5 number,6 line,7 row,8 ?1?place -/
noncomputable def zcP:List S:=[
 .asg (.name 3) (.lst true (.disp [])),
 .asg (.name 4) .dnew,
 .for (.tup [(.name 5),(.name 6)]) (.enk 2 (.sli (.var 0) (.con (.int 2)) (.con .non))) [.asg (.name 7) (.call 20 [(.var 6)]),.ife (.or (.val (.cmp .isN (.var 7) (.con .non))) (.not (.val (.call 5 [(.var 7),(.var 1),(.var 2)])))) [.stuck] [],.ife (.val (.bi .any [(.lst false (.comp (.name 8) (.seq (.call 11 [(.var 7)])) [] (.din false (.var 8) (.var 4))))])) [.stuck] [],.setD (.var 4) (.call 10 [(.var 7)]) (.con (.bl true)),.exp (.me .append (.var 3) [(.var 7)])],
 .ret (.bi .tuple [(.var 3)])]
/- read_row (20): 0 line,1 halves,2 words,3 acts,4 ?1?part -/
noncomputable def zdz:List S:=[
 .asg (.name 1) (.tm .parti (.var 0) [(.con (.str [58,32]))]),
 .asg (.name 2) (.call 18 [(.idx (.var 1) (.con (.int 0)))]),
 .ife (.or (.val (.cmp .lt (.bi .len [(.var 2)]) (.con (.int 2)))) (.val (.cmp .ne (.idx (.var 2) (.neg (.con (.int 2)))) (.glo (.str [45,62]))))) [.ret (.con .non)] [],
 .asg (.name 3) (.ife (.val (.idx (.var 1) (.con (.int 1)))) (.lst false (.comp (.name 4) (.seq (.lst false (.spl (.idx (.var 1) (.con (.int 2))) (.con (.str [44,32]))))) [] (.call 18 [(.var 4)]))) (.lst false (.disp []))),
 .ret (.bin .add (.sli (.var 2) (.con .non) (.neg (.con (.int 2)))) (.tup [(.idx (.var 2) (.neg (.con (.int 1)))),(.bi .tuple [(.var 3)])]))]
/- _law_draw (21): 0 _law_cell -/
noncomputable def zfa:List S:=[
 .ret (.lst true (.disp [(.bin .mul (.bin .fdiv (.var 0) (.con (.int 2))) (.bin .sub (.con (.int 1)) (.bin .mod (.var 0) (.con (.int 2))))),(.var 0)]))]
/- _law_next (22): 0 _law_draw_here,1 _law_size,2 _law_digit,3 _law_number -/
noncomputable def zfd:List S:=[
 .setI (.var 0) (.con (.int 1)) (.bin .mod (.bin .add (.bin .mul (.idx (.var 0) (.con (.int 1))) (.con (.int 48271))) (.con (.int 11))) (.con (.int 2147483647))),
 .ife (.val (.cmp .gt (.idx (.var 0) (.con (.int 0))) (.con (.int 0)))) [.asg (.name 2) (.bin .mod (.idx (.var 0) (.con (.int 0))) (.var 1)),.setI (.var 0) (.con (.int 0)) (.bin .fdiv (.idx (.var 0) (.con (.int 0))) (.var 1)),.ret (.var 2)] [],
 .asg (.name 3) (.bin .mod (.bin .mul (.idx (.var 0) (.con (.int 1))) (.bin .add (.bin .fdiv (.idx (.var 0) (.con (.int 1))) (.con (.int 1009))) (.con (.int 69621)))) (.con (.int 2147483647))),
 .ret (.bin .mod (.bin .mod (.bin .mul (.var 3) (.bin .add (.bin .fdiv (.var 3) (.con (.int 757))) (.con (.int 16807)))) (.con (.int 2147483629))) (.var 1))]
/- _law_cell_at (23): 0 _law_script,1 _law_k -/
noncomputable def zcD:List S:=[
 .ife (.val (.cmp .lt (.var 1) (.bi .len [(.var 0)]))) [.ret (.idx (.var 0) (.var 1))] [],
 .ret (.con (.int 0))]
/- _law_words (24): 0 _law_draw_here,1 _law_many,2 _law_no,3 _law_words_here,4 _law_number,5 _law_word,6 _law_k,7 _law_some,8 _law_letter -/
noncomputable def zcT:List S:=[
 .asg (.name 3) (.lst true (.disp [])),
 .for (.name 4) (.rng (.var 1)) [.asg (.name 5) (.con (.str [])),.for (.name 6) (.rng (.bin .add (.con (.int 1)) (.call 22 [(.var 0),(.con (.int 8))]))) [.asg (.name 5) (.bin .add (.var 5) (.idx (.con (.str [97,98,99,100,101,102,103,104,105,106,107,108,109,110,111,112,113,114,115,116,117,118,119,120,121,122])) (.call 22 [(.var 0),(.con (.int 26))])))],.ife (.and (.val (.cmp .ne (.var 3) (.lst false (.disp [])))) (.val (.cmp .eq (.call 22 [(.var 0),(.con (.int 4))]) (.con (.int 1))))) [.asg (.name 5) (.idx (.var 3) (.neg (.con (.int 1))))] [],.ife (.val (.cmp .eq (.call 22 [(.var 0),(.con (.int 3))]) (.con (.int 0)))) [.asg (.name 7) (.lst false (.disp [(.con (.str [114,101,97,100])),(.con (.str [119,114,105,116,101])),(.con (.str [100,114,111,112])),(.con (.str [119,97,105,116])),(.con (.str [107,101,101,112])),(.con (.str [115,116,97,121])),(.con (.str [112,117,116])),(.con (.str [116,101,108,108])),(.con (.str [115,101,110,100])),(.con (.str [97,110,121]))])),.asg (.name 7) (.bin .add (.var 7) (.lst false (.disp [(.con (.str [108,97,115,116])),(.con (.str [109,111,114,101])),(.con (.str [111,119,110]))]))),.asg (.name 7) (.bin .add (.var 7) (.lst false (.disp [(.con (.str [110,111,110,101])),(.con (.str [98,97,114,101])),(.con (.str [118,97,108,117,101])),(.con (.str [104,97,110,100])),(.con (.str [104,111,117,115,101])),(.con (.str [104,97,110,100,115])),(.con (.str [104,111,117,115,101,115])),(.con (.str [108,111,115,101])),(.con (.str [99,108,101,97,114])),(.con (.str [111,119,110,101,114]))]))),.asg (.name 5) (.idx (.var 7) (.call 22 [(.var 0),(.con (.int 23))]))] [],.for (.name 8) (.seq (.con (.str [122,121,120,119,118,117,116,115,114,113]))) [.ife (.val (.cmp .isin (.var 5) (.bin .add (.var 3) (.var 2)))) [.asg (.name 5) (.bin .add (.sli (.var 5) (.con .non) (.neg (.con (.int 1)))) (.var 8))] []],.exp (.me .append (.var 3) [(.var 5)])],
 .ret (.var 3)]
/- _law_acts (25): 0 _law_draw_here,1 _law_kinds_here,2 _law_hand,3 _law_ask,4 _law_alone,5 _law_sends,6 _law_acts_here,7 _law_k,8 _law_word,9 _law_kind -/
noncomputable def zcQ:List S:=[
 .asg (.name 4) (.lst false (.disp [(.con (.str [111,119,110])),(.con (.str [115,104,97,114,101])),(.con (.str [102,111,114,103,101,116])),(.con (.str [99,108,101,97,114])),(.con (.str [115,116,97,121])),(.con (.str [107,101,101,112]))])),
 .asg (.name 5) (.lst false (.disp [(.con (.str [115,101,110,100])),(.con (.str [111,119,110,101,114])),(.con (.str [111,116,104,101,114,115]))])),
 .ife (.val (.var 2)) [.asg (.name 4) (.lst false (.disp [(.con (.str [108,111,115,101])),(.con (.str [116,101,108,108])),(.con (.str [112,117,116])),(.con (.str [107,101,101,112]))])),.asg (.name 5) (.lst false (.disp [(.con (.str [115,101,110,100]))]))] [],
 .ife (.val (.var 3)) [.asg (.name 4) (.sli (.var 4) (.con .non) (.con (.int 3)))] [],
 .asg (.name 6) (.lst true (.disp [])),
 .for (.name 7) (.rng (.call 22 [(.var 0),(.con (.int 7))])) [.ife (.val (.cmp .eq (.call 22 [(.var 0),(.con (.int 2))]) (.con (.int 0)))) [.asg (.name 8) (.idx (.var 4) (.call 22 [(.var 0),(.bi .len [(.var 4)])])),.ife (.or (.val (.cmp .notin (.var 8) (.lst false (.disp [(.con (.str [116,101,108,108])),(.con (.str [112,117,116]))])))) (.and (.val (.cmp .notin (.tup [(.con (.str [116,101,108,108]))]) (.var 6))) (.val (.cmp .notin (.tup [(.con (.str [112,117,116]))]) (.var 6))))) [.exp (.me .append (.var 6) [(.tup [(.var 8)])])] []] [.asg (.name 8) (.idx (.var 5) (.call 22 [(.var 0),(.bi .len [(.var 5)])])),.asg (.name 9) (.idx (.var 1) (.call 22 [(.var 0),(.bi .len [(.var 1)])])),.exp (.me .append (.var 6) [(.tup [(.var 8),(.var 9),(.idx (.lst false (.disp [(.con (.str [98,97,114,101])),(.con (.str [118,97,108,117,101]))])) (.call 22 [(.var 0),(.con (.int 2))]))])])]],
 .ret (.bi .tuple [(.var 6)])]
/- _law_row (26): 0 _law_draw_here,1 _law_states,2 _law_houses,3 _law_kinds_here,4 _law_event,5 _law_state,6 _law_acts_here,7 _law_row_here,8 _law_when,9 _law_behind -/
noncomputable def zfB:List S:=[
 .ife (.val (.cmp .eq (.call 22 [(.var 0),(.con (.int 2))]) (.con (.int 0)))) [.asg (.name 4) (.idx (.bin .add (.lst false (.disp [(.con (.str [114,101,97,100])),(.con (.str [119,114,105,116,101])),(.con (.str [100,114,111,112]))])) (.var 3)) (.call 22 [(.var 0),(.bin .add (.con (.int 3)) (.bi .len [(.var 3)]))])),.asg (.name 5) (.idx (.var 1) (.call 22 [(.var 0),(.bi .len [(.var 1)])])),.asg (.name 6) (.call 25 [(.var 0),(.var 3),(.con (.bl true)),(.cmp .isin (.var 4) (.lst false (.disp [(.con (.str [114,101,97,100])),(.con (.str [119,114,105,116,101])),(.con (.str [100,114,111,112]))])))]),.ret (.tup [(.con (.str [104,97,110,100])),(.var 5),(.var 4),(.idx (.var 1) (.call 22 [(.var 0),(.bi .len [(.var 1)])])),(.var 6)])] [],
 .asg (.name 7) (.tup [(.con (.str [104,111,117,115,101])),(.idx (.var 2) (.call 22 [(.var 0),(.bi .len [(.var 2)])])),(.idx (.var 3) (.call 22 [(.var 0),(.bi .len [(.var 3)])]))]),
 .asg (.name 8) (.idx (.lst false (.disp [(.con (.str [97,110,121])),(.con (.str [108,97,115,116])),(.con (.str [109,111,114,101]))])) (.call 22 [(.var 0),(.con (.int 3))])),
 .asg (.name 9) (.idx (.var 2) (.call 22 [(.var 0),(.bi .len [(.var 2)])])),
 .ife (.and (.val (.cmp .eq (.var 8) (.con (.str [97,110,121])))) (.val (.cmp .eq (.call 22 [(.var 0),(.con (.int 3))]) (.con (.int 0))))) [.ret (.bin .add (.var 7) (.tup [(.var 8),(.var 9),(.tup [(.tup [(.con (.str [119,97,105,116]))])])]))] [],
 .ret (.bin .add (.var 7) (.tup [(.var 8),(.var 9),(.call 25 [(.var 0),(.var 3),(.con (.bl false)),(.con (.bl false))])]))]
/- _law_stands (27): 0 _law_rows,1 _law_row_here,2 _law_other -/
noncomputable def zdn:List S:=[
 .for (.name 2) (.seq (.var 0)) [.ife (.val (.cmp .eq (.sli (.var 2) (.con .non) (.con (.int 3))) (.sli (.var 1) (.con .non) (.con (.int 3))))) [.ife (.or (.val (.cmp .eq (.idx (.var 1) (.con (.int 0))) (.con (.str [104,97,110,100])))) (.or (.val (.cmp .eq (.idx (.var 2) (.con (.int 3))) (.idx (.var 1) (.con (.int 3))))) (.val (.cmp .isin (.con (.str [97,110,121])) (.lst false (.disp [(.idx (.var 2) (.con (.int 3))),(.idx (.var 1) (.con (.int 3)))])))))) [.ret (.con (.bl false))] []] []],
 .ret (.con (.bl true))]
/- _law_table (28): 0 _law_script,1 _law_cell,2 _law_draw_here,3 _law_kinds_here,4 _law_states,5 _law_houses,6 _law_rights,7 _law_rows,8 _law_one,9 _law_row_here,10 _law_hands,11 ?1?_law_state,12 ?2?_law_k -/
noncomputable def zeh:List S:=[
 .asg (.name 1) (.call 23 [(.var 0),(.con (.int 0))]),
 .asg (.name 2) (.call 21 [(.var 1)]),
 .asg (.name 3) (.call 24 [(.var 2),(.bin .add (.con (.int 1)) (.call 22 [(.var 2),(.con (.int 5))])),(.lst false (.disp [(.con (.str [114,101,97,100])),(.con (.str [119,114,105,116,101])),(.con (.str [100,114,111,112]))]))]),
 .asg (.name 4) (.call 24 [(.var 2),(.bin .add (.con (.int 1)) (.call 22 [(.var 2),(.con (.int 8))])),(.lst false (.disp []))]),
 .asg (.name 5) (.call 24 [(.var 2),(.bin .add (.con (.int 1)) (.call 22 [(.var 2),(.con (.int 8))])),(.lst false (.disp []))]),
 .asg (.name 6) (.lst false (.comp (.name 11) (.seq (.var 4)) [] (.idx (.lst false (.disp [(.con (.str [110,111,110,101])),(.con (.str [114,101,97,100])),(.con (.str [119,114,105,116,101]))])) (.call 22 [(.var 2),(.con (.int 3))])))),
 .asg (.name 7) (.lst true (.disp [])),
 .for (.name 8) (.seq (.sli (.var 0) (.con (.int 1)) (.con (.int 17)))) [.asg (.name 9) (.call 26 [(.call 21 [(.var 8)]),(.var 4),(.var 5),(.var 3)]),.ife (.val (.call 27 [(.var 7),(.var 9)])) [.exp (.me .append (.var 7) [(.var 9)])] []],
 .asg (.name 10) (.bi .tuple [(.lst false (.comp (.name 12) (.rng (.bi .len [(.var 4)])) [] (.tup [(.idx (.var 4) (.var 12)),(.idx (.var 6) (.var 12))])))]),
 .ret (.tup [(.var 10),(.bi .tuple [(.var 5)]),(.bi .tuple [(.var 7)])])]
/- _law_text (29): 0 _law_table_here,1 _law_hands,2 _law_rows,3 _law_row_here,4 _law_text_here,5 _law_acts_here,6 ?1?_law_state,7 ?1?_law_right,8 ?2?_law_act -/
noncomputable def zfj:List S:=[
 .asg (.name 1) (.lst false (.comp (.tup [(.name 6),(.name 7)]) (.seq (.idx (.var 0) (.con (.int 0)))) [] (.bin .add (.bin .add (.var 6) (.con (.str [32]))) (.var 7)))),
 .asg (.name 2) (.lst true (.disp [(.bin .add (.con (.str [104,97,110,100,115,32])) (.tm .join (.con (.str [44,32])) [(.var 1)])),(.bin .add (.con (.str [104,111,117,115,101,115,32])) (.tm .join (.con (.str [44,32])) [(.idx (.var 0) (.con (.int 1)))]))])),
 .for (.name 3) (.seq (.idx (.var 0) (.con (.int 2)))) [.asg (.name 4) (.bin .add (.bin .add (.bin .add (.bin .add (.idx (.var 3) (.con (.int 0))) (.con (.str [32]))) (.idx (.var 3) (.con (.int 1)))) (.con (.str [32]))) (.idx (.var 3) (.con (.int 2)))),.ife (.val (.cmp .eq (.idx (.var 3) (.con (.int 0))) (.con (.str [104,111,117,115,101])))) [.asg (.name 4) (.bin .add (.bin .add (.var 4) (.con (.str [32]))) (.idx (.var 3) (.con (.int 3))))] [],.asg (.name 4) (.bin .add (.bin .add (.var 4) (.con (.str [32,45,62,32]))) (.idx (.var 3) (.neg (.con (.int 2))))),.asg (.name 5) (.tm .join (.con (.str [44,32])) [(.lst false (.comp (.name 8) (.seq (.idx (.var 3) (.neg (.con (.int 1))))) [] (.tm .join (.con (.str [32])) [(.var 8)])))]),.ife (.val (.cmp .ne (.var 5) (.con (.str [])))) [.asg (.name 4) (.bin .add (.bin .add (.var 4) (.con (.str [58,32]))) (.var 5))] [],.exp (.me .append (.var 2) [(.var 4)])],
 .ret (.tm .join (.con (.str [10])) [(.var 2)])]
/- _law_kinds (30): 0 _law_thing,1 ?1?_law_one -/
noncomputable def zcU:List S:=[
 .ife (.val (.isi .tuple (.var 0))) [.ret (.bi .all [(.lst false (.comp (.name 1) (.seq (.var 0)) [] (.call 30 [(.var 1)])))])] [],
 .ret (.isi .str (.var 0))]
/- law (31): 0 _law_script,1 _law_table_here,2 _law_text_here,3 _law_found -/
noncomputable def zmM:List S:=[
 .asg (.name 1) (.call 28 [(.var 0)]),
 .asg (.name 2) (.call 29 [(.var 1)]),
 .ife (.val (.cmp .ne (.call 12 [(.var 1)]) (.var 2))) [.ret (.con (.bl false))] [],
 .asg (.name 3) (.call 14 [(.var 2)]),
 .ret (.and (.call 30 [(.var 3)]) (.and (.cmp .eq (.var 3) (.var 1)) (.cmp .eq (.call 12 [(.var 3)]) (.var 2))))]
noncomputable def P:List F:=[⟨1,2,zdX,false,[],false⟩,⟨1,1,zem,false,[],false⟩,⟨1,2,zcj,false,[],false⟩,⟨1,2,zcF,false,[],false⟩,⟨1,2,zcH,false,[],false⟩,⟨3,3,zfx,false,[],false⟩,⟨2,3,zbp,false,[],false⟩,⟨2,2,zbh,false,[],false⟩,⟨3,4,zdj,false,[],false⟩,⟨3,3,zfr,false,[],false⟩,⟨1,1,zdu,false,[],false⟩,⟨1,3,zbC,false,[],false⟩,⟨1,5,zcd,false,[],false⟩,⟨1,4,zdo,false,[],false⟩,⟨1,4,zb7,false,[],false⟩,⟨1,2,zch,false,[],false⟩,⟨1,1,zbV,false,[],false⟩,⟨2,2,zbz,false,[],false⟩,⟨1,1,zdg,false,[],false⟩,⟨3,9,zcP,false,[],false⟩,⟨1,5,zdz,false,[],false⟩,⟨1,1,zfa,true,[],false⟩,⟨2,4,zfd,false,[],false⟩,⟨2,2,zcD,false,[],false⟩,⟨3,9,zcT,false,[],false⟩,⟨4,10,zcQ,false,[],false⟩,⟨4,10,zfB,false,[],false⟩,⟨2,3,zdn,false,[],false⟩,⟨1,13,zeh,false,[],false⟩,⟨1,9,zfj,false,[],false⟩,⟨1,2,zcU,false,[],false⟩,⟨1,4,zmM,false,[],false⟩]
end K01
set_option linter.all false
set_option maxRecDepth 10000
namespace K01
open IT
noncomputable abbrev W:=List Nat
theorem zmD {c:Nat} {y r:W} (h:c ∉ r):(c::y).isPrefixOf r=false:=by
 cases r with
 | nil=>rfl
 | cons d r=>
  have:(c==d)=false:=by simp;rintro rfl;exact h List.mem_cons_self
  simp [List.isPrefixOf,this]
theorem fnd_none {c:Nat} {y:W}:∀ {x:W},c ∉ x->fnd (c::y) x=none
 | [],_=>rfl
 | d::x,h=>by
  rw [fnd,zmD h,fnd_none λq=>h (List.mem_cons_of_mem _ q)]
  rfl
theorem zjm {c:Nat} {y r:W}:∀ {x:W},c ∉ x->fnd (c::y) (x++((c::y)++r))=some x.length
 | [],_=>by
  show fnd (c::y) (c::(y++r))=some 0
  have:(c::y).isPrefixOf (c::(y++r))=true:=by
   rw [List.isPrefixOf_iff_prefix];exact ⟨r,rfl⟩
  rw [fnd,this];rfl
 | d::x,h=>by
  have hd:(c==d)=false:=by simp;rintro rfl;exact h List.mem_cons_self
  have e:(c::y).isPrefixOf (d::(x++((c::y)++r)))=false:=by simp [List.isPrefixOf,hd]
  show fnd (c::y) (d::(x++((c::y)++r)))=_
  rw [fnd,e,zjm λq=>h (List.mem_cons_of_mem _ q)]
  rfl
theorem zdP {z x:W} {y:W} {l:List W}:catS z (x::y::l)=x++(z++catS z (y::l)):=by
 simp [catS]
theorem zjn {c:Nat} {y:W}:∀ (l:List W) (x:W) (n:Nat),(∀ w∈x::l,c ∉ w)->l.length<=n->splS (c::y) n (catS (c::y) (x::l))=x::l
 | [],x,n,h,_=>by
  have e:catS (c::y) [x]=x:=by simp [catS]
  rw [e]
  cases n with
  | zero=>rfl
  | succ n=>rw [splS,fnd_none (h x List.mem_cons_self)]
 | x'::l,x,n,h,hn=>by
  cases n with
  | zero=>simp at hn
  | succ n=>
   rw [zdP,splS,zjm (h x List.mem_cons_self)]
   simp only
   rw [List.take_left,<-List.append_assoc,show x.length+(c::y).length=(x++(c::y)).length by simp,List.drop_left,zjn l x' n (λw hw=>h w (List.mem_cons_of_mem _ hw)) (by simpa using hn)]
theorem cat_len {z:W}:∀ (l:List W) (x:W),l.length<=(catS z (x::l)).length+0\/z=[]
 | [],x=>.inl (by simp)
 | y :: l,x=>by
  rcases cat_len (z:=z) l y with h | h
  ·by_cases hz:z=[]
   ·exact .inr hz
   ·refine .inl ?_
    rw [zdP,List.length_append,List.length_append,List.length_cons]
    have:0<z.length:=List.length_pos_iff.mpr hz
    omega
  ·exact .inr h
theorem ziN (c:Nat):∀ l:W,(fnd [c] l).isSome=l.contains c
 | []=>rfl
 | d::l=>by
  have e:[c].isPrefixOf (d::l)=(c==d):=by simp [List.isPrefixOf]
  rw [fnd,e]
  by_cases h:c=d
  ·subst h;simp
  ·have hb:(c==d)=false:=by simpa using h
   rw [hb]
   have ih:=ziN c l
   simp only [Bool.false_eq_true,if_false]
   cases hf:fnd [c] l with
   | none=>rw [hf] at ih;simp only [Option.isSome_none] at ih ⊢;simp [h,<-ih];simpa using ih.symm
   | some i=>rw [hf] at ih;simp only [Option.isSome_some] at ih ⊢;simp [h];simpa using ih.symm
noncomputable abbrev abc:W:=[97,98,99,100,101,102,103,104,105,106,107,108,109,110,111,112,113,114,115,116,117,118,119,120,121,122]
noncomputable def low (c:Nat):Bool:=abc.contains c
structure Wd (w:W):Prop where
 pos:1<=w.length
 most:w.length<=8
 low:∀ c∈w,low c=true
theorem zlZ {c:Nat} (h:low c=true):97<=c/\c<=122:=by
 unfold low at h
 rw [List.contains_iff_mem] at h
 simp only [abc,List.mem_cons,List.not_mem_nil,or_false] at h
 omega
theorem Wd.no {w:W} (h:Wd w) {c:Nat} (hc:c<97):c ∉ w:=λq=>by
 have:=zlZ (h.low c q)
 omega
theorem zbE {n:Nat} (h:n<=16777216):fit n=true:=by
 unfold fit big;exact decide_eq_true h
end K01
set_option linter.all false
set_option maxRecDepth 10000
namespace K01
open IT
theorem zi9 {α β:Type} {g:α->β}:∀ xs:List α,xs.filterMap (λx=>some (g x))=xs.map g
 | []=>rfl
 | x::xs=>by rw [List.filterMap_cons,List.map_cons,zi9 xs]
theorem zaE {α:Type} {l:Option Nat} {f:Ite->M (Option D)} {dD:α->D} {g:α->D} {h:Sto} {xs:List α} {Q:List D->Sto->Prop} (e:∀ x∈xs,Ok (f (dI (dD x)) h) λo h1=>o=some (g x)/\h1=h) (s:zbb l h h=true) (q:Q (xs.map g) h):Ok (zb1 l f ((xs.map dD).map dI) h) Q:=by
 rw [List.map_map]
 refine zgL (d:=dI∘dD) (g:=λx=>some (g x)) e s ?_
 rw [zi9]
 exact q
theorem zcN {α:Type} {f:α->Bool}:∀ l:List α,zba (l.map λx=>D.bl (f x))=some (l.map f)
 | []=>rfl
 | x::l=>by rw [List.map_cons,zba,zcN l];rfl
theorem zgF {α:Type} {f:α->Bool} {l:List α}:biD .all [.lst (l.map λx=>D.bl (f x))]=some (.bl (l.all f)):=by
 show (match zba (l.map λx=>D.bl (f x)) with | some bs=>some (D.bl (bs.all id)) | none=>none)=_
 rw [zcN]
 simp [List.all_map]
theorem zo8 {α:Type} {f:α->Bool} {l:List α}:biD .any [.lst (l.map λx=>D.bl (f x))]=some (.bl (l.any f)):=by
 show (match zba (l.map λx=>D.bl (f x)) with | some bs=>some (D.bl (bs.any id)) | none=>none)=_
 rw [zcN]
 simp [List.any_map]
theorem okQ {a b:Bool} {Q:R->Sto->Prop} {h:Sto} (k:Q (.d (.bl b)) h) (e:a=b):Q (.d (.bl a)) h:=by rw [e];exact k
theorem lenS {w:W} (h:w.length<=16777216):biD .len [.str w]=some (.int w.length):=if_pos (zbE h)
theorem zcJ (n:Nat) {h:Sto} {w:W} {Q:R->Sto->Prop} (hw:Wd w) (k:Q (.d (.bl true)) h):Ok (zaq P (n+1) 0 [.d (.str w)] h) Q:=by
 have h1:=hw.pos
 have h2:=hw.most
 refine cl (F:=⟨1,2,zdX,false,[],false⟩) rfl rfl rfl ?_
 (conv=>whnf)
 refine st (lenS (by omega)) ?_
 (conv=>whnf)
 refine bf (decide_eq_false (by omega)) ?_
 (conv=>whnf)
 refine st (lenS (by omega)) ?_
 (conv=>whnf)
 refine bf (decide_eq_false (by omega)) ?_
 (conv=>whnf)
 refine bt (zbE (by omega)) ?_
 (conv=>whnf)
 refine ask (zaE (dD:=λc=>D.str [c]) (g:=λc=>D.bl (low c)) (λc hc=>?_) zah ?_)
 ·refine gc ?_
  (conv=>whnf)
  exact ⟨by rw [ziN];rfl,rfl⟩
 ·(conv=>whnf)
  refine st zgF ?_
  (conv=>whnf)
  rw [List.all_eq_true.mpr hw.low]
  exact f0 k
noncomputable abbrev zmI:W:=[114,101,97,100]
noncomputable abbrev zjj:W:=[119,114,105,116,101]
noncomputable abbrev zqp:W:=[100,114,111,112]
noncomputable abbrev zdI:W:=[104,97,110,100]
noncomputable abbrev zbc:W:=[104,111,117,115,101]
noncomputable abbrev karr:W:=[45,62]
noncomputable abbrev asks:List W:=[zmI,zjj,zqp]
noncomputable abbrev zox:W:=[110,111,110,101]
noncomputable abbrev kany:W:=[97,110,121]
noncomputable abbrev zo2:W:=[108,97,115,116]
noncomputable abbrev zoA:W:=[109,111,114,101]
noncomputable abbrev zpN:W:=[98,97,114,101]
noncomputable abbrev zml:W:=[118,97,108,117,101]
noncomputable abbrev zey:W:=[107,101,101,112]
noncomputable abbrev zkE:W:=[108,111,115,101]
noncomputable abbrev zbY:W:=[116,101,108,108]
noncomputable abbrev kput:W:=[112,117,116]
noncomputable abbrev zhU:W:=[115,101,110,100]
noncomputable abbrev zeB:W:=[119,97,105,116]
noncomputable abbrev kown:W:=[111,119,110]
noncomputable abbrev zmd:W:=[115,104,97,114,101]
noncomputable abbrev zi4:W:=[102,111,114,103,101,116]
noncomputable abbrev zjD:W:=[99,108,101,97,114]
noncomputable abbrev znW:W:=[115,116,97,121]
noncomputable abbrev ziJ:W:=[111,119,110,101,114]
noncomputable abbrev zjo:W:=[111,116,104,101,114,115]
theorem eqbS (a b:W):(D.str a).eqb (.str b)=(a==b):=rfl
theorem anyS {a:W}:∀ l:List W,((l.map D.str).any λy=>y.eqb (.str a))=l.contains a
 | []=>rfl
 | b::l=>by
  rw [List.map_cons,List.any_cons,anyS l,List.contains_cons,eqbS]
  congr 1
  rw [Bool.eq_iff_iff];simp only [beq_iff_eq];exact eq_comm
structure Kd (w:W):Prop extends Wd w where
 no:asks.contains w=false
theorem zel (n:Nat) {h:Sto} {w:W} {Q:R->Sto->Prop} (hw:Kd w) (k:Q (.d (.bl true)) h):Ok (zaq P (n+2) 1 [.d (.str w)] h) Q:=by
 refine cl (F:=⟨1,1,zem,false,[],false⟩) rfl rfl rfl ?_
 (conv=>whnf)
 refine ask (zcJ n hw.toWd ?_)
 (conv=>whnf)
 have e:(List.map D.str asks).any (λy=>y.eqb (.str w))=false:=by rw [anyS];exact hw.no
 refine f0 ?_
 have e2:(!(List.map D.str asks).any λy=>y.eqb (.str w))=true:=by rw [e];rfl
 exact e2▸k
end K01
set_option linter.all false
set_option maxRecDepth 10000
namespace K01
open IT
theorem zmn:∀ (l acc:List W),(acc++l).Nodup->l.foldl (λacc x=>if acc.contains x then acc else acc++[x]) acc=acc++l
 | [],acc,_=>by simp
 | x::l,acc,h=>by
  have hx:acc.contains x=false:=by
   rw [<-Bool.not_eq_true,List.contains_iff_mem]
   intro q
   rw [List.nodup_append] at h
   exact h.2.2 x q x List.mem_cons_self rfl
  rw [List.foldl_cons,hx]
  simp only [Bool.false_eq_true,if_false]
  rw [zmn l (acc++[x]) (by simpa using h)]
  simp
theorem ziS {ws:List W} (n:ws.Nodup) (h:ws.length<4000):zc5 (.tup (ws.map D.str))=some (.int ws.length):=by
 have e:ded ws=ws:=by
  have:=zmn ws [] (by simpa using n)
  simpa [ded] using this
 simp only [zc5,zdO,e]
 rw [if_pos (decide_eq_true h)]
structure Sts (ws:List W):Prop where
 pos:1<=ws.length
 most:ws.length<=8
 wd:∀ w∈ws,Wd w
 nd:ws.Nodup
theorem zcx (n:Nat) {h:Sto} {ws:List W} {Q:R->Sto->Prop} (hs:Sts ws) (k:Q (.d (.bl true)) h):Ok (zaq P (n+2) 2 [.d (.tup (ws.map D.str))] h) Q:=by
 have h1:=hs.pos
 have h2:=hs.most
 refine cl (F:=⟨1,2,zcj,false,[],false⟩) rfl rfl rfl ?_
 (conv=>whnf)
 refine bf (decide_eq_false (by rw [List.length_map];omega)) ?_
 (conv=>whnf)
 refine bf (decide_eq_false (by rw [List.length_map];omega)) ?_
 (conv=>whnf)
 refine ask (zaE (dD:=D.str) (g:=λ_=>D.bl true) (λw hw=>?_) zah ?_)
 ·refine gc ?_
  (conv=>whnf)
  refine ask (zcJ n (hs.wd w hw) ?_)
  exact ⟨rfl,rfl⟩
 ·(conv=>whnf)
  refine st (zgF (f:=λ_=>true)) ?_
  (conv=>whnf)
  refine bt (by simp) ?_
  (conv=>whnf)
  refine st (ziS hs.nd (by omega)) ?_
  (conv=>whnf)
  refine f0 (okQ k ?_)
  show ((ws.length:Int)==((ws.map D.str).length:Int))=true
  simp
noncomputable def pairD (p:W×W):D:=.tup [.str p.1,.str p.2]
theorem zcW (n:Nat) {h:Sto} {ps:List (W×W)} {Q:R->Sto->Prop} (k:Q (.d (.tup ((ps.map Prod.fst).map D.str))) h):Ok (zaq P (n+1) 4 [.d (.tup (ps.map pairD))] h) Q:=by
 refine cl (F:=⟨1,2,zcH,false,[],false⟩) rfl rfl rfl ?_
 (conv=>whnf)
 refine ask (zaE (dD:=pairD) (g:=λp=>D.str p.1) (λp hp=>?_) zah ?_)
 ·refine gc ?_
  (conv=>whnf)
  exact ⟨rfl,rfl⟩
 ·(conv=>whnf)
  refine f0 ?_
  rw [List.map_map] at k
  exact k
noncomputable abbrev zeQ:List W:=[zox,zmI,zjj]
theorem zfp (n:Nat) {h:Sto} {ps:List (W×W)} {Q:R->Sto->Prop} (hs:Sts (ps.map Prod.fst)) (hr:∀ p∈ps,zeQ.contains p.2=true) (k:Q (.d (.bl true)) h):Ok (zaq P (n+3) 3 [.d (.tup (ps.map pairD))] h) Q:=by
 refine cl (F:=⟨1,2,zcF,false,[],false⟩) rfl rfl rfl ?_
 (conv=>whnf)
 refine ask (zaE (dD:=pairD) (g:=λp=>D.bl true) (λp hp=>?_) zah ?_)
 ·refine gc ?_
  (conv=>whnf)
  have e:(zeQ.map D.str).any (λy=>y.eqb (.str p.2))=true:=by rw [anyS];exact hr p hp
  exact ⟨congrArg (λb=>some (D.bl b)) e,rfl⟩
 ·(conv=>whnf)
  refine st (zgF (f:=λ_=>true)) ?_
  (conv=>whnf)
  refine bf (by simp) ?_
  (conv=>whnf)
  refine ask (zcW (n+1) ?_)
  (conv=>whnf)
  refine ask (zcx n hs ?_)
  (conv=>whnf)
  exact f0 k
noncomputable abbrev zks:List W:=[zpN,zml]
noncomputable def actD (a:List W):D:=.tup (a.map D.str)
inductive Act (plain sends:List W):List W->Prop
 | one {w:W} (h:plain.contains w=true):Act plain sends [w]
 | send {w k l:W} (h:sends.contains w=true) (hk:Kd k) (hl:zks.contains l=true):Act plain sends [w,k,l]
theorem zix (n:Nat) {h:Sto} {a plain sends:List W} {Q:R->Sto->Prop} (ha:Act plain sends a) (k:Q (.d (.bl true)) h):Ok (zaq P (n+3) 9 [.d (actD a),.d (.tup (plain.map D.str)),.d (.tup (sends.map D.str))] h) Q:=by
 refine cl (F:=⟨3,3,zfr,false,[],false⟩) rfl rfl rfl ?_
 cases ha with
 | @one w hp=>
  (conv=>whnf)
  have e:(plain.map D.str).any (λy=>y.eqb (.str w))=true:=by rw [anyS];exact hp
  exact f0 (okQ k e)
 | @send w kd l hs hk hl=>
  (conv=>whnf)
  have e:(sends.map D.str).any (λy=>y.eqb (.str w))=true:=by rw [anyS];exact hs
  refine bt e ?_
  (conv=>whnf)
  refine ask (zel n hk ?_)
  (conv=>whnf)
  have e:(zks.map D.str).any (λy=>y.eqb (.str l))=true:=by rw [anyS];exact hl
  exact f0 (okQ k e)
noncomputable def zdF (as:List (List W)):D:=.tup (as.map actD)
theorem zdC (n:Nat) {h:Sto} {as:List (List W)} {plain sends:List W} {Q:R->Sto->Prop} (h6:as.length<=6) (ha:∀ a∈as,Act plain sends a) (k:Q (.d (.bl true)) h):Ok (zaq P (n+4) 8 [.d (zdF as),.d (.tup (plain.map D.str)),.d (.tup (sends.map D.str))] h) Q:=by
 refine cl (F:=⟨3,4,zdj,false,[],false⟩) rfl rfl rfl ?_
 (conv=>whnf)
 refine bt (decide_eq_true (by rw [List.length_map];omega)) ?_
 (conv=>whnf)
 refine ask (zaE (dD:=actD) (g:=λ_=>D.bl true) (λa ha'=>?_) zah ?_)
 ·refine gc ?_
  (conv=>whnf)
  refine ask (zix n (ha a ha') ?_)
  exact ⟨rfl,rfl⟩
 ·(conv=>whnf)
  refine st (zgF (f:=λ_=>true)) ?_
  (conv=>whnf)
  exact f0 (okQ k (by simp))
end K01
set_option linter.all false
set_option maxRecDepth 10000
namespace K01
open IT
theorem zhy:∀ a b:List W,D.eqbs (a.map D.str) (b.map D.str)=(a==b)
 | [],[]=>rfl
 | [],_::_=>rfl
 | _::_,[]=>rfl
 | x::a,y::b=>by
  show (D.eqb (.str x) (.str y)&&D.eqbs (a.map D.str) (b.map D.str))=_
  rw [zhy a b,eqbS]
  rfl
theorem eqbA (a b:List W):(actD a).eqb (actD b)=(a==b):=zhy a b
theorem zhx:∀ a b:List (List W),D.eqbs (a.map actD) (b.map actD)=(a==b)
 | [],[]=>rfl
 | [],_::_=>rfl
 | _::_,[]=>rfl
 | x::a,y::b=>by
  show (D.eqb (actD x) (actD y)&&D.eqbs (a.map actD) (b.map actD))=_
  rw [zhx a b,eqbA]
  rfl
theorem zqI (a b:List (List W)):(zdF a).eqb (zdF b)=(a==b):=zhx a b
theorem anyA {a:List W}:∀ l:List (List W),((l.map actD).any λy=>y.eqb (actD a))=l.contains a
 | []=>rfl
 | b::l=>by
  rw [List.map_cons,List.any_cons,anyA l,List.contains_cons,eqbA]
  congr 1
  rw [Bool.eq_iff_iff];simp only [beq_iff_eq];exact eq_comm
theorem zjJ {a:List W}:∀ l:List (List W),(l.map actD).countP (λy=>y.eqb (actD a))=l.countP (·==a)
 | []=>rfl
 | b::l=>by rw [List.map_cons,List.countP_cons,List.countP_cons,zjJ l,eqbA]
noncomputable abbrev zeZ:List W:=[zey,zkE,zbY,kput]
noncomputable abbrev zen:List W:=[zhU]
noncomputable abbrev zci:List W:=[zey,kown,zmd,zi4,zjD,znW]
noncomputable abbrev zbF:List W:=[zhU,ziJ,zjo]
noncomputable abbrev whens:List W:=[kany,zo2,zoA]
inductive Rw where
 | hand (s e n:W) (as:List (List W))
 | house (s k w n:W) (as:List (List W))
noncomputable def rowD:Rw->D
 | .hand s e n as=>.tup [.str zdI,.str s,.str e,.str n,zdF as]
 | .house s k w n as=>.tup [.str zbc,.str s,.str k,.str w,.str n,zdF as]
noncomputable def RwOk (hs ho:List W):Rw->Prop
 | .hand s e n as=>hs.contains s=true/\hs.contains n=true/\Wd e/\(asks.contains e=true->as.contains [zey]=false)/\as.countP (·==[zbY])+as.countP (·==[kput])<=1/\as.length<=6/\∀ a∈as,Act zeZ zen a
 | .house s k w n as=>ho.contains s=true/\ho.contains n=true/\Kd k/\whens.contains w=true/\((as=[[zeB]]/\w=kany)\/(as.length<=6/\∀ a∈as,Act zci zbF a))
theorem zgp (n:Nat) {h:Sto} {hs ho:List W} {s e nx:W} {as:List (List W)} {Q:R->Sto->Prop} (ok:RwOk hs ho (.hand s e nx as)) (k:Q (.d (.bl true)) h) :
  Ok (zaq P (n+5) 6 [.d (rowD (.hand s e nx as)),.d (.tup (hs.map D.str))] h) Q:=by
 obtain ⟨h1,h2,h3,h4,h5,h6,h7⟩:=ok
 refine cl (F:=⟨2,3,zbp,false,[],false⟩) rfl rfl rfl ?_
 (conv=>whnf)
 have e1:(!(hs.map D.str).any λy=>y.eqb (.str s))=false:=by rw [anyS,h1];rfl
 have e2:(!(hs.map D.str).any λy=>y.eqb (.str nx))=false:=by rw [anyS,h2];rfl
 refine bf e1 ?_
 (conv=>whnf)
 refine bf e2 ?_
 (conv=>whnf)
 refine ask (zcJ (n+3) h3 ?_)
 (conv=>whnf)
 have e3:(asks.map D.str).any (λy=>y.eqb (.str e))=asks.contains e:=anyS asks
 have e4:(as.map actD).any (λy=>y.eqb (actD [zey]))=as.contains [zey]:=anyA as
 have d1:decide ((actD [zbY]).dep<=60)=true:=by decide
 have rest:wSs (zaq P (n+4)) (zbp.drop 3) [some (.d (rowD (.hand s e nx as))),some (.d (.tup (hs.map D.str))),some (.d (zdF as))] h (kF h false false Q):=by
  (conv=>whnf)
  refine bf ?_ ?_
  ·show decide ((1:Int)<((as.map actD).countP (λy=>y.eqb (actD [zbY])):Nat)+((as.map actD).countP (λy=>y.eqb (actD [kput])):Nat))=false
   rw [zjJ,zjJ]
   exact decide_eq_false (by omega)
  (conv=>whnf)
  refine ask (zdC (plain:=zeZ) (sends:=zen) n h6 h7 ?_)
  (conv=>whnf)
  exact f0 k
 refine br (λc=>?_) (λc=>?_)
 ·have c':asks.contains e=true:=e3.symm.trans c
  have e5:=h4 c'
  (conv=>whnf)
  refine bf (e4.trans e5) ?_
  exact rest
 ·(conv=>whnf)
  exact rest
theorem zfF (n:Nat) {h:Sto} {hs ho:List W} {s kd w nx:W} {as:List (List W)} {Q:R->Sto->Prop} (ok:RwOk hs ho (.house s kd w nx as)) (k:Q (.d (.bl true)) h) :
  Ok (zaq P (n+5) 7 [.d (rowD (.house s kd w nx as)),.d (.tup (ho.map D.str))] h) Q:=by
 obtain ⟨h1,h2,h3,h4,h5⟩:=ok
 refine cl (F:=⟨2,2,zbh,false,[],false⟩) rfl rfl rfl ?_
 (conv=>whnf)
 have e1:(!(ho.map D.str).any λy=>y.eqb (.str s))=false:=by rw [anyS,h1];rfl
 have e2:(!(ho.map D.str).any λy=>y.eqb (.str nx))=false:=by rw [anyS,h2];rfl
 have e3:(!(whens.map D.str).any λy=>y.eqb (.str w))=false:=by rw [anyS,h4];rfl
 refine bf e1 ?_
 (conv=>whnf)
 refine bf e2 ?_
 (conv=>whnf)
 refine ask (zel (n+2) h3 ?_)
 (conv=>whnf)
 refine bf e3 ?_
 (conv=>whnf)
 have e4:(zdF as).eqb (zdF [[zeB]])=(as==[[zeB]]):=zqI as [[zeB]]
 have rest:(as.length<=6/\∀ a∈as,Act zci zbF a)->wSs (zaq P (n+4)) (zbh.drop 3) [some (.d (rowD (.house s kd w nx as))),some (.d (.tup (ho.map D.str)))] h (kF h false false Q):=by
  rintro ⟨h6,h7⟩
  (conv=>whnf)
  refine ask (zdC (plain:=zci) (sends:=zbF) n h6 h7 ?_)
  (conv=>whnf)
  exact f0 k
 refine st ((zkq (zmf (by decide))).trans (congrArg (λb=>some (D.bl b)) e4)) ?_
 (conv=>whnf)
 refine br (λc=>?_) (λc=>?_)
 ·have c:=eq_of_beq c
  have hw:w=kany:=by
   rcases h5 with ⟨_,e⟩ | ⟨_,ha⟩
   ·exact e
   ·have:=ha [zeB] (by rw [c];exact List.mem_cons_self)
    cases this with
    | one h=>exact absurd h (by decide)
  subst hw
  (conv=>whnf)
  exact f0 (okQ k rfl)
 ·refine rest ?_
  rcases h5 with ⟨e,_⟩ | h5
  ·rw [e] at c;exact absurd c (by decide)
  ·exact h5
theorem zh0 (n:Nat) {h:Sto} {hs ho:List W} {r:Rw} {Q:R->Sto->Prop} (ok:RwOk hs ho r) (k:Q (.d (.bl true)) h):Ok (zaq P (n+6) 5 [.d (rowD r),.d (.tup (hs.map D.str)),.d (.tup (ho.map D.str))] h) Q:=by
 refine cl (F:=⟨3,3,zfx,false,[],false⟩) rfl rfl rfl ?_
 cases r with
 | hand s e nx as=>
  (conv=>whnf)
  refine ask (zgp n ok ?_)
  (conv=>whnf)
  exact f0 k
 | house s kd w nx as=>
  (conv=>whnf)
  refine ask (zfF n ok ?_)
  (conv=>whnf)
  exact f0 k
noncomputable def place:Rw->D
 | .hand s e _ _=>.tup [.str zdI,.str s,.str e]
 | .house s k w _ _=>.tup [.str zbc,.str s,.str k,.str w]
theorem zh9 (n:Nat) {h:Sto} {r:Rw} {Q:R->Sto->Prop} (k:Q (.d (place r)) h):Ok (zaq P (n+1) 10 [.d (rowD r)] h) Q:=by
 refine cl (F:=⟨1,1,zdu,false,[],false⟩) rfl rfl rfl ?_
 cases r with
 | hand s e nx as=>
  (conv=>whnf)
  exact f0 k
 | house s kd w nx as=>
  (conv=>whnf)
  exact f0 k
noncomputable def ziY:Rw->List D
 | .hand s e _ _=>[.tup [.str zdI,.str s,.str e]]
 | .house s k w _ _=>(if w==kany then whens else [kany,w]).map λx=>.tup [.str zbc,.str s,.str k,.str x]
theorem zg3 (n:Nat) {h:Sto} {r:Rw} {Q:R->Sto->Prop} (k:Q (.d (.lst (ziY r))) h):Ok (zaq P (n+1) 11 [.d (rowD r)] h) Q:=by
 refine cl (F:=⟨1,3,zbC,false,[],false⟩) rfl rfl rfl ?_
 cases r with
 | hand s e nx as=>
  (conv=>whnf)
  exact f0 k
 | house s kd w nx as=>
  have go:∀ l:List W,(if w==kany then whens else [kany,w])=l->Ok (zb1 none (zh7 (zaq P n) (.name 2) [] (.bin .add (.sli (.var 0) (.con .non) (.con (.int 3))) (.tup [(.var 2)])) [some (.d (rowD (.house s kd w nx as))),some (.d (.tup (l.map D.str))),none]) ((l.map D.str).map dI) h) (λxs h1=>Ok (fin h false false (.d (.lst xs)) h1) Q):=by
   intro l e
   refine zaE (g:=λx=>.tup [.str zbc,.str s,.str kd,.str x]) (λx hx=>?_) zah ?_
   ·refine gc ?_
    (conv=>whnf)
    exact ⟨rfl,rfl⟩
   ·refine f0 ?_
    rw [<-e]
    exact k
  (conv=>whnf)
  refine br (λc=>?_) (λc=>?_)
  ·have c:(w==kany)=true:=c
   (conv=>whnf)
   refine ask ((go whens (by rw [c];rfl)).mono λxs h1 q=>?_)
   exact q
  ·have c:(w==kany)=false:=c
   (conv=>whnf)
   refine ask ((go [kany,w] (by rw [c];rfl)).mono λxs h1 q=>?_)
   exact q
end K01
set_option linter.all false
set_option maxRecDepth 10000
namespace K01
open IT
theorem zkm {α:Type} {f:α->Nat} {B:Nat}:∀ l:List α,(∀ x∈l,f x<=B)->(l.map f).sum<=l.length*B
 | [],_=>by simp
 | x::l,h=>by
  rw [List.map_cons,List.sum_cons,List.length_cons,Nat.succ_mul]
  have:=zkm l λy hy=>h y (List.mem_cons_of_mem _ hy)
  have:=h x List.mem_cons_self
  omega
theorem zcl {z:W} {B:Nat}:∀ l:List W,(∀ x∈l,x.length<=B)->(catS z l).length<=l.length*(B+z.length)
 | [],_=>by simp [catS]
 | [x],h=>by
  have:=h x List.mem_cons_self
  simp [catS]
  omega
 | x::y::l,h=>by
  have ih:=zcl (z:=z) (y::l) λw hw=>h w (List.mem_cons_of_mem _ hw)
  have:=h x List.mem_cons_self
  rw [zdP,List.length_append,List.length_append,List.length_cons,Nat.succ_mul]
  omega
theorem zgt {z:W} {l:List W} (B:Nat) (hl:∀ x∈l,x.length<=B) (hb:l.length*(B+z.length)<=16777216):tmD .join (.str z) [.tup (l.map D.str)]=some (.str (catS z l)):=
 zkW (zdO l) (zbE (Nat.le_trans (zkm l λx hx=>Nat.add_le_add_right (hl x hx) _) hb))
theorem zfK {z:W} {l:List W} (B:Nat) (hl:∀ x∈l,x.length<=B) (hb:l.length*(B+z.length)<=16777216):tmD .join (.str z) [.lst (l.map D.str)]=some (.str (catS z l)):=
 zlk (zdO l) (zbE (Nat.le_trans (zkm l λx hx=>Nat.add_le_add_right (hl x hx) _) hb))
theorem addS {a b:W} (h:a.length+b.length<=16777216):bop .add (.str a) (.str b)=some (.str (a++b)):=if_pos (zbE h)
noncomputable def zaP:Rw->List W
 | .hand s e n _=>[zdI,s,e,karr,n]
 | .house s k w n _=>[zbc,s,k,w,karr,n]
noncomputable def zay:Rw->List (List W)
 | .hand _ _ _ as=>as
 | .house _ _ _ _ as=>as
noncomputable def actT (a:List W):W:=catS [32] a
noncomputable def zcf (r:Rw):W:=catS [32] (zaP r)
noncomputable def rowT (r:Rw):W:=if (zay r).isEmpty then zcf r else zcf r++[58,32]++catS [44,32] ((zay r).map actT)
structure Sm (r:Rw):Prop where
 hd:∀ w∈zaP r,w.length<=8
 n:(zay r).length<=6
 al:∀ a∈zay r,a.length<=3
 aw:∀ a∈zay r,∀ w∈a,w.length<=8
theorem Sm.act {r:Rw} (s:Sm r) {a:List W} (ha:a∈zay r):(actT a).length<=27:=by
 have h1:=zcl (z:=[32]) a (s.aw a ha)
 have h2:=s.al a ha
 show (catS [32] a).length<=27
 simp only [List.length_cons,List.length_nil] at h1
 omega
theorem Sm.head {r:Rw} (s:Sm r):(zcf r).length<=54:=by
 have h1:=zcl (z:=[32]) (zaP r) s.hd
 have h2:(zaP r).length<=6:=by cases r<;>simp [zaP]
 show (catS [32] (zaP r)).length<=54
 simp only [List.length_cons,List.length_nil] at h1
 omega
theorem Sm.acts {r:Rw} (s:Sm r):(catS [44,32] ((zay r).map actT)).length<=174:=by
 have h1:=zcl (z:=[44,32]) (B:=27) ((zay r).map actT) λx hx=>by
  obtain ⟨a,ha,rfl⟩:=List.mem_map.mp hx
  exact s.act ha
 have:=s.n
 rw [List.length_map] at h1
 simp only [List.length_cons,List.length_nil] at h1
 omega
theorem Sm.row {r:Rw} (s:Sm r):(rowT r).length<=230:=by
 have h1:=s.head
 have h2:=s.acts
 unfold rowT
 split
 ·omega
 ·simp only [List.length_append,List.length_cons,List.length_nil];omega
theorem zf7 (n:Nat) {h:Sto} {r:Rw} {Q:R->Sto->Prop} (s:Sm r) (k:Q (.d (.str (rowT r))) h):Ok (zaq P (n+1) 13 [.d (rowD r)] h) Q:=by
 refine cl (F:=⟨1,4,zdo,false,[],false⟩) rfl rfl rfl ?_
 have h1:=s.head
 have h2:=s.acts
 have e1:tmD .join (.str [32]) [.tup ((zaP r).map D.str)]=some (.str (zcf r)):=zgt 8 s.hd (by cases r<;>simp [zaP])
 cases r with
 | hand a e nx as=>
  (conv=>whnf)
  refine st e1 ?_
  (conv=>whnf)
  refine ask (zaE (dD:=actD) (g:=λa=>D.str (actT a)) (λx hx=>?_) zah ?_)
  ·refine gc ?_
   (conv=>whnf)
   have h3:=s.al x hx
   refine st (zgt 8 (s.aw x hx) (by simp only [List.length_cons,List.length_nil];omega)) ?_
   exact ⟨rfl,rfl⟩
  ·have em:as.map (λa=>D.str (actT a))=(as.map actT).map D.str:=by rw [List.map_map];rfl
   rw [em]
   (conv=>whnf)
   refine br (λc=>?_) (λc=>?_)
   ·have c:as=[]:=by
     cases as with
     | nil=>rfl
     | cons _ _=>exact absurd c (by simp)
    subst c
    (conv=>whnf)
    exact f0 k
   ·have c:(zay (.hand a e nx as)).isEmpty=false:=by
     cases as with
     | nil=>exact absurd c (by decide)
     | cons _ _=>rfl
    (conv=>whnf)
    refine st (addS (by simp only [List.length_cons,List.length_nil];omega)) ?_
    (conv=>whnf)
    refine st (zfK 27 (λx hx=>?_) ?_) ?_
    ·obtain ⟨a,ha,rfl⟩:=List.mem_map.mp hx
     exact s.act ha
    ·have:=s.n
     have h9:as.length<=6:=this
     rw [List.length_map]
     simp only [List.length_cons,List.length_nil]
     omega
    (conv=>whnf)
    have h8:(catS [44,32] (as.map actT)).length<=174:=h2
    refine st (addS (by simp only [List.length_append,List.length_cons,List.length_nil];omega)) ?_
    (conv=>whnf)
    refine f0 ?_
    unfold rowT at k
    rw [c] at k
    exact k
 | house a kd w nx as=>
  (conv=>whnf)
  refine st e1 ?_
  (conv=>whnf)
  refine ask (zaE (dD:=actD) (g:=λa=>D.str (actT a)) (λx hx=>?_) zah ?_)
  ·refine gc ?_
   (conv=>whnf)
   have h3:=s.al x hx
   refine st (zgt 8 (s.aw x hx) (by simp only [List.length_cons,List.length_nil];omega)) ?_
   exact ⟨rfl,rfl⟩
  ·have em:as.map (λa=>D.str (actT a))=(as.map actT).map D.str:=by rw [List.map_map];rfl
   rw [em]
   (conv=>whnf)
   refine br (λc=>?_) (λc=>?_)
   ·have c:as=[]:=by
     cases as with
     | nil=>rfl
     | cons _ _=>exact absurd c (by simp)
    subst c
    (conv=>whnf)
    exact f0 k
   ·have c:(zay (.house a kd w nx as)).isEmpty=false:=by
     cases as with
     | nil=>exact absurd c (by decide)
     | cons _ _=>rfl
    (conv=>whnf)
    refine st (addS (by simp only [List.length_cons,List.length_nil];omega)) ?_
    (conv=>whnf)
    refine st (zfK 27 (λx hx=>?_) ?_) ?_
    ·obtain ⟨a,ha,rfl⟩:=List.mem_map.mp hx
     exact s.act ha
    ·have:=s.n
     have h9:as.length<=6:=this
     rw [List.length_map]
     simp only [List.length_cons,List.length_nil]
     omega
    (conv=>whnf)
    have h8:(catS [44,32] (as.map actT)).length<=174:=h2
    refine st (addS (by simp only [List.length_append,List.length_cons,List.length_nil];omega)) ?_
    (conv=>whnf)
    refine f0 ?_
    unfold rowT at k
    rw [c] at k
    exact k
structure Tb where
 ps:List (W×W)
 ho:List W
 rs:List Rw
noncomputable def tbD (t:Tb):D:=.tup [.tup (t.ps.map pairD),.tup (t.ho.map D.str),.tup (t.rs.map rowD)]
noncomputable abbrev zpY:W:=[104,97,110,100,115,32]
noncomputable abbrev zmw:W:=[104,111,117,115,101,115,32]
noncomputable def zcw (p:W×W):W:=catS [32] [p.1,p.2]
noncomputable def handsT (t:Tb):W:=zpY++catS [44,32] (t.ps.map zcw)
noncomputable def zbk (t:Tb):W:=zmw++catS [44,32] t.ho
noncomputable def tbL (t:Tb):List W:=handsT t::zbk t::t.rs.map rowT
noncomputable def tbT (t:Tb):W:=catS [10] (tbL t)
structure TbSm (t:Tb):Prop where
 p8:t.ps.length<=8
 pw:∀ p∈t.ps,p.1.length<=8/\p.2.length<=8
 h8:t.ho.length<=8
 hw:∀ w∈t.ho,w.length<=8
 r16:t.rs.length<=16
 rw:∀ r∈t.rs,Sm r
theorem TbSm.pair {t:Tb} (s:TbSm t) {p:W×W} (hp:p∈t.ps):(zcw p).length<=18:=by
 have:=s.pw p hp
 have:=zcl (z:=[32]) (B:=8) [p.1,p.2] (by intro x hx;simp at hx;rcases hx with rfl | rfl<;>omega)
 exact this
theorem TbSm.pairs {t:Tb} (s:TbSm t):(catS [44,32] (t.ps.map zcw)).length<=160:=by
 have h1:=zcl (z:=[44,32]) (B:=18) (t.ps.map zcw) λx hx=>by
  obtain ⟨p,hp,rfl⟩:=List.mem_map.mp hx
  exact s.pair hp
 have:=s.p8
 rw [List.length_map] at h1
 simp only [List.length_cons,List.length_nil] at h1
 omega
theorem TbSm.hos {t:Tb} (s:TbSm t):(catS [44,32] t.ho).length<=80:=by
 have h1:=zcl (z:=[44,32]) t.ho s.hw
 have:=s.h8
 simp only [List.length_cons,List.length_nil] at h1
 omega
theorem TbSm.line {t:Tb} (s:TbSm t):∀ x∈tbL t,x.length<=230:=by
 have h1:=s.pairs
 have h2:=s.hos
 intro x hx
 rcases List.mem_cons.mp hx with rfl | hx
 ·unfold handsT;simp only [List.length_append,List.length_cons,List.length_nil];omega
 ·rcases List.mem_cons.mp hx with rfl | hx
  ·unfold zbk;simp only [List.length_append,List.length_cons,List.length_nil];omega
  ·obtain ⟨r,hr,rfl⟩:=List.mem_map.mp hx
   exact (s.rw r hr).row
theorem TbSm.lines {t:Tb} (s:TbSm t):(tbL t).length<=18:=by
 have:=s.r16
 simp [tbL];omega
theorem zcy (n:Nat) {h:Sto} {t:Tb} {Q:R->Sto->Prop} (s:TbSm t) (k:Q (.d (.str (tbT t))) h):Ok (zaq P (n+2) 12 [.d (tbD t)] h) Q:=by
 refine cl (F:=⟨1,5,zcd,false,[],false⟩) rfl rfl rfl ?_
 have h1:=s.pairs
 have h2:=s.hos
 have h3:=s.p8
 have h4:=s.h8
 have h5:=s.r16
 (conv=>whnf)
 refine ask (zaE (dD:=pairD) (g:=λp=>D.str (zcw p)) (λp hp=>?_) zah ?_)
 ·refine gc ?_
  (conv=>whnf)
  have:=s.pw p hp
  refine st (zgt (l:=[p.1,p.2]) 8 (by intro x hx;simp at hx;rcases hx with rfl | rfl<;>omega) (by simp only [List.length_cons,List.length_nil];omega)) ?_
  exact ⟨rfl,rfl⟩
 have em:t.ps.map (λp=>D.str (zcw p))=(t.ps.map zcw).map D.str:=by rw [List.map_map];rfl
 rw [em]
 (conv=>whnf)
 refine st (zfK 18 (λx hx=>?_) ?_) ?_
 ·obtain ⟨p,hp,rfl⟩:=List.mem_map.mp hx
  exact s.pair hp
 ·rw [List.length_map];simp only [List.length_cons,List.length_nil];omega
 (conv=>whnf)
 refine st (addS (by simp only [List.length_cons,List.length_nil];omega)) ?_
 (conv=>whnf)
 refine st (zgt 8 s.hw ?_) ?_
 ·simp only [List.length_cons,List.length_nil];omega
 (conv=>whnf)
 refine st (addS (by simp only [List.length_cons,List.length_nil];omega)) ?_
 (conv=>whnf)
 refine st zax ?_
 (conv=>whnf)
 refine ask (zaE (dD:=rowD) (g:=λr=>D.str (rowT r)) (λr hr=>?_) zah ?_)
 ·refine gc ?_
  (conv=>whnf)
  refine ask (zf7 n (s.rw r hr) ?_)
  exact ⟨rfl,rfl⟩
 have em:t.rs.map (λr=>D.str (rowT r))=(t.rs.map rowT).map D.str:=by rw [List.map_map];rfl
 rw [em]
 (conv=>whnf)
 refine st zax ?_
 (conv=>whnf)
 refine ⟨zbE (by simp only [List.length_cons,List.length_nil,List.length_map];omega),?_⟩
 rw [zbt]
 (conv=>whnf)
 refine st zax ?_
 (conv=>whnf)
 have h6:=s.lines
 refine st (zfK (l:=tbL t) 230 s.line ?_) ?_
 ·simp only [List.length_cons,List.length_nil];omega
 (conv=>whnf)
 exact fa k
end K01
set_option linter.all false
set_option maxRecDepth 10000
namespace K01
open IT
theorem splJ {c:Nat} {y x:W} {l:List W} (h:∀ w∈x::l,c ∉ w) (hb:(catS (c::y) (x::l)).length<=1000000):splD (.str (catS (c::y) (x::l))) (.str (c::y))=some ((x::l).map D.str):=by
 have hl:l.length<=(catS (c::y) (x::l)).length:=by
  rcases cat_len (z:=c::y) l x with h | h
  ·simpa using h
  ·cases h
 have e:=zjn (y:=y) l x _ h hl
 rw [zlq (by simp) (zbE (by omega)) (by rw [e];exact zbE (by rw [List.length_cons];omega)),e]
noncomputable def Cl (w:W):Prop:=∀ c∈w,c=45\/62<=c
theorem Cl.no {w:W} (h:Cl w) {c:Nat} (hc:c≠45) (h2:c<62):c ∉ w:=λq=>by
 rcases h c q with z | z<;>omega
theorem Wd.cl {w:W} (h:Wd w):Cl w:=λc hc=>.inr (by have:=zlZ (h.low c hc);omega)
theorem zck (n:Nat) {h:Sto} {x:W} {l:List W} {Q:R->Sto->Prop} (hc:∀ w∈x::l,32 ∉ w) (hb:(catS [32] (x::l)).length<=1000000) (k:Q (.d (actD (x::l))) h):Ok (zaq P (n+1) 18 [.d (.str (catS [32] (x::l)))] h) Q:=by
 refine cl (F:=⟨1,1,zdg,false,[],false⟩) rfl rfl rfl ?_
 (conv=>whnf)
 refine st (splJ hc hb) ?_
 (conv=>whnf)
 exact f0 k
theorem cutF {x r:W}:cut (x++r) (some (x.length:Int)) none=r:=by
 unfold cut
 have e1:sIx (x++r).length 0 (some (x.length:Int))=x.length:=by
  simp only [sIx]
  rw [if_neg (by omega)]
  simp
 have e2:sIx (x++r).length (x++r).length none=(x++r).length:=rfl
 rw [e1,e2,List.drop_left]
 simp
theorem zeN (n:Nat) {h:Sto} {z x:W} {l:List W} {Q:R->Sto->Prop} (hz:z.length<=100) (hc:∀ w∈x::l,44 ∉ w) (hb:(catS [44,32] (x::l)).length<=100000) (k:Q (.d (.lst ((x::l).map D.str))) h) :
  Ok (zaq P (n+1) 17 [.d (.str z),.d (.str (z++catS [44,32] (x::l)))] h) Q:=by
 refine cl (F:=⟨2,2,zbz,false,[],false⟩) rfl rfl rfl ?_
 (conv=>whnf)
 have e1:z.isPrefixOf (z++catS [44,32] (x::l))=true:=by rw [List.isPrefixOf_iff_prefix];exact ⟨_,rfl⟩
 refine bf (by rw [e1];rfl) ?_
 (conv=>whnf)
 refine st (lenS (by omega)) ?_
 (conv=>whnf)
 refine st ((zpj (zbE (by rw [List.length_append];omega))).trans (congrArg (λx=>some (D.str x)) cutF)) ?_
 (conv=>whnf)
 refine st (splJ hc (by omega)) ?_
 (conv=>whnf)
 exact f0 k
theorem zc3 {c:Nat} {z:W} (hz:c ∉ z):∀ l:List W,(∀ w∈l,c ∉ w)->c ∉ catS z l
 | [],_=>by simp [catS]
 | [x],h=>by have:=h x List.mem_cons_self;simpa [catS] using this
 | x::y::l,h=>by
  rw [zdP]
  intro q
  rcases List.mem_append.mp q with q | q
  ·exact h x List.mem_cons_self q
  ·rcases List.mem_append.mp q with q | q
   ·exact hz q
   ·exact zc3 hz (y::l) (λw hw=>h w (List.mem_cons_of_mem _ hw)) q
structure TbCl (t:Tb):Prop where
 p1:t.ps≠[]
 pc:∀ p∈t.ps,Cl p.1/\Cl p.2
 h1:t.ho≠[]
 hc:∀ w∈t.ho,Cl w
theorem zjt {p:W×W} (h:Cl p.1/\Cl p.2) {c:Nat} (hc:c≠45) (h2:c<62) (h3:c≠32):c ∉ zcw p:=
 zc3 (by simp;exact h3) _ λw hw=>by
  simp at hw
  rcases hw with rfl | rfl
  ·exact h.1.no hc h2
  ·exact h.2.no hc h2
theorem zev (n:Nat) {h:Sto} {t:Tb} {Q:R->Sto->Prop} (s:TbSm t) (c:TbCl t) (k:Q (.d (.tup (t.ps.map pairD))) h):Ok (zaq P (n+2) 15 [.d (.str (handsT t))] h) Q:=by
 refine cl (F:=⟨1,2,zch,false,[],false⟩) rfl rfl rfl ?_
 have h1:=s.pairs
 obtain ⟨x,l,e⟩:∃ x l,t.ps.map zcw=x::l:=by
  cases e:t.ps with
  | nil=>exact absurd e c.p1
  | cons p r=>exact ⟨_,_,rfl⟩
 have hm:∀ w∈x::l,44 ∉ w:=by
  intro w hw
  rw [<-e] at hw
  obtain ⟨p,hp,rfl⟩:=List.mem_map.mp hw
  exact zjt (c.pc p hp) (by decide) (by decide) (by decide)
 (conv=>whnf)
 unfold handsT
 rw [e] at h1 ⊢
 refine ask (zeN n (by decide) hm (by omega) ?_)
 rw [<-e]
 (conv=>whnf)
 have em:(t.ps.map zcw).map D.str=t.ps.map (λp=>D.str (zcw p)):=by rw [List.map_map];rfl
 rw [em]
 refine ask (zaE (dD:=λp=>D.str (zcw p)) (g:=pairD) (λp hp=>?_) zah ?_)
 ·refine gc ?_
  (conv=>whnf)
  have:=s.pair hp
  refine ask (zck n (x:=p.1) (l:=[p.2]) (λw hw=>?_) (Nat.le_trans this (by decide)) ?_)
  ·simp at hw
   rcases hw with rfl | rfl
   ·exact (c.pc p hp).1.no (by decide) (by decide)
   ·exact (c.pc p hp).2.no (by decide) (by decide)
  ·exact ⟨rfl,rfl⟩
 ·(conv=>whnf)
  exact f0 k
theorem zdV (n:Nat) {h:Sto} {t:Tb} {Q:R->Sto->Prop} (s:TbSm t) (c:TbCl t) (k:Q (.d (.tup (t.ho.map D.str))) h):Ok (zaq P (n+2) 16 [.d (.str (zbk t))] h) Q:=by
 refine cl (F:=⟨1,1,zbV,false,[],false⟩) rfl rfl rfl ?_
 have h1:=s.hos
 obtain ⟨x,l,e⟩:∃ x l,t.ho=x::l:=by
  cases e:t.ho with
  | nil=>exact absurd e c.h1
  | cons p r=>exact ⟨_,_,rfl⟩
 (conv=>whnf)
 unfold zbk
 have hm:=c.hc
 rw [e] at h1 hm k ⊢
 refine ask (zeN n (by decide) (λw hw=>(hm w hw).no (by decide) (by decide)) (by omega) ?_)
 (conv=>whnf)
 exact f0 k
structure RwCl (r:Rw):Prop where
 hd:∀ w∈zaP r,Cl w
 ac:∀ a∈zay r,a≠[]/\∀ w∈a,Cl w
theorem zkd {x:W} (h:58 ∉ x) (hb:x.length<=1000000):tmD .parti (.str x) [.str [58,32]]=some (.tup [.str x,.str [],.str []]):=by
 rw [zhG (by decide) (zbE (by omega)),fnd_none h]
theorem zj5 {x r:W} (h:58 ∉ x) (hb:(x++[58,32]++r).length<=1000000):tmD .parti (.str (x++[58,32]++r)) [.str [58,32]]=some (.tup [.str x,.str [58,32],.str r]):=by
 rw [zhG (by decide) (zbE (by omega)),List.append_assoc,zjm h]
 simp only
 rw [List.take_left,<-List.append_assoc,show x.length+[58,32].length=(x++[58,32]).length by simp,List.drop_left]
theorem zgn (n:Nat) {h:Sto} {r:Rw} {Q:R->Sto->Prop} (s:Sm r) (c:RwCl r) (k:Q (.d (rowD r)) h):Ok (zaq P (n+2) 20 [.d (.str (rowT r))] h) Q:=by
 refine cl (F:=⟨1,5,zdz,false,[],false⟩) rfl rfl rfl ?_
 have h1:=s.head
 have h2:=s.acts
 have h3:=s.row
 have hh:58 ∉ zcf r:=zc3 (by decide) _ λw hw=>(c.hd w hw).no (by decide) (by decide)
 obtain ⟨x,l,e⟩:∃ x l,zaP r=x::l:=by cases r<;>exact ⟨_,_,rfl⟩
 have hw:∀ w∈x::l,32 ∉ w:=by rw [<-e];exact λw hw=>(c.hd w hw).no (by decide) (by decide)
 have wc:∀ {h:Sto} {Q:R->Sto->Prop},Q (.d (actD (zaP r))) h->Ok (zaq P (n+1) 18 [.d (.str (zcf r))] h) Q:=by
  intro h Q q
  unfold zcf at h1 ⊢
  rw [e] at h1 q ⊢
  exact zck n hw (by omega) q
 by_cases ea:zay r=[]
 ·have et:rowT r=zcf r:=by unfold rowT;rw [ea];rfl
  rw [et]
  (conv=>whnf)
  refine st (zkd hh (by omega)) ?_
  (conv=>whnf)
  refine ask (wc ?_)
  cases r with
  | hand a e nx as=>
   have ea:as=[]:=ea
   subst ea
   (conv=>whnf)
   exact f0 k
  | house a kd w nx as=>
   have ea:as=[]:=ea
   subst ea
   (conv=>whnf)
   exact f0 k
 ·have et:rowT r=zcf r++[58,32]++catS [44,32] ((zay r).map actT):=by
   unfold rowT
   cases e:zay r with
   | nil=>exact absurd e ea
   | cons _ _=>rfl
  obtain ⟨y,m,e2⟩:∃ y m,(zay r).map actT=y::m:=by
   cases e:zay r with
   | nil=>exact absurd e ea
   | cons p q=>exact ⟨_,_,rfl⟩
  have hm:∀ w∈y::m,44 ∉ w:=by
   intro w hw
   rw [<-e2] at hw
   obtain ⟨a,ha,rfl⟩:=List.mem_map.mp hw
   exact zc3 (by decide) _ λw hw=>((c.ac a ha).2 w hw).no (by decide) (by decide)
  have sp:splD (.str (catS [44,32] ((zay r).map actT))) (.str [44,32])=some ((zay r).map λa=>D.str (actT a)):=by
   have:=splJ (y:=[32]) hm (by rw [<-e2];exact Nat.le_trans h2 (by decide))
   rw [<-e2,List.map_map] at this
   exact this
  have hb:(zcf r++[58,32]++catS [44,32] ((zay r).map actT)).length<=1000000:=by rw [<-et];omega
  rw [et]
  (conv=>whnf)
  refine st (zj5 hh hb) ?_
  (conv=>whnf)
  refine ask (wc ?_)
  have turn:∀ a∈zay r,∀ {h:Sto} {Q:R->Sto->Prop},Q (.d (actD a)) h->Ok (zaq P (n+1) 18 [.d (.str (actT a))] h) Q:=by
   intro a ha h Q q
   have h4:=s.act ha
   obtain ⟨hn,hc⟩:=c.ac a ha
   cases a with
   | nil=>exact absurd rfl hn
   | cons x l=>
    exact zck n (λw hw=>(hc w hw).no (by decide) (by decide)) (Nat.le_trans h4 (by decide)) q
  cases r with
  | hand a e nx as=>
   (conv=>whnf)
   refine st sp ?_
   (conv=>whnf)
   refine ask (zaE (dD:=λa=>D.str (actT a)) (g:=actD) (λx hx=>?_) zah ?_)
   ·refine gc ?_
    (conv=>whnf)
    exact ask (turn x hx ⟨rfl,rfl⟩)
   ·(conv=>whnf)
    exact f0 k
  | house a kd w nx as=>
   (conv=>whnf)
   refine st sp ?_
   (conv=>whnf)
   refine ask (zaE (dD:=λa=>D.str (actT a)) (g:=actD) (λx hx=>?_) zah ?_)
   ·refine gc ?_
    (conv=>whnf)
    exact ask (turn x hx ⟨rfl,rfl⟩)
   ·(conv=>whnf)
    exact f0 k
end K01
set_option linter.all false
set_option maxRecDepth 10000
namespace K01
open IT
noncomputable def zbl:Rw->List W
 | .hand s e _ _=>[zdI,s,e]
 | .house s k w _ _=>[zbc,s,k,w]
theorem zkJ (r:Rw):place r=actD (zbl r):=by cases r<;>rfl
noncomputable def rivW:Rw->List (List W)
 | .hand s e _ _=>[[zdI,s,e]]
 | .house s k w _ _=>(if w==kany then whens else [kany,w]).map λx=>[zbc,s,k,x]
theorem ziK (r:Rw):ziY r=(rivW r).map actD:=by
 cases r with
 | hand s e nx as=>rfl
 | house s k w nx as=>simp only [ziY,rivW,List.map_map];rfl
theorem zgj:∀ a b:List W,D.sames (a.map D.str) (b.map D.str)=(a==b)
 | [],[]=>rfl
 | [],_::_=>rfl
 | _::_,[]=>rfl
 | x::a,y::b=>by
  show (D.same (.str x) (.str y)&&D.sames (a.map D.str) (b.map D.str))=_
  rw [zgj a b]
  rfl
theorem zo0 (a b:List W):(actD a).same (actD b)=(a==b):=zgj a b
theorem ziI:∀ a:List W,D.hks (a.map D.str)=true
 | []=>rfl
 | x::a=>by
  show (D.hk (.str x)&&D.hks (a.map D.str))=true
  rw [ziI a]
  rfl
theorem keyA (a:List W):zbU (actD a)=true:=by
 show (D.hks (a.map D.str)&&decide (D.deps (a.map D.str)<=6))=true
 rw [ziI]
 have:D.deps (a.map D.str)<=6:=zgJ λx hx=>by
  obtain ⟨w,_,rfl⟩:=List.mem_map.mp hx
  simp [D.dep]
 simp [this]
noncomputable def zdD (ps:List (List W)):List (D×D):=ps.map λp=>(actD p,D.bl true)
theorem zgh (a:List W):∀ ps:List (List W),(dGet (actD a) (zdD ps)).isSome=ps.contains a
 | []=>rfl
 | p::ps=>by
  show (if (actD p).same (actD a) then some (D.bl true) else dGet (actD a) (zdD ps)).isSome=_
  rw [zo0,List.contains_cons]
  by_cases h:p=a
  ·subst h;simp
  ·have h1:(p==a)=false:=by simpa using h
   have h2:(a==p)=false:=by simpa using λe=>h e.symm
   rw [h1,h2,Bool.false_or]
   exact zgh a ps
theorem zgc (a:List W):∀ ps:List (List W),ps.contains a=false->dPut (actD a) (.bl true) (zdD ps)=zdD (ps++[a])
 | [],_=>rfl
 | p::ps,h=>by
  rw [List.contains_cons,Bool.or_eq_false_iff] at h
  have h1:(p==a)=false:=by
   have:=h.1
   simp at this ⊢
   exact λe=>this e.symm
  show (if (actD p).same (actD a) then _ else _::dPut (actD a) (.bl true) (zdD ps))=_
  rw [zo0,h1,zgc a ps h.2]
  rfl
noncomputable def enuL:Int->List D->List Ite
 | _,[]=>[]
 | k,x::r=>.en k (.d x)::enuL (k+1) r
theorem zmc:∀ (xs:List D) (k:Int),za6 k (xs.map dI)=some (enuL k xs)
 | [],_=>rfl
 | x::xs,k=>by
  show (match za6 (k+1) (xs.map dI) with | some l=>some (Ite.en k (.d x)::l) | none=>none)=_
  rw [zmc xs (k+1)]
  rfl
noncomputable def zipi:Int->List Rw->List (Int×Rw)
 | _,[]=>[]
 | k,r::rs=>(k,r)::zipi (k+1) rs
theorem zhH:∀ (rs:List Rw) (k:Int),(zipi k rs).length=rs.length
 | [],_=>rfl
 | r::rs,k=>by rw [zipi,List.length_cons,zhH rs,List.length_cons]
theorem zhw:∀ (rs:List Rw) (k:Int) (i:Nat) (p:Int×Rw),(zipi k rs)[i]?=some p->rs[i]?=some p.2
 | [],_,i,p,h=>by simp [zipi] at h
 | r::rs,k,0,p,h=>by simp [zipi] at h;subst h;rfl
 | r::rs,k,i+1,p,h=>by
  rw [zipi,List.getElem?_cons_succ] at h
  rw [List.getElem?_cons_succ]
  exact zhw rs (k+1) i p h
theorem zhn:∀ (rs:List Rw) (k:Int),enuL k (rs.map λr=>D.str (rowT r))=(zipi k rs).map λp=>Ite.en p.1 (.d (.str (rowT p.2)))
 | [],_=>rfl
 | r::rs,k=>by rw [List.map_cons,enuL,zhn rs (k+1)];rfl
theorem zrO {k:Nat} {xs:List D} {h:Sto} {Q:Wk->Sto->Prop} (hk:k<1000) (q:Q ⟨enuL k xs,none⟩ h):Ok (zft k (.d (.lst xs)) h) Q:=by
 unfold zft
 rw [if_pos (by simp [isLs,hk])]
 rw [propext ok_bnd,propext zhE]
 simp only [zmc]
 exact ok_ok.mpr q
theorem cut2 {α:Type} {a b:α} {l:List α}:cut (a::b::l) (some 2) none=l:=by
 unfold cut
 have e1:sIx (a::b::l).length 0 (some 2)=2:=by simp [sIx]
 have e2:sIx (a::b::l).length (a::b::l).length none=(a::b::l).length:=rfl
 rw [e1,e2]
 simp
theorem zfs (n:Nat) {h:Sto} {t:Tb} {hs:List W} {Q:R->Sto->Prop} (s:TbSm t) (rc:∀ r∈t.rs,RwCl r) (ok:∀ r∈t.rs,RwOk hs t.ho r) (ap:t.rs.Pairwise λa b=>(rivW b).contains (zbl a)=false)
  (k:Q (.d (.tup (t.rs.map rowD))) h):Ok (zaq P (n+7) 19 [.d (.lst ((tbL t).map D.str)),.d (.tup (hs.map D.str)),.d (.tup (t.ho.map D.str))] h) Q:=by
 refine cl (F:=⟨3,9,zcP,false,[],false⟩) rfl rfl rfl ?_
 have ecut:cut ((tbL t).map D.str) (some 2) none=t.rs.map (λr=>D.str (rowT r)):=by
  show cut (_::_::(t.rs.map rowT).map D.str) (some 2) none=_
  rw [cut2,List.map_map]
  rfl
 have h16:=s.r16
 (conv=>whnf)
 rw [ecut]
 have ez:enuL ((2:Nat):Int) (t.rs.map λr=>D.str (rowT r))=(zipi 2 t.rs).map λp=>Ite.en p.1 (.d (.str (rowT p.2))):=zhn t.rs 2
 refine zrO (by decide) ?_
 rw [ez]
 refine ask (zfP (g:=λp=>Ite.en p.1 (.d (.str (rowT p.2)))) (xs:=zipi 2 t.rs) (λi σ h'=>i<=t.rs.length/\h'=h++[Ob.lst ((t.rs.take i).map rowD),Ob.dic (zdD ((t.rs.take i).map zbl))]/\∃ v5 v6 v7,σ=[some (R.d (.lst ((tbL t).map D.str))),some (R.d (.tup (hs.map D.str))),some (R.d (.tup (t.ho.map D.str))),some (R.loc h.length),some (R.loc (h.length+1)),v5,v6,v7,none]) ?_ ?_ ?_)
 ·rintro i p σ h' hp ⟨hi,rfl,v5,v6,v7,rfl⟩
  have hr:=zhw _ _ _ _ hp
  generalize p.2=r at hr
  have hm:r∈t.rs:=List.mem_of_getElem? hr
  refine gb ?_
  (conv=>whnf)
  have hlt:i<t.rs.length:=(List.getElem?_eq_some_iff.mp hr).1
  have et:t.rs.take (i+1)=t.rs.take i++[r]:=by rw [List.take_succ,hr];rfl
  have hno:∀ a∈t.rs.take i,(rivW r).contains (zbl a)=false:=by
   intro a ha
   have ap2:(t.rs.take (i+1)).Pairwise λa b=>(rivW b).contains (zbl a)=false:=ap.sublist (List.take_sublist _ _)
   rw [et,List.pairwise_append] at ap2
   exact ap2.2.2 a ha r (List.mem_singleton.mpr rfl)
  have hany:(rivW r).any (λa=>((t.rs.take i).map zbl).contains a)=false:=by
   rw [List.any_eq_false]
   intro a ha q
   rw [List.contains_iff_mem] at q
   obtain ⟨b,hb,rfl⟩:=List.mem_map.mp q
   have:=hno b hb
   rw [<-Bool.not_eq_true,List.contains_iff_mem] at this
   exact this ha
  have hnew:((t.rs.take i).map zbl).contains (zbl r)=false:=by
   rw [List.any_eq_false] at hany
   have hin:zbl r∈rivW r:=by
    cases r with
    | hand a e nx as=>exact List.mem_cons_self
    | house a kd w nx as=>
     have hw:whens.contains w=true:=(ok _ hm).2.2.2.1
     show [zbc,a,kd,w]∈(if w==kany then whens else [kany,w]).map λx=>[zbc,a,kd,x]
     refine List.mem_map.mpr ⟨w,?_,rfl⟩
     split
     ·exact List.contains_iff_mem.mp hw
     ·simp
   have:=hany _ hin
   simpa using this
  refine ask (zgn (n+4) (s.rw r hm) (rc r hm) ?_)
  (conv=>whnf)
  refine bf (by cases r<;>rfl) ?_
  (conv=>whnf)
  refine ask (zh0 n (ok r hm) ?_)
  (conv=>whnf)
  refine ask (zg3 (n+5) ?_)
  rw [ziK]
  (conv=>whnf)
  refine ask (zaE (dD:=actD) (g:=λa=>D.bl (((t.rs.take i).map zbl).contains a)) (λa ha=>?_) zah ?_)
  ·refine gc ?_
   (conv=>whnf)
   refine st zaU ?_
   (conv=>whnf)
   refine bt (keyA a) ?_
   (conv=>whnf)
   exact ⟨congrArg (λb=>some (D.bl b)) (zgh a _),rfl⟩
  (conv=>whnf)
  refine st zo8 ?_
  (conv=>whnf)
  refine bf hany ?_
  (conv=>whnf)
  refine ask (zh9 (n+5) ?_)
  rw [zkJ]
  (conv=>whnf)
  refine bt (keyA _) ?_
  (conv=>whnf)
  refine st zaU ?_
  (conv=>whnf)
  refine ⟨by unfold big;simp [zdD];omega,?_⟩
  rw [zc0,zgc _ _ hnew]
  (conv=>whnf)
  refine st zax ?_
  (conv=>whnf)
  refine st zax ?_
  (conv=>whnf)
  refine ⟨by unfold big;simp;omega,?_⟩
  rw [zbt]
  refine ⟨rfl,zah,by omega,?_,_,_,_,rfl⟩
  rw [et]
  simp
 ·rintro σ h' ⟨_,rfl,v5,v6,v7,rfl⟩
  rw [zhH,List.take_length]
  (conv=>whnf)
  refine st zax ?_
  (conv=>whnf)
  exact fa k
 ·refine ⟨Nat.zero_le _,?_,none,none,none,?_⟩
  ·simp [zdD]
  ·show [_,_,_,_,some (R.loc (h++[Ob.lst []]).length),_,_,_,_]=_
   rw [List.length_append]
   rfl
end K01
set_option linter.all false
set_option maxRecDepth 10000
namespace K01
open IT
noncomputable def wdB (w:W):Bool:=decide (1<=w.length)&&decide (w.length<=8)&&w.all low
theorem zk7 {w:W} (h:wdB w=true):Wd w:=by
 simp only [wdB,Bool.and_eq_true,decide_eq_true_eq,List.all_eq_true] at h
 exact ⟨h.1.1,h.1.2,h.2⟩
theorem zeb {l:List W} (h:l.all wdB=true) {w:W} (hw:l.contains w=true):Wd w:=
 zk7 (List.all_eq_true.mp h w (List.contains_iff_mem.mp hw))
theorem Act.ok {plain sends:List W} (hp:plain.all wdB=true) (hs:sends.all wdB=true) {a:List W} (h:Act plain sends a):a≠[]/\a.length<=3/\∀ w∈a,Wd w:=by
 cases h with
 | one h=>exact ⟨by simp,by simp,λw hw=>by simp at hw;subst hw;exact zeb hp h⟩
 | send h hk hl=>
  refine ⟨by simp,by simp,λw hw=>?_⟩
  simp at hw
  rcases hw with rfl | rfl | rfl
  ·exact zeb hs h
  ·exact hk.toWd
  ·exact zeb (l:=zks) (by decide) hl
theorem zgU {hs ho:List W} {r:Rw} (h:RwOk hs ho r):(zay r).length<=6/\∀ a∈zay r,a≠[]/\a.length<=3/\∀ w∈a,Wd w:=by
 cases r with
 | hand s e n as=>exact ⟨h.2.2.2.2.2.1,λa ha=>(h.2.2.2.2.2.2 a ha).ok (by decide) (by decide)⟩
 | house s k w n as=>
  rcases h.2.2.2.2 with ⟨e,_⟩ | h
  ·have e:as=[[zeB]]:=e
   subst e
   refine ⟨by simp [zay],λa ha=>?_⟩
   have:a=[zeB]:=by simpa [zay] using ha
   subst this
   exact ⟨by simp,by simp,λw hw=>by simp at hw;subst hw;exact zk7 (by decide)⟩
  ·exact ⟨h.1,λa ha=>(h.2 a ha).ok (by decide) (by decide)⟩
theorem zj8 {hs ho:List W} (hh:∀ w∈hs,Wd w) (hg:∀ w∈ho,Wd w) {r:Rw} (h:RwOk hs ho r):∀ w∈zaP r,w.length<=8/\Cl w:=by
 have wd:∀ w,Wd w->w.length<=8/\Cl w:=λw h=>⟨h.most,h.cl⟩
 have arr:karr.length<=8/\Cl karr:=⟨by decide,λc hc=>by simp [karr] at hc;omega⟩
 cases r with
 | hand s e n as=>
  intro w hw
  simp [zaP] at hw
  rcases hw with rfl | rfl | rfl | rfl | rfl
  ·exact wd _ (zk7 (by decide))
  ·exact wd _ (hh _ (List.contains_iff_mem.mp h.1))
  ·exact wd _ h.2.2.1
  ·exact arr
  ·exact wd _ (hh _ (List.contains_iff_mem.mp h.2.1))
 | house s k wn n as=>
  intro w hw
  simp [zaP] at hw
  rcases hw with rfl | rfl | rfl | rfl | rfl | rfl
  ·exact wd _ (zk7 (by decide))
  ·exact wd _ (hg _ (List.contains_iff_mem.mp h.1))
  ·exact wd _ h.2.2.1.toWd
  ·exact wd _ (zeb (l:=whens) (by decide) h.2.2.2.1)
  ·exact arr
  ·exact wd _ (hg _ (List.contains_iff_mem.mp h.2.1))
structure TbOk (t:Tb):Prop where
 hs:Sts (t.ps.map Prod.fst)
 rt:∀ p∈t.ps,zeQ.contains p.2=true
 ho:Sts t.ho
 r16:t.rs.length<=16
 ok:∀ r∈t.rs,RwOk (t.ps.map Prod.fst) t.ho r
 ap:t.rs.Pairwise λa b=>(rivW b).contains (zbl a)=false
theorem TbOk.pw {t:Tb} (h:TbOk t):∀ p∈t.ps,Wd p.1/\Wd p.2:=λp hp=>⟨h.hs.wd _ (List.mem_map.mpr ⟨p,hp,rfl⟩),zeb (l:=zeQ) (by decide) (h.rt p hp)⟩
theorem TbOk.sm {t:Tb} (h:TbOk t):TbSm t where
 p8:=by have:=h.hs.most;simpa using this
 pw:=λp hp=>⟨(h.pw p hp).1.most,(h.pw p hp).2.most⟩
 h8:=h.ho.most
 hw:=λw hw=>(h.ho.wd w hw).most
 r16:=h.r16
 rw:=λr hr=>by
  have a:=zgU (h.ok r hr)
  have b:=zj8 h.hs.wd h.ho.wd (h.ok r hr)
  exact ⟨λw hw=>(b w hw).1,a.1,λx hx=>(a.2 x hx).2.1,λx hx w hw=>((a.2 x hx).2.2 w hw).most⟩
theorem TbOk.rc {t:Tb} (h:TbOk t):∀ r∈t.rs,RwCl r:=λr hr=>by
 have a:=zgU (h.ok r hr)
 have b:=zj8 h.hs.wd h.ho.wd (h.ok r hr)
 exact ⟨λw hw=>(b w hw).2,λx hx=>⟨(a.2 x hx).1,λw hw=>((a.2 x hx).2.2 w hw).cl⟩⟩
theorem TbOk.tc {t:Tb} (h:TbOk t):TbCl t where
 p1:=λe=>by have:=h.hs.pos;rw [e] at this;simp at this
 pc:=λp hp=>⟨(h.pw p hp).1.cl,(h.pw p hp).2.cl⟩
 h1:=λe=>by have:=h.ho.pos;rw [e] at this;simp at this
 hc:=λw hw=>(h.ho.wd w hw).cl
theorem TbOk.lf {t:Tb} (h:TbOk t):∀ x∈tbL t,10 ∉ x:=by
 intro x hx
 rcases List.mem_cons.mp hx with rfl | hx
 ·unfold handsT
  intro q
  rcases List.mem_append.mp q with q | q
  ·exact absurd q (by decide)
  ·refine zc3 (by decide) _ (λw hw=>?_) q
   obtain ⟨p,hp,rfl⟩:=List.mem_map.mp hw
   exact zjt (h.tc.pc p hp) (by decide) (by decide) (by decide)
 ·rcases List.mem_cons.mp hx with rfl | hx
  ·unfold zbk
   intro q
   rcases List.mem_append.mp q with q | q
   ·exact absurd q (by decide)
   ·exact zc3 (by decide) _ (λw hw=>(h.tc.hc w hw).no (by decide) (by decide)) q
  ·obtain ⟨r,hr,rfl⟩:=List.mem_map.mp hx
   have c:=h.rc r hr
   have hd:10 ∉ zcf r:=zc3 (by decide) _ λw hw=>(c.hd w hw).no (by decide) (by decide)
   unfold rowT
   split
   ·exact hd
   ·intro q
    rcases List.mem_append.mp q with q | q
    ·rcases List.mem_append.mp q with q | q
     ·exact hd q
     ·exact absurd q (by decide)
    ·refine zc3 (by decide) _ (λw hw=>?_) q
     obtain ⟨a,ha,rfl⟩:=List.mem_map.mp hw
     exact zc3 (by decide) _ λw hw=>((c.ac a ha).2 w hw).no (by decide) (by decide)
theorem zeC (n:Nat) {h:Sto} {t:Tb} {Q:R->Sto->Prop} (o:TbOk t) (k:Q (.d (tbD t)) h):Ok (zaq P (n+8) 14 [.d (.str (tbT t))] h) Q:=by
 refine cl (F:=⟨1,4,zb7,false,[],false⟩) rfl rfl rfl ?_
 have s:=o.sm
 have hb:(tbT t).length<=1000000:=by
  have h1:=zcl (z:=[10]) (tbL t) s.line
  have h2:=s.lines
  show (catS [10] (tbL t)).length<=_
  simp only [List.length_cons,List.length_nil] at h1
  omega
 have sp:splD (.str (tbT t)) (.str [10])=some ((tbL t).map D.str):=splJ (y:=[]) o.lf hb
 have i0:idxD (.lst ((tbL t).map D.str)) (.int 0)=some (.str (handsT t)):=zlX
 have i1:idxD (.lst ((tbL t).map D.str)) (.int 1)=some (.str (zbk t)):=zqv
 (conv=>whnf)
 refine st sp ?_
 (conv=>whnf)
 refine st i0 ?_
 (conv=>whnf)
 refine ask (zev (n+5) s o.tc ?_)
 (conv=>whnf)
 refine ask (zfp (n+4) o.hs o.rt ?_)
 (conv=>whnf)
 refine bt (decide_eq_true (by show (1:Int)<(((tbL t).map D.str).length:Int);simp [tbL];omega)) ?_
 (conv=>whnf)
 refine st i1 ?_
 (conv=>whnf)
 refine ask (zdV (n+5) s o.tc ?_)
 (conv=>whnf)
 refine ask (zcx (n+5) o.ho ?_)
 (conv=>whnf)
 refine ask (zcW (n+6) ?_)
 (conv=>whnf)
 refine ask (zfs n s o.rc o.ok o.ap ?_)
 (conv=>whnf)
 exact f0 k
end K01
set_option linter.all false
set_option maxRecDepth 10000
namespace K01
open IT
theorem len1 {h:Sto} {o:Ob}:(h++[o]).length=h.length+1:=by simp
theorem app1 {h t:Sto} {o:Ob}:h++[o]++t=h++o::t:=by simp
theorem zqW {h t:Sto} {xs ys:List D}:objs (h++.lst xs::t) (h++.lst ys::t)=true:=by
 have:=zlg (h:=h++.lst xs::t) (l:=h.length) (xs:=xs) (ys:=ys) zax
 rwa [zbt] at this
theorem f1 {k:Bool} {x:D} {xs ys:List D} {h t:Sto} {Q:R->Sto->Prop} (q:Q (.d x) (h++.lst ys::t)):Ok (fin (h++.lst xs::t) false k (.d x) (h++.lst ys::t)) Q:=fd zqW (by rw [List.take_of_length_le (by simp)];exact q)
theorem zoE {h t:Sto} {xs ys:List D}:objs (h++[Ob.lst xs]) (h++.lst ys::t)=true:=by
 have e:=zeo (h:=h++[Ob.lst xs]) (t:=t) (l:=h.length) (xs:=xs) (ys:=ys) zax
 rwa [zbt,app1] at e
theorem f2 {k:Bool} {x:D} {xs ys:List D} {h t:Sto} {Q:R->Sto->Prop} (q:Q (.d x) (h++[.lst ys])):Ok (fin (h++[.lst xs]) false k (.d x) (h++.lst ys::t)) Q:=by
 refine fd zoE ?_
 rw [len1,<-app1,List.take_left' (by simp)]
 exact q
theorem f3 {xs ys zs:List D} {h t:Sto} {Q:R->Sto->Prop} (q:Q (.d (.lst zs)) (h++[.lst ys])):Ok (fin (h++[.lst xs]) false false (.loc (h.length+1)) (h++.lst ys::.lst zs::t)) Q:=by
 simp only [fin,Bool.false_eq_true,if_false,zoE,if_true,fin0]
 rw [len1,if_neg (by omega),zaU]
 simp only [ok_some']
 rw [<-app1,List.take_left' (by simp)]
 exact q
noncomputable abbrev dr (a b:Int):Ob:=.lst [.int a,.int b]
theorem md (x:Int) {m:Int} (h:0<m):0<=x % m/\x % m<m:=⟨Int.emod_nonneg _ (by omega),Int.emod_lt_of_pos _ h⟩
theorem bmul (x:Int) {c:Int} (h1:-(2 ^ 64)<c) (h2:c<2 ^ 64):bop .mul (.int x) (.int c)=some (.int (x*c)):=zoa (by rw [zlF h1 h2];simp)
theorem bfd {a z:Int} (z0:0<z) (z1:z<wide):bop .fdiv (.int a) (.int z)=some (.int (a / z)):=by
 show (if (decide (0<z)&&decide (z<wide))=true then some (D.int (a / z)) else none)=_
 rw [if_pos (by simp [z0,z1])]
theorem zao (n:Nat) {h t:Sto} {a b z:Int} {Q:R->Sto->Prop} (z0:0<z) (z1:z<1000000) (k:∀ r a' b',0<=r->r<z->Q (.d (.int r)) (h++dr a' b'::t)):Ok (zaq P (n+1) 22 [.loc h.length,.d (.int z)] (h++dr a b::t)) Q:=by
 refine cl (F:=⟨2,4,zfd,false,[],false⟩) rfl rfl rfl ?_
 have wz:z<wide:=by unfold wide;omega
 (conv=>whnf)
 refine st zax ?_
 (conv=>whnf)
 refine st (bmul _ (by decide) (by decide)) ?_
 (conv=>whnf)
 refine st zax ?_
 (conv=>whnf)
 rw [zbt]
 have m:=md (b*48271+11) (m:=2147483647) (by decide)
 generalize (b*48271+11) % 2147483647=y at m ⊢
 (conv=>whnf)
 refine st zax ?_
 (conv=>whnf)
 refine br (λc=>?_) (λc=>?_)
 ·(conv=>whnf)
  refine st zax ?_
  (conv=>whnf)
  refine st (ziQ z0) ?_
  (conv=>whnf)
  refine st zax ?_
  (conv=>whnf)
  refine st (bfd z0 wz) ?_
  (conv=>whnf)
  refine st zax ?_
  (conv=>whnf)
  rw [zbt]
  (conv=>whnf)
  have m2:=md a z0
  exact f1 (k _ _ _ m2.1 m2.2)
 ·(conv=>whnf)
  refine st zax ?_
  (conv=>whnf)
  refine st zax ?_
  (conv=>whnf)
  refine st (bmul _ (by omega) (by omega)) ?_
  (conv=>whnf)
  have m2:=md (y*(y / 1009+69621)) (m:=2147483647) (by decide)
  generalize y*(y / 1009+69621) % 2147483647=w at m2 ⊢
  refine st (bmul _ (by omega) (by omega)) ?_
  (conv=>whnf)
  refine st (ziQ z0) ?_
  (conv=>whnf)
  have m3:=md (w*(w / 757+16807) % 2147483629) z0
  exact f1 (k _ _ _ m3.1 m3.2)
theorem zgl (n:Nat) {h:Sto} {c:Int} {Q:R->Sto->Prop} (k:∀ a b,Q (.loc h.length) (h++[dr a b])):Ok (zaq P (n+1) 21 [.d (.int c)] h) Q:=by
 refine cl (F:=⟨1,1,zfa,true,[],false⟩) rfl rfl rfl ?_
 have m:=md c (m:=2) (by decide)
 (conv=>whnf)
 refine st (bmul _ (by omega) (by omega)) ?_
 (conv=>whnf)
 exact zk2 (k _ _)
theorem zkh (n:Nat) {h:Sto} {ns:List Int} {Q:R->Sto->Prop} (k:∀ c,Q (.d (.int c)) h):Ok (zaq P (n+1) 23 [.d (.lst (ns.map D.int)),.d (.int 0)] h) Q:=by
 refine cl (F:=⟨2,2,zcD,false,[],false⟩) rfl rfl rfl ?_
 cases ns with
 | nil=>
  (conv=>whnf)
  exact f0 (k _)
 | cons x r=>
  (conv=>whnf)
  refine br (λc=>?_) (λc=>?_)
  ·(conv=>whnf)
   refine st zlX ?_
   (conv=>whnf)
   exact f0 (k _)
  ·(conv=>whnf)
   exact f0 (k _)
end K01
set_option linter.all false
set_option maxRecDepth 10000
namespace K01
open IT
theorem zi3 {α:Type} [DecidableEq α]:∀ {xs ys:List α},xs.Nodup->(∀ x∈xs,x∈ys)->xs.length<=ys.length
 | [],ys,_,_=>by simp
 | x::r,ys,n,h=>by
  rw [List.nodup_cons] at n
  have hx:=h x List.mem_cons_self
  have:=zi3 (xs:=r) (ys:=ys.erase x) n.2 λy hy=>(List.mem_erase_of_ne (λe=>n.1 (by rw [<-e];exact hy):y≠x)).mpr (h y (List.mem_cons_of_mem _ hy))
  rw [List.length_erase_of_mem hx] at this
  have:0<ys.length:=List.length_pos_of_mem hx
  rw [List.length_cons]
  omega
noncomputable def fixw (L:List W) (w:W) (cs:List Nat):W:=cs.foldl (λw c=>if L.contains w then w.dropLast++[c] else w) w
theorem ze1 {L:List W} {w:W} (h:w ∉ L):∀ cs,fixw L w cs=w
 | []=>rfl
 | c::cs=>by
  have:L.contains w=false:=by rw [<-Bool.not_eq_true,List.contains_iff_mem];exact h
  show fixw L (if L.contains w then _ else w) cs=w
  rw [this]
  exact ze1 h cs
theorem zja {L:List W}:∀ (cs:List Nat) (w:W),fixw L w cs∈L->∀ c∈cs,w.dropLast++[c]∈L
 | [],_,_,c,hc=>by simp at hc
 | c :: cs,w,h,d,hd=>by
  by_cases hw:w∈L
  ·have e:fixw L w (c::cs)=fixw L (w.dropLast++[c]) cs:=by
    show fixw L (if L.contains w then _ else w) cs=_
    rw [if_pos (List.contains_iff_mem.mpr hw)]
   rw [e] at h
   by_cases h1:w.dropLast++[c]∈L
   ·rcases List.mem_cons.mp hd with rfl | hd
    ·exact h1
    ·have:=zja cs _ h d hd
     rwa [List.dropLast_concat] at this
   ·rw [ze1 h1] at h
    exact absurd h h1
  ·rw [ze1 hw] at h
   exact absurd h hw
theorem zmz {L:List W} {w:W} {cs:List Nat} (n:cs.Nodup) (hl:L.length<cs.length):fixw L w cs ∉ L:=by
 intro h
 have:=zi3 (xs:=cs.map λc=>w.dropLast++[c]) (ys:=L) (by
  refine List.Pairwise.map _ (λa b (hab:a≠b) e=>?_) n
  have:=List.append_cancel_left e
  simp at this
  exact hab this) λx hx=>by
   obtain ⟨c,hc,rfl⟩:=List.mem_map.mp hx
   exact zja cs w h c hc
 rw [List.length_map] at this
 omega
theorem Wd.last {w:W} (h:Wd w) {c:Nat} (hc:K01.low c=true):Wd (w.dropLast++[c]):=by
 have:=h.pos
 have:=h.most
 refine ⟨by simp,by simp;omega,λd hd=>?_⟩
 rcases List.mem_append.mp hd with hd | hd
 ·exact h.low d (List.dropLast_subset _ hd)
 ·simp at hd;subst hd;exact hc
theorem zjg {L:List W}:∀ (cs:List Nat) (w:W),Wd w->(∀ c∈cs,low c=true)->Wd (fixw L w cs)
 | [],_,h,_=>h
 | c::cs,w,h,hc=>by
  show Wd (fixw L (if L.contains w then _ else w) cs)
  refine zjg cs _ ?_ λd hd=>hc d (List.mem_cons_of_mem _ hd)
  split
  ·exact h.last (hc c List.mem_cons_self)
  ·exact h
theorem zkT {L:List W} {w:W} {cs:List Nat} {c:Nat}:fixw L w (cs++[c])=if L.contains (fixw L w cs) then (fixw L w cs).dropLast++[c] else fixw L w cs:=by
 unfold fixw;rw [List.foldl_append];rfl
theorem zq6 {w:W}:cut w none (some (-1))=w.dropLast:=by
 unfold cut
 have e1:sIx w.length 0 none=0:=rfl
 have e2:sIx w.length w.length (some (-1))=w.length-1:=by
  simp only [sIx]
  rw [if_pos (by decide)]
  omega
 rw [e1,e2,List.drop_zero,Nat.sub_zero,List.dropLast_eq_take]
theorem zoJ {r:Int} (h0:0<=r) (h1:r<26):∃ c,idxD (.str abc) (.int r)=some (.str [c])/\low c=true:=by
 have hl:r.toNat<abc.length:=by show r.toNat<26;omega
 refine ⟨abc[r.toNat],?_,?_⟩
 ·show (if fit abc.length=true then (match at' abc r with | some c=>some (D.str [c]) | none=>none) else none)=_
  rw [if_pos (by decide),zow h0 (List.getElem?_eq_getElem hl)]
 ·unfold low
  rw [List.contains_iff_mem]
  exact List.getElem_mem hl
theorem znj {ws:List W} (h:ws≠[]):∃ w∈ws,idxD (.lst (ws.map D.str)) (.int (-1))=some (.str w):=by
 refine ⟨ws.getLast h,List.getLast_mem h,?_⟩
 have:ws.map D.str=ws.dropLast.map D.str++[D.str (ws.getLast h)]:=by
  rw [<-List.map_singleton,<-List.map_append,List.dropLast_concat_getLast]
 rw [this]
 exact znv
theorem zbK {l:List W} {i:Int} (h0:0<=i) (h1:i<l.length):∃ w∈l,idxD (.lst (l.map D.str)) (.int i)=some (.str w):=by
 obtain ⟨x,hx,e⟩:=zns (xs:=l.map D.str) h0 (by rw [List.length_map];exact h1)
 obtain ⟨w,hw,rfl⟩:=List.mem_map.mp hx
 exact ⟨w,hw,e⟩
theorem addL {a b:List W} (h:a.length+b.length<=1000000):bop .add (.lst (a.map D.str)) (.lst (b.map D.str))=some (.lst ((a++b).map D.str)):=by
 rw [List.map_append]
 exact if_pos (zbE (by rw [List.length_map,List.length_map];omega))
noncomputable abbrev zyx:List Nat:=[122,121,120,119,118,117,116,115,114,113]
structure Wds (no ws:List W):Prop where
 wd:∀ w∈ws,Wd w
 nd:ws.Nodup
 no:∀ w∈ws,w ∉ no
noncomputable def znL:List S:=match zcT with
 | [_,.for _ _ b,_]=>b
 | _=>[]
noncomputable def WI (g:Sto) (m:Int) (no:List W) (i:Nat) (σ:Env) (h':Sto):Prop:=(i:Int)<=m/\∃ ws a b,ws.length=i/\Wds no ws/\h'=g++[dr a b,.lst (ws.map D.str)]/\∃ v4 v5 v6 v7 v8,σ=[some (R.loc g.length),some (R.d (.int m)),some (R.d (.lst (no.map D.str))),some (R.loc (g.length+1)),v4,v5,v6,v7,v8]
noncomputable abbrev zmp:List W:=[zmI,zjj,zqp,zeB,zey,znW,kput,zbY,zhU,kany,zo2,zoA,kown,zox,zpN,zml,zdI,zbc,[104,97,110,100,115],[104,111,117,115,101,115],zkE,zjD,ziJ]
section
variable {n:Nat} {g:Sto} {m:Int} {no ws:List W} {i:Nat} {v4:Option R}
noncomputable abbrev wσ (g:Sto) (m:Int) (no:List W) (v4:Option R) (w:W) (v6 v7 v8:Option R):Env:=[some (R.loc g.length),some (R.d (.int m)),some (R.d (.lst (no.map D.str))),some (R.loc (g.length+1)),v4,some (R.d (.str w)),v6,v7,v8]
noncomputable abbrev wP (g:Sto) (m:Int) (no:List W) (i:Nat) (p:Fl×Env) (h1:Sto):Prop:=p.1=.nx/\zbb none g h1=true/\WI g m no (i+1) p.2 h1
theorem zma (hl:ws.length=i) (hi3:(i:Int)<m) (hw:Wds no ws) (h8:m<=8) (hn:no.length<=3) (hm:m+no.length<=9) (w:W) (a b:Int) (v6 v7 v8:Option R) (hwd:Wd w):wSs (zaq P (n+1)) (znL.drop 4) (wσ g m no v4 w v6 v7 v8) (g++[dr a b,.lst (ws.map D.str)]) (wP g m no i):=by
 (conv=>whnf)
 refine ask (zfP (g:=λc=>dI (.str [c])) (xs:=zyx) (λj σ h'=>j<=10/\h'=g++[dr a b,.lst (ws.map D.str)]/\∃ v8,σ=wσ g m no v4 (fixw (ws++no) w (zyx.take j)) v6 v7 v8) ?_ ?_ ?_)
 ·rintro j c σ h' hc ⟨hj,rfl,v8,rfl⟩
  have hj2:j<10:=(List.getElem?_eq_some_iff.mp hc).1
  have hz:∀ d∈zyx,low d=true:=by decide
  have hwj:Wd (fixw (ws++no) w (zyx.take j)):=zjg _ _ hwd λd hd=>hz d (List.take_subset _ _ hd)
  have h2:=hwj.most
  have et:zyx.take (j+1)=zyx.take j++[c]:=by rw [List.take_succ,hc];rfl
  refine gb ?_
  (conv=>whnf)
  refine st zaU ?_
  (conv=>whnf)
  refine st (addL (by omega)) ?_
  (conv=>whnf)
  have ef:=zkT (L:=ws++no) (w:=w) (cs:=zyx.take j) (c:=c)
  refine br (λt=>?_) (λt=>?_)
  ·have t:(ws++no).contains (fixw (ws++no) w (zyx.take j))=true:=(anyS _).symm.trans t
   rw [if_pos t] at ef
   (conv=>whnf)
   refine st ((zqL (zbE (by omega))).trans (congrArg (λx=>some (D.str x)) zq6)) ?_
   (conv=>whnf)
   refine st (addS (by simp;omega)) ?_
   refine ⟨rfl,zah,by omega,rfl,some (R.d (.str [c])),?_⟩
   rw [et,ef]
   rfl
  ·have t:(ws++no).contains (fixw (ws++no) w (zyx.take j))=false:=(anyS _).symm.trans t
   rw [if_neg (by rw [t];simp)] at ef
   refine ⟨rfl,zah,by omega,rfl,some (R.d (.str [c])),?_⟩
   rw [et,ef]
   rfl
 ·rintro σ h' ⟨_,rfl,v8,rfl⟩
  have ez:zyx.take zyx.length=zyx:=List.take_length
  rw [ez]
  have hnew:fixw (ws++no) w zyx ∉ ws++no:=zmz (by decide) (by rw [List.length_append];show _<10;omega)
  have hwz:Wd (fixw (ws++no) w zyx):=zjg _ _ hwd (by decide)
  generalize fixw (ws++no) w zyx=x at hnew hwz
  rw [List.mem_append] at hnew
  (conv=>whnf)
  refine st zaU ?_
  (conv=>whnf)
  refine st zaU ?_
  (conv=>whnf)
  refine ⟨by unfold big;rw [List.length_map];omega,?_⟩
  rw [zc0]
  refine ⟨rfl,rfl,by omega,ws++[x],a,b,by simp [hl],⟨?_,?_,?_⟩,by simp,_,_,_,_,_,rfl⟩
  ·intro y hy
   rcases List.mem_append.mp hy with hy | hy
   ·exact hw.wd y hy
   ·simp at hy;subst hy;exact hwz
  ·rw [List.nodup_append]
   exact ⟨hw.nd,by simp,λy hy z hz e=>by simp at hz;subst hz;exact hnew (.inl (e▸hy))⟩
  ·intro y hy
   rcases List.mem_append.mp hy with hy | hy
   ·exact hw.no y hy
   ·simp at hy;subst hy;exact λq=>hnew (.inr q)
 ·exact ⟨by omega,rfl,v8,rfl⟩
theorem ziH (hl:ws.length=i) (hi3:(i:Int)<m) (hw:Wds no ws) (h8:m<=8) (hn:no.length<=3) (hm:m+no.length<=9) (w:W) (a b:Int) (v6 v7 v8:Option R) (hwd:Wd w):wSs (zaq P (n+1)) (znL.drop 3) (wσ g m no v4 w v6 v7 v8) (g++[dr a b,.lst (ws.map D.str)]) (wP g m no i):=by
 (conv=>whnf)
 refine ask (zao n (by decide) (by decide) λr a b r0 r1=>?_)
 (conv=>whnf)
 refine br (λt=>?_) (λt=>?_)
 ·(conv=>whnf)
  refine ask (zao n (by decide) (by decide) λq a b q0 q1=>?_)
  obtain ⟨x,hx,e⟩:=zbK (l:=zmp) q0 q1
  have hxd:Wd x:=zeb (l:=zmp) (by decide) (List.contains_iff_mem.mpr hx)
  (conv=>whnf)
  refine st e ?_
  exact zma hl hi3 hw h8 hn hm x a b _ _ _ hxd
 ·exact zma hl hi3 hw h8 hn hm w a b _ _ _ hwd
theorem zom (hl:ws.length=i) (hi3:(i:Int)<m) (hw:Wds no ws) (h8:m<=8) (hn:no.length<=3) (hm:m+no.length<=9) (w:W) (a b:Int) (v6 v7 v8:Option R) (hwd:Wd w):wSs (zaq P (n+1)) (znL.drop 2) (wσ g m no v4 w v6 v7 v8) (g++[dr a b,.lst (ws.map D.str)]) (wP g m no i):=by
 (conv=>whnf)
 refine st zaU ?_
 (conv=>whnf)
 refine st (znF (zmf (by decide))) ?_
 (conv=>whnf)
 refine br (λt=>?_) (λt=>?_)
 ·have hne:ws≠[]:=by
   rintro rfl
   exact absurd t (by decide)
  obtain ⟨x,hx,e⟩:=znj hne
  (conv=>whnf)
  refine ask (zao n (by decide) (by decide) λr a b r0 r1=>?_)
  (conv=>whnf)
  refine br (λt=>?_) (λt=>?_)
  ·(conv=>whnf)
   refine st zaU ?_
   (conv=>whnf)
   refine st e ?_
   exact ziH hl hi3 hw h8 hn hm x a b _ _ _ (hw.wd x hx)
  ·exact ziH hl hi3 hw h8 hn hm w a b _ _ _ hwd
 ·exact ziH hl hi3 hw h8 hn hm w a b _ _ _ hwd
end
theorem zdp (n:Nat) {g:Sto} {a b m:Int} {no:List W} {Q:R->Sto->Prop} (h1:1<=m) (h8:m<=8) (hn:no.length<=3) (hm:m+no.length<=9) (k:∀ ws a' b',(ws.length:Int)=m->Wds no ws->Q (.d (.lst (ws.map D.str))) (g++[dr a' b'])) :
  Ok (zaq P (n+2) 24 [.loc g.length,.d (.int m),.d (.lst (no.map D.str))] (g++[dr a b])) Q:=by
 refine cl (F:=⟨3,9,zcT,false,[],false⟩) rfl rfl rfl ?_
 (conv=>whnf)
 refine ⟨⟨by omega,by omega⟩,?_⟩
 rw [len1,app1]
 refine ask (zmQ (WI g m no) ?_ ?_ ?_)
 ·rintro i x σ h' hx ⟨hi,ws,a,b,hl,hw,rfl,v4,v5,v6,v7,v8,rfl⟩
  obtain ⟨hi2,rfl⟩:=zcS _ _ _ _ hx
  have hi3:(i:Int)<m:=by omega
  refine gb ?_
  (conv=>whnf)
  refine ask (zao n (by decide) (by decide) λr a b r0 r1=>?_)
  (conv=>whnf)
  refine ⟨⟨by omega,by omega⟩,?_⟩
  refine ask (zmQ (λj σ h'=>(j:Int)<=1+r/\∃ w a b,w.length=j/\(∀ c∈w,low c=true)/\h'=g++[dr a b,.lst (ws.map D.str)]/\∃ v6,σ=[some (R.loc g.length),some (R.d (.int m)),some (R.d (.lst (no.map D.str))),some (R.loc (g.length+1)),some (R.d (.int (0+i))),some (R.d (.str w)),v6,v7,v8]) ?_ ?_ ?_)
  ·rintro j x σ h' hx ⟨hj,w,a,b,hlw,hlow,rfl,v6,rfl⟩
   obtain ⟨hj2,rfl⟩:=zcS _ _ _ _ hx
   refine gb ?_
   (conv=>whnf)
   refine ask (zao n (by decide) (by decide) λq a b q0 q1=>?_)
   obtain ⟨c,ec,hc⟩:=zoJ q0 q1
   (conv=>whnf)
   refine st ec ?_
   (conv=>whnf)
   refine st (addS (by simp only [List.length_cons,List.length_nil];omega)) ?_
   refine ⟨rfl,zah,by omega,w++[c],a,b,by simp [hlw],?_,rfl,_,rfl⟩
   intro d hd
   rcases List.mem_append.mp hd with hd | hd
   ·exact hlow d hd
   ·simp at hd;subst hd;exact hc
  ·rintro σ h' ⟨_,w,a,b,hlw,hlow,rfl,v6,rfl⟩
   rw [zbL] at hlw
   have hwd:Wd w:=⟨by omega,by omega,hlow⟩
   exact zom hl hi3 hw h8 hn hm w a b _ _ _ hwd
  ·refine ⟨by omega,[],a,b,rfl,by simp,rfl,v6,rfl⟩
 ·rintro σ h' ⟨_,ws,a,b,hl,hw,rfl,v4,v5,v6,v7,v8,rfl⟩
  rw [zbL] at hl
  (conv=>whnf)
  exact f3 (k ws a b (by omega) hw)
 ·exact ⟨by omega,[],a,b,rfl,⟨by simp,by simp,by simp⟩,rfl,_,_,_,_,_,rfl⟩
end K01
set_option linter.all false
set_option maxRecDepth 10000
namespace K01
open IT
noncomputable def AP (alone sends kinds:List W) (a:List W):Prop:=(∃ w∈alone,a=[w])\/∃ w∈sends,∃ kd∈kinds,∃ l∈zks,a=[w,kd,l]
noncomputable abbrev ntp (as:List (List W)):Nat:=as.countP (·==[zbY])+as.countP (·==[kput])
structure AsOk (alone sends kinds:List W) (as:List (List W)):Prop where
 ap:∀ a∈as,AP alone sends kinds a
 tp:ntp as<=1
theorem AsOk.snoc {alone sends kinds:List W} {as:List (List W)} (h:AsOk alone sends kinds as) {a:List W} (ha:AP alone sends kinds a) (hc:(a=[zbY]\/a=[kput])->[zbY] ∉ as/\[kput] ∉ as):AsOk alone sends kinds (as++[a]):=by
 refine ⟨λx hx=>?_,?_⟩
 ·rcases List.mem_append.mp hx with hx | hx
  ·exact h.ap x hx
  ·simp at hx;subst hx;exact ha
 ·unfold ntp
  rw [List.countP_append,List.countP_append]
  by_cases q:a=[zbY]\/a=[kput]
  ·obtain ⟨h1,h2⟩:=hc q
   have z1:as.countP (·==[zbY])=0:=List.countP_eq_zero.mpr λx hx e=>h1 (by rw [<-eq_of_beq e];exact hx)
   have z2:as.countP (·==[kput])=0:=List.countP_eq_zero.mpr λx hx e=>h2 (by rw [<-eq_of_beq e];exact hx)
   rw [z1,z2]
   rcases q with rfl | rfl<;>decide
  ·have n1:(a==[zbY])=false:=by rw [<-Bool.not_eq_true];intro e;exact q (.inl (eq_of_beq e))
   have n2:(a==[kput])=false:=by rw [<-Bool.not_eq_true];intro e;exact q (.inr (eq_of_beq e))
   have:=h.tp
   unfold ntp at this
   simp only [List.countP_singleton,n1,n2]
   simpa using this
section
variable {n:Nat} {g:Sto} {kinds alone sends:List W}
noncomputable abbrev aσ (g:Sto) (kinds alone sends:List W) (x2 x3:D) (v6 v7 v8 v9:Option R):Env:=[some (R.loc g.length),some (R.d (.lst (kinds.map D.str))),some (R.d x2),some (R.d x3),some (R.d (.lst (alone.map D.str))),some (R.d (.lst (sends.map D.str))),v6,v7,v8,v9]
theorem zdY {x2 x3:D} {a0 b0 a b:Int} {Q:R->Sto->Prop} (ha:1<=alone.length) (ha2:alone.length<=100) (hs:1<=sends.length) (hs2:sends.length<=100) (hk:1<=kinds.length) (hk2:kinds.length<=100)
  (k:∀ as a' b',as.length<=6->AsOk alone sends kinds as->Q (.d (zdF as)) (g++[dr a' b'])):wSs (zaq P (n+1)) (zcQ.drop 4) (aσ g kinds alone sends x2 x3 none none none none) (g++[dr a b]) (kF (g++[dr a0 b0]) false false Q):=by
 (conv=>whnf)
 rw [len1,app1]
 refine ask (zao n (by decide) (by decide) λr a b r0 r1=>?_)
 (conv=>whnf)
 refine ⟨⟨by omega,by omega⟩,?_⟩
 refine ask (zmQ (λi σ h'=>(i:Int)<=r/\∃ as a b,as.length<=i/\AsOk alone sends kinds as/\h'=g++[dr a b,.lst (as.map actD)]/\∃ v7 v8 v9,σ=aσ g kinds alone sends x2 x3 (some (R.loc (g.length+1))) v7 v8 v9) ?_ ?_ ?_)
 ·rintro i x σ h' hx ⟨hi,as,a,b,hl,ho,rfl,v7,v8,v9,rfl⟩
  obtain ⟨hi2,rfl⟩:=zcS _ _ _ _ hx
  have bg:∀ y:List W,((as.map actD)).length<big:=λ_=>by unfold big;rw [List.length_map];omega
  have fin:∀ (y:List W) (a b:Int) (v7 v8 v9:Option R),AP alone sends kinds y->((y=[zbY]\/y=[kput])->[zbY] ∉ as/\[kput] ∉ as) →
    (Fl.nx=Fl.nx/\zbb none g (g++[dr a b,Ob.lst (as.map actD++[actD y])])=true/\((i+1:Nat):Int)<=r/\∃ as' a' b',as'.length<=i+1/\AsOk alone sends kinds as'/\g++[dr a b,Ob.lst (as.map actD++[actD y])]=g++[dr a' b',.lst (as'.map actD)]/\∃ w7 w8 w9,aσ g kinds alone sends x2 x3 (some (R.loc (g.length+1))) v7 v8 v9=aσ g kinds alone sends x2 x3 (some (R.loc (g.length+1))) w7 w8 w9):=by
   intro y a b v7 v8 v9 hy hc
   exact ⟨rfl,rfl,by omega,as++[y],a,b,by simp;omega,ho.snoc hy hc,by simp,v7,v8,v9,rfl⟩
  refine gb ?_
  (conv=>whnf)
  refine ask (zao n (by decide) (by decide) λq a b q0 q1=>?_)
  (conv=>whnf)
  refine br (λt=>?_) (λt=>?_)
  ·(conv=>whnf)
   refine ask (zao n (by rw [List.length_map];omega) (by rw [List.length_map];omega) λq a b q0 q1=>?_)
   obtain ⟨w,hw,e⟩:=zbK (l:=alone) q0 (by rw [List.length_map] at q1;exact q1)
   (conv=>whnf)
   refine st e ?_
   (conv=>whnf)
   have skip:∀ (a b:Int) (v7 v8 v9:Option R),
     (Fl.nx=Fl.nx/\zbb none g (g++[dr a b,Ob.lst (as.map actD)])=true/\((i+1:Nat):Int)<=r/\∃ as' a' b',as'.length<=i+1/\AsOk alone sends kinds as'/\g++[dr a b,Ob.lst (as.map actD)]=g++[dr a' b',.lst (as'.map actD)]/\∃ w7 w8 w9,aσ g kinds alone sends x2 x3 (some (R.loc (g.length+1))) v7 v8 v9=aσ g kinds alone sends x2 x3 (some (R.loc (g.length+1))) w7 w8 w9):=
    fun a b v7 v8 v9=>⟨rfl,rfl,by omega,as,a,b,by omega,ho,rfl,v7,v8,v9,rfl⟩
   refine br (λt2=>?_) (λt2=>?_)
   ·have t2:[zbY,kput].contains w=false:=by
     have e:(!([zbY,kput].map D.str).any λy=>y.eqb (.str w))=true:=t2
     rw [anyS] at e
     simpa using e
    (conv=>whnf)
    refine st zaU ?_
    (conv=>whnf)
    refine st zaU ?_
    (conv=>whnf)
    refine ⟨bg [],?_⟩
    rw [zc0]
    refine fin [w] a b _ _ _ (.inl ⟨w,hw,rfl⟩) ?_
    rintro (z | z)
    ·have z:w=zbY:=by simpa using z
     subst z;exact absurd t2 (by decide)
    ·have z:w=kput:=by simpa using z
     subst z;exact absurd t2 (by decide)
   ·(conv=>whnf)
    refine st zaU ?_
    (conv=>whnf)
    refine br (λt3=>?_) (λt3=>?_)
    ·have t3:(!(as.map actD).any λy=>y.eqb (actD [zbY]))=true:=t3
     rw [anyA] at t3
     (conv=>whnf)
     refine st zaU ?_
     (conv=>whnf)
     refine br (λt4=>?_) (λt4=>?_)
     ·have t4:(!(as.map actD).any λy=>y.eqb (actD [kput]))=true:=t4
      rw [anyA] at t4
      (conv=>whnf)
      refine st zaU ?_
      (conv=>whnf)
      refine st zaU ?_
      (conv=>whnf)
      refine ⟨bg [],?_⟩
      rw [zc0]
      refine fin [w] a b _ _ _ (.inl ⟨w,hw,rfl⟩) λ_=>⟨λq=>?_,λq=>?_⟩
      ·rw [List.contains_iff_mem.mpr q] at t3;cases t3
      ·rw [List.contains_iff_mem.mpr q] at t4;cases t4
     ·exact skip a b _ _ _
    ·exact skip a b _ _ _
  ·(conv=>whnf)
   refine ask (zao n (by rw [List.length_map];omega) (by rw [List.length_map];omega) λq a b q0 q1=>?_)
   obtain ⟨w,hw,e⟩:=zbK (l:=sends) q0 (by rw [List.length_map] at q1;exact q1)
   (conv=>whnf)
   refine st e ?_
   (conv=>whnf)
   refine ask (zao n (by rw [List.length_map];omega) (by rw [List.length_map];omega) λq a b q0 q1=>?_)
   obtain ⟨kd,hkd,e⟩:=zbK (l:=kinds) q0 (by rw [List.length_map] at q1;exact q1)
   (conv=>whnf)
   refine st e ?_
   (conv=>whnf)
   refine st zaU ?_
   (conv=>whnf)
   refine ask (zao n (by decide) (by decide) λq a b q0 q1=>?_)
   obtain ⟨l,hl2,e⟩:=zbK (l:=zks) q0 q1
   (conv=>whnf)
   refine st e ?_
   (conv=>whnf)
   refine st zaU ?_
   (conv=>whnf)
   refine ⟨bg [],?_⟩
   rw [zc0]
   refine fin [w,kd,l] a b _ _ _ (.inr ⟨w,hw,kd,hkd,l,hl2,rfl⟩) ?_
   rintro (z | z)<;>simp at z
 ·rintro σ h' ⟨_,as,a,b,hl,ho,rfl,v7,v8,v9,rfl⟩
  rw [zbL] at hl
  (conv=>whnf)
  refine st zaU ?_
  (conv=>whnf)
  exact f2 (k as a b (by omega) ho)
 ·exact ⟨by omega,[],a,b,by simp,⟨by simp,by decide⟩,rfl,_,_,_,rfl⟩
end
end K01
set_option linter.all false
set_option maxRecDepth 10000
namespace K01
open IT
theorem AP.act {alone sends kinds plain:List W} (hp:∀ w∈alone,plain.contains w=true) (hk:∀ w∈kinds,Kd w) {a:List W} (h:AP alone sends kinds a):Act plain sends a:=by
 rcases h with ⟨w,hw,rfl⟩ | ⟨w,hw,kd,hkd,l,hl,rfl⟩
 ·exact .one (hp w hw)
 ·exact .send (List.contains_iff_mem.mpr hw) (hk kd hkd) (List.contains_iff_mem.mpr hl)
theorem ziy (n:Nat) {g:Sto} {kinds:List W} {ask:Bool} {a b:Int} {Q:R->Sto->Prop} (hk1:1<=kinds.length) (hk2:kinds.length<=100) (hk:∀ w∈kinds,Kd w)
  (k:∀ as a' b',as.length<=6->(∀ x∈as,Act zeZ zen x)->ntp as<=1->(ask=true->as.contains [zey]=false)->Q (.d (zdF as)) (g++[dr a' b'])) :
  Ok (zaq P (n+2) 25 [.loc g.length,.d (.lst (kinds.map D.str)),.d (.bl true),.d (.bl ask)] (g++[dr a b])) Q:=by
 refine cl (F:=⟨4,10,zcQ,false,[],false⟩) rfl rfl rfl ?_
 cases ask with
 | true=>
  (conv=>whnf)
  refine zdY (alone:=[zkE,zbY,kput]) (sends:=[zhU]) (by decide) (by decide) (by decide) (by decide) hk1 hk2 λas a' b' h6 ho=>?_
  refine k as a' b' h6 (λx hx=>(ho.ap x hx).act (by decide) hk) ho.tp λ_=>?_
  rw [<-Bool.not_eq_true,List.contains_iff_mem]
  intro q
  rcases ho.ap _ q with ⟨w,hw,e⟩ | ⟨w,hw,kd,hkd,l,hl,e⟩
  ·have e:zey=w:=by simpa using e
   subst e
   exact absurd hw (by decide)
  ·simp at e
 | false=>
  (conv=>whnf)
  refine zdY (alone:=[zkE,zbY,kput,zey]) (sends:=[zhU]) (by decide) (by decide) (by decide) (by decide) hk1 hk2 λas a' b' h6 ho=>?_
  exact k as a' b' h6 (λx hx=>(ho.ap x hx).act (by decide) hk) ho.tp λz=>by cases z
theorem zh1 (n:Nat) {g:Sto} {kinds:List W} {a b:Int} {Q:R->Sto->Prop} (hk1:1<=kinds.length) (hk2:kinds.length<=100) (hk:∀ w∈kinds,Kd w)
  (k:∀ as a' b',as.length<=6->(∀ x∈as,Act zci zbF x)->Q (.d (zdF as)) (g++[dr a' b'])) :
  Ok (zaq P (n+2) 25 [.loc g.length,.d (.lst (kinds.map D.str)),.d (.bl false),.d (.bl false)] (g++[dr a b])) Q:=by
 refine cl (F:=⟨4,10,zcQ,false,[],false⟩) rfl rfl rfl ?_
 (conv=>whnf)
 refine zdY (alone:=[kown,zmd,zi4,zjD,znW,zey]) (sends:=[zhU,ziJ,zjo]) (by decide) (by decide) (by decide) (by decide) hk1 hk2 λas a' b' h6 ho=>?_
 exact k as a' b' h6 λx hx=>(ho.ap x hx).act (by decide) hk
theorem zkI (n:Nat) {g:Sto} {sts hos kinds:List W} {a0 b0:Int} {Q:R->Sto->Prop} (hs1:1<=sts.length) (hs2:sts.length<=8) (ho1:1<=hos.length) (ho2:hos.length<=8) (hk1:1<=kinds.length) (hk2:kinds.length<=8) (hk:∀ w∈kinds,Kd w)
  (k:∀ r a' b',RwOk sts hos r->Q (.d (rowD r)) (g++[dr a' b'])) :
  Ok (zaq P (n+3) 26 [.loc g.length,.d (.lst (sts.map D.str)),.d (.lst (hos.map D.str)),.d (.lst (kinds.map D.str))] (g++[dr a0 b0])) Q:=by
 refine cl (F:=⟨4,10,zfB,false,[],false⟩) rfl rfl rfl ?_
 (conv=>whnf)
 refine ask (zao (n+1) (by decide) (by decide) λq a b q0 q1=>?_)
 (conv=>whnf)
 refine br (λt=>?_) (λt=>?_)
 ·(conv=>whnf)
  refine st (addL (a:=asks) (by show 3+kinds.length<=_;omega)) ?_
  (conv=>whnf)
  refine ask (zao (n+1) (by rw [List.length_map];omega) (by rw [List.length_map];omega) λq a b q0 q1=>?_)
  obtain ⟨e,he,ee⟩:=zbK (l:=asks++kinds) q0 (by rw [List.length_map] at q1;rw [List.length_append];show q<((3+kinds.length:Nat):Int);omega)
  (conv=>whnf)
  refine st ee ?_
  (conv=>whnf)
  refine ask (zao (n+1) (by rw [List.length_map];omega) (by rw [List.length_map];omega) λq a b q0 q1=>?_)
  obtain ⟨s,hs,es⟩:=zbK (l:=sts) q0 (by rw [List.length_map] at q1;exact q1)
  (conv=>whnf)
  refine st es ?_
  (conv=>whnf)
  refine ask (ziy n hk1 (by omega) hk λas a b h6 hac htp hkp=>?_)
  (conv=>whnf)
  refine ask (zao (n+1) (by rw [List.length_map];omega) (by rw [List.length_map];omega) λq a b q0 q1=>?_)
  obtain ⟨s2,hs2',es2⟩:=zbK (l:=sts) q0 (by rw [List.length_map] at q1;exact q1)
  (conv=>whnf)
  refine st es2 ?_
  (conv=>whnf)
  refine f2 (k (.hand s e s2 as) a b ⟨List.contains_iff_mem.mpr hs,List.contains_iff_mem.mpr hs2',?_,λz=>hkp ?_,htp,h6,hac⟩)
  ·rcases List.mem_append.mp he with he | he
   ·exact zeb (l:=asks) (by decide) (List.contains_iff_mem.mpr he)
   ·exact (hk e he).toWd
  ·exact (anyS asks).trans z
 ·(conv=>whnf)
  refine ask (zao (n+1) (by rw [List.length_map];omega) (by rw [List.length_map];omega) λq a b q0 q1=>?_)
  obtain ⟨s,hs,es⟩:=zbK (l:=hos) q0 (by rw [List.length_map] at q1;exact q1)
  (conv=>whnf)
  refine st es ?_
  (conv=>whnf)
  refine ask (zao (n+1) (by rw [List.length_map];omega) (by rw [List.length_map];omega) λq a b q0 q1=>?_)
  obtain ⟨kd,hkd,ek⟩:=zbK (l:=kinds) q0 (by rw [List.length_map] at q1;exact q1)
  (conv=>whnf)
  refine st ek ?_
  (conv=>whnf)
  refine ask (zao (n+1) (by decide) (by decide) λq a b q0 q1=>?_)
  obtain ⟨w,hw,ew⟩:=zbK (l:=whens) q0 q1
  (conv=>whnf)
  refine st ew ?_
  (conv=>whnf)
  refine ask (zao (n+1) (by rw [List.length_map];omega) (by rw [List.length_map];omega) λq a b q0 q1=>?_)
  obtain ⟨s2,hs2',es2⟩:=zbK (l:=hos) q0 (by rw [List.length_map] at q1;exact q1)
  (conv=>whnf)
  refine st es2 ?_
  (conv=>whnf)
  have ok:∀ as,((as=[[zeB]]/\w=kany)\/(as.length<=6/\∀ a∈as,Act zci zbF a))->RwOk sts hos (.house s kd w s2 as):=λas h=>⟨List.contains_iff_mem.mpr hs,List.contains_iff_mem.mpr hs2',hk kd hkd,List.contains_iff_mem.mpr hw,h⟩
  have rest:∀ a b,wSs (zaq P (n+2)) (zfB.drop 5) [some (R.loc g.length),some (R.d (.lst (sts.map D.str))),some (R.d (.lst (hos.map D.str))),some (R.d (.lst (kinds.map D.str))),none,none,none,some (R.d (.tup [.str zbc,.str s,.str kd])),some (R.d (.str w)),some (R.d (.str s2))] (g++[dr a b]) (kF (g++[dr a0 b0]) false false Q):=by
   intro a b
   (conv=>whnf)
   refine ask (zh1 n hk1 (by omega) hk λas a b h6 hac=>?_)
   (conv=>whnf)
   exact f2 (k _ a b (ok as (.inr ⟨h6,hac⟩)))
  refine br (λt=>?_) (λt=>?_)
  ·have hwk:w=kany:=eq_of_beq (show (w==kany)=true from t)
   (conv=>whnf)
   refine ask (zao (n+1) (by decide) (by decide) λq a b q0 q1=>?_)
   (conv=>whnf)
   refine br (λt=>?_) (λt=>?_)
   ·(conv=>whnf)
    exact f2 (k (.house s kd w s2 [[zeB]]) a b (ok _ (.inl ⟨rfl,hwk⟩)))
   ·exact rest a b
  ·exact rest a b
end K01
set_option linter.all false
set_option maxRecDepth 10000
namespace K01
open IT
theorem zgX (n:Nat) {h t:Sto} {rs:List Rw} {r:Rw} {Q:R->Sto->Prop} (hr:∀ s k w n as,r=.house s k w n as->whens.contains w=true)
  (k1:(∀ o∈rs,(rivW r).contains (zbl o)=false)->Q (.d (.bl true)) (h++.lst (rs.map rowD)::t)) (k0:Q (.d (.bl false)) (h++.lst (rs.map rowD)::t)) :
  Ok (zaq P (n+1) 27 [.loc h.length,.d (rowD r)] (h++.lst (rs.map rowD)::t)) Q:=by
 refine cl (F:=⟨2,3,zdn,false,[],false⟩) rfl rfl rfl ?_
 (conv=>whnf)
 refine st zax ?_
 (conv=>whnf)
 rw [List.map_map]
 refine ask (zho (g:=dI∘rowD) (xs:=rs) (λi σ h'=>(∀ j o,j<i->rs[j]?=some o->(rivW r).contains (zbl o)=false)/\h'=h++.lst (rs.map rowD)::t/\∃ v2,σ=[some (R.loc h.length),some (R.d (rowD r)),v2]) ?_ ?_ ?_)
 ·rintro i o σ h' ho ⟨hj,rfl,v2,rfl⟩
  have go:(rivW r).contains (zbl o)=false->∀ v2,zbb (some h.length) (h++.lst (rs.map rowD)::t) (h++.lst (rs.map rowD)::t)=true/\(∀ j o,j<i+1->rs[j]?=some o->(rivW r).contains (zbl o)=false)/\h++.lst (rs.map rowD)::t=h++.lst (rs.map rowD)::t/\∃ v,[some (R.loc h.length),some (R.d (rowD r)),v2]=[some (R.loc h.length),some (R.d (rowD r)),v]:=by
   intro e v2
   refine ⟨zil zax,λj o' hji ho'=>?_,rfl,v2,rfl⟩
   by_cases q:j=i
   ·subst q;rw [ho] at ho';cases ho';exact e
   ·exact hj j o' (by omega) ho'
  refine gb ?_
  cases o with
  | hand s e nx as=>
   cases r with
   | hand s' e' nx' as'=>
    (conv=>whnf)
    refine br (λc=>?_) (λc=>?_)
    ·(conv=>whnf)
     exact f0 k0
    ·have c:([zdI,s,e]==[zdI,s',e'])=false:=c
     refine go ?_ _
     show [[zdI,s',e']].contains [zdI,s,e]=false
     rw [List.contains_cons,c]
     rfl
   | house s' k' w' nx' as'=>
    (conv=>whnf)
    refine go ?_ _
    rw [<-Bool.not_eq_true,List.contains_iff_mem]
    intro q
    obtain ⟨x,_,e⟩:=List.mem_map.mp q
    cases e
  | house s k w nx as=>
   cases r with
   | hand s' e' nx' as'=>
    (conv=>whnf)
    refine go ?_ _
    rfl
   | house s' k' w' nx' as'=>
    (conv=>whnf)
    refine br (λc=>?_) (λc=>?_)
    ·have c:([zbc,s,k]==[zbc,s',k'])=true:=c
     (conv=>whnf)
     refine br (λc2=>?_) (λc2=>?_)
     ·(conv=>whnf)
      exact f0 k0
     ·have c2:(w==w')=false:=c2
      (conv=>whnf)
      refine br (λc3=>?_) (λc3=>?_)
      ·(conv=>whnf)
       exact f0 k0
      ·have c3:([w,w'].map D.str).any (λy=>y.eqb (.str kany))=false:=c3
       rw [anyS] at c3
       refine go ?_ _
       rw [<-Bool.not_eq_true,List.contains_iff_mem] at c3 ⊢
       intro q
       obtain ⟨x,hx,e⟩:=List.mem_map.mp q
       have e:[zbc,s',k',x]=[zbc,s,k,w]:=e
       simp only [List.cons.injEq,and_true,true_and] at e
       obtain ⟨rfl,rfl,rfl⟩:=e
       have hwk:(w'==kany)=false:=by
        rw [<-Bool.not_eq_true]
        intro z
        exact c3 (by rw [eq_of_beq z];simp)
       rw [hwk] at hx
       simp only [Bool.false_eq_true,if_false,List.mem_cons,List.not_mem_nil,or_false] at hx
       rcases hx with rfl | rfl
       ·exact c3 (by simp)
       ·simp at c2
    ·have c:([zbc,s,k]==[zbc,s',k'])=false:=c
     refine go ?_ _
     rw [<-Bool.not_eq_true,List.contains_iff_mem]
     intro q
     obtain ⟨x,_,e⟩:=List.mem_map.mp q
     have e:[zbc,s',k',x]=[zbc,s,k,w]:=e
     simp only [List.cons.injEq,and_true,true_and] at e
     obtain ⟨e1,e2,e3⟩:=e
     rw [e1,e2] at c
     rw [beq_self_eq_true] at c
     cases c
 ·rintro σ h' ⟨hj,rfl,v2,rfl⟩
  (conv=>whnf)
  refine f0 (k1 λo ho=>?_)
  obtain ⟨j,hj2⟩:=List.mem_iff_getElem?.mp ho
  exact hj j o (List.getElem?_eq_some_iff.mp hj2).1 hj2
 ·exact ⟨λj o hj=>by omega,rfl,none,rfl⟩
end K01
set_option linter.all false
set_option maxRecDepth 10000
namespace K01
open IT
theorem get_map {α:Type} {f:α->D} {l:List α} {i:Int} {k:Nat} (hi:i=k) (h:k<l.length):idxD (.lst (l.map f)) (.int i)=some (f l[k]):=by
 subst hi
 refine zfg (by omega) ?_
 rw [Int.toNat_natCast,List.getElem?_map,List.getElem?_eq_getElem h]
 rfl
theorem znZ {as bs:List W} (h:as.length=bs.length):(as.zip bs).map Prod.fst=as:=by
 rw [List.map_fst_zip];omega
theorem zh4 (n:Nat) {h:Sto} {ns:List Int} {Q:R->Sto->Prop} (k:∀ t,TbOk t->Q (.d (tbD t)) h):Ok (zaq P (n+4) 28 [.d (.lst (ns.map D.int))] h) Q:=by
 refine cl (F:=⟨1,13,zeh,false,[],false⟩) rfl rfl rfl ?_
 (conv=>whnf)
 refine ask (zkh (n+2) λc=>?_)
 (conv=>whnf)
 refine ask (zgl (n+2) λa b=>?_)
 (conv=>whnf)
 refine ask (zao (n+2) (by decide) (by decide) λr a b r0 r1=>?_)
 (conv=>whnf)
 refine ask (zdp (n+1) (no:=asks) (by omega) (by omega) (by decide) (by show 1+r+3<=9;omega) λkinds a b hkl hkw=>?_)
 (conv=>whnf)
 refine ask (zao (n+2) (by decide) (by decide) λr2 a b r0' r1'=>?_)
 (conv=>whnf)
 refine ask (zdp (n+1) (no:=[]) (by omega) (by omega) (by decide) (by show 1+r2+0<=9;omega) λsts a b hsl hsw=>?_)
 (conv=>whnf)
 refine ask (zao (n+2) (by decide) (by decide) λr3 a b r0'' r1''=>?_)
 (conv=>whnf)
 refine ask (zdp (n+1) (no:=[]) (by omega) (by omega) (by decide) (by show 1+r3+0<=9;omega) λhos a b hol how=>?_)
 (conv=>whnf)
 have hs8:sts.length<=8:=by omega
 rw [List.map_map]
 refine ask (zfT (g:=dI∘D.str) (xs:=sts) (λi xs h'=>∃ (rts:List W) (a b:Int),rts.length=i/\(∀ w∈rts,zeQ.contains w=true)/\xs=rts.map D.str/\h'=h++[dr a b]) ?_ ?_ ?_)
 ·rintro i x ys h' hx ⟨rts,a,b,hl,hr,rfl,rfl⟩
  refine gc ?_
  (conv=>whnf)
  refine ask (zao (n+2) (by decide) (by decide) λq a b q0 q1=>?_)
  obtain ⟨w,hw,e⟩:=zbK (l:=zeQ) q0 q1
  (conv=>whnf)
  refine st e ?_
  refine ⟨zah,rts++[w],a,b,by simp [hl],λy hy=>?_,by simp,rfl⟩
  rcases List.mem_append.mp hy with hy | hy
  ·exact hr y hy
  ·simp at hy;subst hy;exact List.contains_iff_mem.mpr hw
 ·rintro ys h' ⟨rts,a,b,hrl,hrr,rfl,rfl⟩
  have hk:∀ w∈kinds,Kd w:=λw hw=>⟨hkw.wd w hw,by rw [<-Bool.not_eq_true,List.contains_iff_mem];exact hkw.no w hw⟩
  (conv=>whnf)
  rw [len1,app1,znS,List.map_map]
  have hcl:(cut ns (some 1) (some 17)).length<=16:=by
   unfold cut
   have e1:sIx ns.length 0 (some 1)=min 1 ns.length:=rfl
   have e2:sIx ns.length ns.length (some 17)=min 17 ns.length:=rfl
   rw [e1,e2,List.length_take]
   omega
  refine ask (zfP (g:=dI∘D.int) (xs:=cut ns (some 1) (some 17)) (λi σ h'=>∃ (rs:List Rw) (a b:Int) (T:Sto),rs.length<=i/\(∀ r∈rs,RwOk sts hos r)/\(rs.Pairwise λa b=>(rivW b).contains (zbl a)=false)/\h'=h++[dr a b]++.lst (rs.map rowD)::T/\∃ v8 v9,σ=[some (R.d (.lst (ns.map D.int))),some (R.d (.int c)),some (R.loc h.length),some (R.d (.lst (kinds.map D.str))),some (R.d (.lst (sts.map D.str))),some (R.d (.lst (hos.map D.str))),some (R.d (.lst (rts.map D.str))),some (R.loc (h.length+1)),v8,v9,none,none,none]) ?_ ?_ ?_)
  ·rintro i x σ h' hx ⟨rs,a,b,T,hl,hok,hap,rfl,v8,v9,rfl⟩
   have hi:i<(cut ns (some 1) (some 17)).length:=(List.getElem?_eq_some_iff.mp hx).1
   have el:h.length+1=(h++[dr a b]).length:=by simp
   refine gb ?_
   (conv=>whnf)
   refine ask (zgl (n+2) λa1 b1=>?_)
   (conv=>whnf)
   refine ask (zkI n (by omega) hs8 (by omega) (by omega) (by omega) (by omega) hk λr a1 b1 hr=>?_)
   (conv=>whnf)
   rw [el,List.append_assoc,List.cons_append]
   refine ask (zgX (n+2) ?_ ?_ ?_)
   ·rintro s kd w nx as rfl
    exact hr.2.2.2.1
   ·intro hno
    (conv=>whnf)
    refine st zax ?_
    (conv=>whnf)
    refine st zax ?_
    (conv=>whnf)
    refine ⟨by unfold big;rw [List.length_map];omega,?_⟩
    rw [zbt]
    refine ⟨rfl,zah,rs++[r],a,b,T++[dr a1 b1],by simp;omega,?_,?_,by simp,_,_,by rw [<-el];rfl⟩
    ·intro y hy
     rcases List.mem_append.mp hy with hy | hy
     ·exact hok y hy
     ·simp at hy;subst hy;exact hr
    ·rw [List.pairwise_append]
     exact ⟨hap,by simp,λy hy z hz=>by simp at hz;subst hz;exact hno y hy⟩
   ·(conv=>whnf)
    exact ⟨rfl,zah,rs,a,b,T++[dr a1 b1],by omega,hok,hap,rfl,_,_,by rw [<-el];rfl⟩
  ·rintro σ h' ⟨rs,a,b,T,hl,hok,hap,rfl,v8,v9,rfl⟩
   (conv=>whnf)
   refine ⟨⟨by omega,by rw [List.length_map];omega⟩,?_⟩
   have el:h.length+1=(h++[dr a b]).length:=by simp
   have en:(((sts.map D.str).length:Int)).toNat=sts.length:=by rw [List.length_map,Int.toNat_natCast]
   rw [en]
   have hz:(sts.zip rts).length=sts.length:=by rw [List.length_zip];omega
   refine ask (zfT (g:=dI) (xs:=zbH 0 sts.length) (λi ys h'=>ys=((sts.zip rts).take i).map pairD/\h'=h++[dr a b]++.lst (rs.map rowD)::T) ?_ ?_ ?_)
   ·rintro i x ys h' hx ⟨rfl,rfl⟩
    obtain ⟨hi,rfl⟩:=zcS _ _ _ _ hx
    refine gc ?_
    (conv=>whnf)
    refine st (get_map (k:=i) (by omega) (by omega)) ?_
    (conv=>whnf)
    refine st (get_map (k:=i) (by omega) (by omega)) ?_
    refine ⟨zah,?_,rfl⟩
    have hg:(sts.zip rts)[i]?=some (sts[i],rts[i]):=by rw [List.getElem?_eq_getElem (by omega),List.getElem_zip]
    rw [List.take_succ,hg,List.map_append]
    rfl
   ·rintro ys h' ⟨rfl,rfl⟩
    rw [zbL,<-hz,List.take_length]
    rw [el]
    (conv=>whnf)
    refine st zax ?_
    (conv=>whnf)
    rw [List.append_assoc]
    have hf:=znZ (as:=sts) (bs:=rts) (by omega)
    have hst:∀ (l:List W) (m:Int),1<=m->m<=8->(l.length:Int)=m->Wds [] l->Sts l:=λl m h1 h2 h3 h4=>⟨by omega,by omega,h4.wd,h4.nd⟩
    refine fa (k ⟨sts.zip rts,hos,rs⟩ ⟨?_,?_,hst hos _ (by omega) (by omega) hol how,by show rs.length<=16;omega,?_,hap⟩)
    ·show Sts ((sts.zip rts).map Prod.fst)
     rw [hf]
     exact hst sts _ (by omega) (by omega) hsl hsw
    ·intro p hp
     exact hrr _ (List.of_mem_zip hp).2
    ·intro r hr
     show RwOk ((sts.zip rts).map Prod.fst) hos r
     rw [hf]
     exact hok r hr
   ·exact ⟨by simp,rfl⟩
  ·exact ⟨[],a,b,[],by simp,by simp,by simp,by simp,none,none,rfl⟩
 ·exact ⟨[],a,b,rfl,by simp,rfl,rfl⟩
end K01
set_option linter.all false
set_option maxRecDepth 10000
namespace K01
open IT
theorem zke (n:Nat) {h:Sto} {t:Tb} {Q:R->Sto->Prop} (o:TbOk t) (k:Q (.d (.str (tbT t))) h):Ok (zaq P (n+1) 29 [.d (tbD t)] h) Q:=by
 refine cl (F:=⟨1,9,zfj,false,[],false⟩) rfl rfl rfl ?_
 have s:=o.sm
 have h1:=s.pairs
 have h2:=s.hos
 have h3:=s.p8
 have h4:=s.h8
 have h5:=s.r16
 (conv=>whnf)
 refine ask (zaE (dD:=pairD) (g:=λp=>D.str (zcw p)) (λp hp=>?_) zah ?_)
 ·refine gc ?_
  have:=s.pw p hp
  (conv=>whnf)
  refine st (addS (by simp;omega)) ?_
  (conv=>whnf)
  refine st (addS (by simp;omega)) ?_
  exact ⟨by simp [zcw,catS],rfl⟩
 have em:t.ps.map (λp=>D.str (zcw p))=(t.ps.map zcw).map D.str:=by rw [List.map_map];rfl
 rw [em]
 (conv=>whnf)
 refine st (zfK 18 (λx hx=>?_) ?_) ?_
 ·obtain ⟨p,hp,rfl⟩:=List.mem_map.mp hx
  exact s.pair hp
 ·rw [List.length_map];simp only [List.length_cons,List.length_nil];omega
 (conv=>whnf)
 refine st (addS (by simp only [List.length_cons,List.length_nil];omega)) ?_
 (conv=>whnf)
 refine st (zgt 8 s.hw ?_) ?_
 ·simp only [List.length_cons,List.length_nil];omega
 (conv=>whnf)
 refine st (addS (by simp only [List.length_cons,List.length_nil];omega)) ?_
 (conv=>whnf)
 rw [List.map_map]
 refine ask (zfP (g:=dI∘rowD) (xs:=t.rs) (λi σ h'=>h'=h++[Ob.lst ((handsT t::zbk t::(t.rs.take i).map rowT).map D.str)]/\∃ v1 v3 v4 v5,σ=[some (R.d (tbD t)),v1,some (R.loc h.length),v3,v4,v5,none,none,none]) ?_ ?_ ?_)
 ·rintro i r σ h' hr ⟨rfl,v1,v3,v4,v5,rfl⟩
  have hm:r∈t.rs:=List.mem_of_getElem? hr
  have hi:i<t.rs.length:=(List.getElem?_eq_some_iff.mp hr).1
  have et:t.rs.take (i+1)=t.rs.take i++[r]:=by rw [List.take_succ,hr];rfl
  have sr:=s.rw r hm
  have a1:=sr.acts
  have a2:=sr.head
  have ao:=zgU (o.ok r hm)
  have ne:zay r≠[]->catS [44,32] ((zay r).map actT)≠[]:=by
   intro q e
   cases ea:zay r with
   | nil=>exact q ea
   | cons a as=>
    have ha:=ao.2 a (by rw [ea];exact List.mem_cons_self)
    rw [ea] at e
    cases a with
    | nil=>exact ha.1 rfl
    | cons w ws=>
     have:=(ha.2.2 w List.mem_cons_self).pos
     simp [catS,actT] at e
     rw [e.1] at this
     simp at this
  have end1:∀ (v3 v4 v5:Option R),(Fl.nx=Fl.nx/\zbb none h (h++[Ob.lst ((handsT t::zbk t::(t.rs.take i).map rowT).map D.str++[.str (rowT r)])])=true/\h++[Ob.lst ((handsT t::zbk t::(t.rs.take i).map rowT).map D.str++[.str (rowT r)])]=h++[Ob.lst ((handsT t::zbk t::(t.rs.take (i+1)).map rowT).map D.str)]/\∃ w1 w3 w4 w5,[some (R.d (tbD t)),v1,some (R.loc h.length),v3,v4,v5,none,none,none]=[some (R.d (tbD t)),w1,some (R.loc h.length),w3,w4,w5,none,none,none]):=by
   intro v3 v4 v5
   refine ⟨rfl,rfl,?_,v1,v3,v4,v5,rfl⟩
   rw [et]
   simp
  refine gb ?_
  cases r with
  | hand a e nx as=>
   have l1:=sr.hd a (by simp [zaP])
   have l2:=sr.hd e (by simp [zaP])
   have l3:=sr.hd nx (by simp [zaP])
   have eh:zcf (.hand a e nx as)=zdI++[32]++a++[32]++e++[32,45,62,32]++nx:=by simp [zcf,zaP,catS]
   (conv=>whnf)
   refine st (addS (by simp;omega)) ?_
   (conv=>whnf)
   refine st (addS (by simp;omega)) ?_
   (conv=>whnf)
   refine st (addS (by simp;omega)) ?_
   (conv=>whnf)
   refine st (addS (by simp;omega)) ?_
   (conv=>whnf)
   refine st (addS (by simp;omega)) ?_
   (conv=>whnf)
   refine ask (zaE (dD:=actD) (g:=λa=>D.str (actT a)) (λx hx=>?_) zah ?_)
   ·refine gc ?_
    (conv=>whnf)
    have h3:=sr.al x hx
    refine st (zgt 8 (sr.aw x hx) (by simp only [List.length_cons,List.length_nil];omega)) ?_
    exact ⟨rfl,rfl⟩
   have em:as.map (λa=>D.str (actT a))=(as.map actT).map D.str:=by rw [List.map_map];rfl
   rw [em]
   (conv=>whnf)
   have h9:as.length<=6:=sr.n
   refine st (zfK 27 (λx hx=>?_) ?_) ?_
   ·obtain ⟨a,ha,rfl⟩:=List.mem_map.mp hx
    exact sr.act ha
   ·rw [List.length_map];simp only [List.length_cons,List.length_nil];omega
   rw [<-eh]
   (conv=>whnf)
   have a1:(catS [44,32] (as.map actT)).length<=174:=a1
   have big1:((handsT t::zbk t::(t.rs.take i).map rowT).map D.str).length<big:=by
    unfold big
    simp only [List.length_map,List.length_cons,List.length_take]
    omega
   refine br (λc=>?_) (λc=>?_)
   ·have er:zcf (.hand a e nx as)++[58,32]++catS [44,32] (as.map actT)=rowT (.hand a e nx as):=by
     cases as with
     | nil=>exact absurd c (by decide)
     | cons _ _=>rfl
    (conv=>whnf)
    refine st (addS (by simp only [List.length_cons,List.length_nil];omega)) ?_
    (conv=>whnf)
    refine st (addS (by simp only [List.length_append,List.length_cons,List.length_nil];omega)) ?_
    (conv=>whnf)
    refine st zax ?_
    (conv=>whnf)
    refine st zax ?_
    (conv=>whnf)
    refine ⟨big1,?_⟩
    rw [zbt,er]
    exact end1 _ _ _
   ·have ea:as=[]:=by
     cases as with
     | nil=>rfl
     | cons x l=>
      have q:=ne (by simp [zay])
      have c:(!(catS [44,32] ((x::l).map actT)==[]))=false:=c
      have c2:catS [44,32] ((x::l).map actT)=[]:=by simpa using c
      exact absurd c2 q
    subst ea
    (conv=>whnf)
    refine st zax ?_
    (conv=>whnf)
    refine st zax ?_
    (conv=>whnf)
    refine ⟨big1,?_⟩
    rw [zbt]
    exact end1 _ _ _
  | house a kd w nx as=>
   have l1:=sr.hd a (by simp [zaP])
   have l2:=sr.hd kd (by simp [zaP])
   have l4:=sr.hd w (by simp [zaP])
   have l3:=sr.hd nx (by simp [zaP])
   have eh:zcf (.house a kd w nx as)=zbc++[32]++a++[32]++kd++[32]++w++[32,45,62,32]++nx:=by simp [zcf,zaP,catS]
   (conv=>whnf)
   refine st (addS (by simp;omega)) ?_
   (conv=>whnf)
   refine st (addS (by simp;omega)) ?_
   (conv=>whnf)
   refine st (addS (by simp;omega)) ?_
   (conv=>whnf)
   refine st (addS (by simp;omega)) ?_
   (conv=>whnf)
   refine st (addS (by simp;omega)) ?_
   (conv=>whnf)
   refine st (addS (by simp;omega)) ?_
   (conv=>whnf)
   refine st (addS (by simp;omega)) ?_
   (conv=>whnf)
   refine ask (zaE (dD:=actD) (g:=λa=>D.str (actT a)) (λx hx=>?_) zah ?_)
   ·refine gc ?_
    (conv=>whnf)
    have h3:=sr.al x hx
    refine st (zgt 8 (sr.aw x hx) (by simp only [List.length_cons,List.length_nil];omega)) ?_
    exact ⟨rfl,rfl⟩
   have em:as.map (λa=>D.str (actT a))=(as.map actT).map D.str:=by rw [List.map_map];rfl
   rw [em]
   (conv=>whnf)
   have h9:as.length<=6:=sr.n
   refine st (zfK 27 (λx hx=>?_) ?_) ?_
   ·obtain ⟨a,ha,rfl⟩:=List.mem_map.mp hx
    exact sr.act ha
   ·rw [List.length_map];simp only [List.length_cons,List.length_nil];omega
   rw [<-eh]
   (conv=>whnf)
   have a1:(catS [44,32] (as.map actT)).length<=174:=a1
   have big1:((handsT t::zbk t::(t.rs.take i).map rowT).map D.str).length<big:=by
    unfold big
    simp only [List.length_map,List.length_cons,List.length_take]
    omega
   refine br (λc=>?_) (λc=>?_)
   ·have er:zcf (.house a kd w nx as)++[58,32]++catS [44,32] (as.map actT)=rowT (.house a kd w nx as):=by
     cases as with
     | nil=>exact absurd c (by decide)
     | cons _ _=>rfl
    (conv=>whnf)
    refine st (addS (by simp only [List.length_cons,List.length_nil];omega)) ?_
    (conv=>whnf)
    refine st (addS (by simp only [List.length_append,List.length_cons,List.length_nil];omega)) ?_
    (conv=>whnf)
    refine st zax ?_
    (conv=>whnf)
    refine st zax ?_
    (conv=>whnf)
    refine ⟨big1,?_⟩
    rw [zbt,er]
    exact end1 _ _ _
   ·have ea:as=[]:=by
     cases as with
     | nil=>rfl
     | cons x l=>
      have q:=ne (by simp [zay])
      have c:(!(catS [44,32] ((x::l).map actT)==[]))=false:=c
      have c2:catS [44,32] ((x::l).map actT)=[]:=by simpa using c
      exact absurd c2 q
    subst ea
    (conv=>whnf)
    refine st zax ?_
    (conv=>whnf)
    refine st zax ?_
    (conv=>whnf)
    refine ⟨big1,?_⟩
    rw [zbt]
    exact end1 _ _ _
 ·rintro σ h' ⟨rfl,v1,v3,v4,v5,rfl⟩
  rw [List.take_length]
  (conv=>whnf)
  refine st zax ?_
  (conv=>whnf)
  have h6:=s.lines
  refine st (zfK (l:=tbL t) 230 s.line ?_) ?_
  ·simp only [List.length_cons,List.length_nil];omega
  (conv=>whnf)
  exact fa k
 ·exact ⟨rfl,_,none,none,none,rfl⟩
end K01
set_option linter.all false
set_option maxRecDepth 10000
namespace K01
open IT
inductive KD:Nat->D->Prop
 | str {d:Nat} {w:W}:KD d (.str w)
 | tup {d:Nat} {xs:List D} (h:∀ x∈xs,KD d x):KD (d+1) (.tup xs)
theorem zeU (n:Nat):∀ (d:Nat) {x:D} {h:Sto} {Q:R->Sto->Prop},KD d x->Q (.d (.bl true)) h->Ok (zaq P (n+d+1) 30 [.d x] h) Q
 | 0,x,h,Q,q,k=>by
  refine cl (F:=⟨1,2,zcU,false,[],false⟩) rfl rfl rfl ?_
  cases q with
  | str=>
   (conv=>whnf)
   exact f0 k
 | d + 1,x,h,Q,q,k=>by
  refine cl (F:=⟨1,2,zcU,false,[],false⟩) rfl rfl rfl ?_
  cases q with
  | str=>
   (conv=>whnf)
   exact f0 k
  | @tup _ xs hx=>
   have em:xs=xs.map λx=>x:=by simp
   (conv=>whnf)
   rw [em]
   refine ask (zaE (dD:=λx=>x) (g:=λ_=>D.bl true) (λy hy=>?_) zah ?_)
   ·refine gc ?_
    (conv=>whnf)
    exact ask (zeU n d (hx y hy) ⟨rfl,rfl⟩)
   ·(conv=>whnf)
    refine st (zgF (f:=λ_=>true)) ?_
    (conv=>whnf)
    exact f0 (okQ k (by simp))
theorem zhd {d:Nat} (l:List W):KD (d+1) (.tup (l.map D.str)):=.tup λx hx=>by
 obtain ⟨w,_,rfl⟩:=List.mem_map.mp hx
 exact .str
theorem zjz (as:List (List W)):KD 2 (zdF as):=.tup λx hx=>by
 obtain ⟨a,_,rfl⟩:=List.mem_map.mp hx
 exact zhd a
theorem zo6 (r:Rw):KD 3 (rowD r):=by
 cases r with
 | hand s e n as=>
  refine .tup λx hx=>?_
  simp at hx
  rcases hx with rfl | rfl | rfl | rfl | rfl
  ·exact .str
  ·exact .str
  ·exact .str
  ·exact .str
  ·exact zjz as
 | house s k w n as=>
  refine .tup λx hx=>?_
  simp at hx
  rcases hx with rfl | rfl | rfl | rfl | rfl | rfl
  ·exact .str
  ·exact .str
  ·exact .str
  ·exact .str
  ·exact .str
  ·exact zjz as
theorem zqy (t:Tb):KD 5 (tbD t):=.tup λx hx=>by
 simp at hx
 rcases hx with rfl | rfl | rfl
 ·refine .tup λy hy=>?_
  obtain ⟨p,_,rfl⟩:=List.mem_map.mp hy
  exact zhd [p.1,p.2]
 ·exact zhd _
 ·refine .tup λy hy=>?_
  obtain ⟨r,_,rfl⟩:=List.mem_map.mp hy
  exact zo6 r
theorem zmq:∀ {d:Nat} {x:D},KD d x->x.dep<=d+1
 | _,_,.str=>by simp [D.dep]
 | _,_,.tup h=>by
  show D.deps _+1<=_
  have:=zgJ λx hx=>zmq (h x hx)
  omega
theorem law_call (n:Nat) {h:Sto} {ns:List Int} {Q:R->Sto->Prop} (k:Q (.d (.bl true)) h):Ok (zaq P (n+9) 31 [.d (.lst (ns.map D.int))] h) Q:=by
 refine cl (F:=⟨1,4,zmM,false,[],false⟩) rfl rfl rfl ?_
 (conv=>whnf)
 refine ask (zh4 (n+4) λt o=>?_)
 have s:=o.sm
 (conv=>whnf)
 refine ask (zke (n+7) o ?_)
 (conv=>whnf)
 refine ask (zcy (n+6) s ?_)
 (conv=>whnf)
 refine bf (by rw [D.eqb_rfl];rfl) ?_
 (conv=>whnf)
 refine ask (zeC n o ?_)
 (conv=>whnf)
 refine ask (zeU (n+2) 5 (zqy t) ?_)
 (conv=>whnf)
 have hd:(tbD t).dep<=60:=by have:=zmq (zqy t);omega
 refine st (zkq (zqh hd)) ?_
 (conv=>whnf)
 refine bt (D.eqb_rfl _) ?_
 (conv=>whnf)
 refine ask (zcy (n+6) s ?_)
 (conv=>whnf)
 exact f0 (okQ k (D.eqb_rfl _))
theorem zkF {ns:List Int} (hl:ns.length<=63):zaq P 12 31 [.d (.lst (ns.map .int))] []=some (.d (.bl true),[]):=(law_call 3 (Q:=λr h=>r=.d (.bl true)/\h=[]) ⟨rfl,rfl⟩).eq
end K01
set_option linter.all false
set_option maxRecDepth 100000
set_option maxHeartbeats 8000000
namespace K01
open PySem PySem.Spec L2 IT
noncomputable def fns:List (Str×Nat×List D):=[("is_word",1,[]),("is_kind",1,[]),("are_states",1,[]),("are_hands",1,[]),("states_of",1,[]),("is_row",3,[]),("is_hand_row",2,[]),("is_house_row",2,[]),("are_acts",3,[]),("is_act",3,[]),("place_of",1,[]),("rival_places",1,[]),("table_text",1,[]),("row_text",1,[]),("read_table",1,[]),("read_hands",1,[]),("read_houses",1,[]),("parts_behind",2,[]),("words_of",1,[]),("read_rows",3,[]),("read_row",1,[]),("_law_draw",1,[]),("_law_next",2,[]),("_law_cell_at",2,[]),("_law_words",3,[]),("_law_acts",4,[]),("_law_row",4,[]),("_law_stands",2,[]),("_law_table",1,[]),("_law_text",1,[]),("_law_kinds",1,[]),("law",1,[])]
noncomputable def cls:List zi6:=[]
noncomputable def globs:List (Str×D):=[("ARROW",(.str [45,62])),("ASKS",(.tup [(.str [114,101,97,100]),(.str [119,114,105,116,101]),(.str [100,114,111,112])])),("HANDS",(.str [104,97,110,100,115,32])),("HAND_ACTS",(.tup [(.str [107,101,101,112]),(.str [108,111,115,101]),(.str [116,101,108,108]),(.str [112,117,116])])),("HAND_SENDS",(.tup [(.str [115,101,110,100])])),("HOUSES",(.str [104,111,117,115,101,115,32])),("HOUSE_ACTS",(.tup [(.str [107,101,101,112]),(.str [111,119,110]),(.str [115,104,97,114,101]),(.str [102,111,114,103,101,116]),(.str [99,108,101,97,114]),(.str [115,116,97,121])])),("HOUSE_SENDS",(.tup [(.str [115,101,110,100]),(.str [111,119,110,101,114]),(.str [111,116,104,101,114,115])])),("LOADS",(.tup [(.str [98,97,114,101]),(.str [118,97,108,117,101])])),("MOST_ACTS",(.int 6)),("MOST_LETTERS",(.int 8)),("MOST_STATES",(.int 8)),("RIGHTS",(.tup [(.str [110,111,110,101]),(.str [114,101,97,100]),(.str [119,114,105,116,101])])),("SMALL_LETTERS",(.str [97,98,99,100,101,102,103,104,105,106,107,108,109,110,111,112,113,114,115,116,117,118,119,120,121,122])),("WAITS",(.tup [(.tup [(.str [119,97,105,116])])])),("WHENS",(.tup [(.str [97,110,121]),(.str [108,97,115,116]),(.str [109,111,114,101])]))]
noncomputable def gds:List (Str×List (List Nat×D)):=[]
noncomputable def zaG:Stmt:=PySem.Challenge.pw_copyclerk_k01_tables_written_and_read.main.body.getD 17 (.Pass ⟨0,0,0,0⟩)
noncomputable def zei:List Str:=["text", "?1?sign"]
noncomputable def zda:List Str:=["text"]
theorem zjk:chkSs zdX ⟨zei,(zaa zaG).names,fns,globs,true,cls,gds⟩ (zab zaG)=true:=by decide +kernel
theorem ziF:zam zei zda (zaa zaG):=⟨rfl,rfl,rfl,by decide +kernel,rfl,by decide +kernel,by decide +kernel⟩
noncomputable def zaQ:Stmt:=PySem.Challenge.pw_copyclerk_k01_tables_written_and_read.main.body.getD 18 (.Pass ⟨0,0,0,0⟩)
noncomputable def zd2:List Str:=["text"]
noncomputable def zc8:List Str:=["text"]
theorem zjw:chkSs zem ⟨zd2,(zaa zaQ).names,fns,globs,true,cls,gds⟩ (zab zaQ)=true:=by decide +kernel
theorem zjx:zam zd2 zc8 (zaa zaQ):=⟨rfl,rfl,rfl,by decide +kernel,rfl,by decide +kernel,by decide +kernel⟩
noncomputable def zau:Stmt:=PySem.Challenge.pw_copyclerk_k01_tables_written_and_read.main.body.getD 19 (.Pass ⟨0,0,0,0⟩)
noncomputable def zb6:List Str:=["words", "?1?word"]
noncomputable def zbu:List Str:=["words"]
theorem zf9:chkSs zcj ⟨zb6,(zaa zau).names,fns,globs,true,cls,gds⟩ (zab zau)=true:=by decide +kernel
theorem zfS:zam zb6 zbu (zaa zau):=⟨rfl,rfl,rfl,by decide +kernel,rfl,by decide +kernel,by decide +kernel⟩
noncomputable def zaA:Stmt:=PySem.Challenge.pw_copyclerk_k01_tables_written_and_read.main.body.getD 20 (.Pass ⟨0,0,0,0⟩)
noncomputable def zcM:List Str:=["pairs", "?1?pair"]
noncomputable def zb2:List Str:=["pairs"]
theorem zgT:chkSs zcF ⟨zcM,(zaa zaA).names,fns,globs,true,cls,gds⟩ (zab zaA)=true:=by decide +kernel
theorem zg1:zam zcM zb2 (zaa zaA):=⟨rfl,rfl,rfl,by decide +kernel,rfl,by decide +kernel,by decide +kernel⟩
noncomputable def zaC:Stmt:=PySem.Challenge.pw_copyclerk_k01_tables_written_and_read.main.body.getD 21 (.Pass ⟨0,0,0,0⟩)
noncomputable def zcE:List Str:=["hands", "?1?pair"]
noncomputable def zbP:List Str:=["hands"]
theorem zha:chkSs zcH ⟨zcE,(zaa zaC).names,fns,globs,true,cls,gds⟩ (zab zaC)=true:=by decide +kernel
theorem zhc:zam zcE zbP (zaa zaC):=⟨rfl,rfl,rfl,by decide +kernel,rfl,by decide +kernel,by decide +kernel⟩
noncomputable def za1:Stmt:=PySem.Challenge.pw_copyclerk_k01_tables_written_and_read.main.body.getD 22 (.Pass ⟨0,0,0,0⟩)
noncomputable def zeV:List Str:=["row", "hand_states", "house_states"]
noncomputable def zdL:List Str:=["row", "hand_states", "house_states"]
theorem zla:chkSs zfx ⟨zeV,(zaa za1).names,fns,globs,true,cls,gds⟩ (zab za1)=true:=by decide +kernel
theorem zlP:zam zeV zdL (zaa za1):=⟨rfl,rfl,rfl,by decide +kernel,rfl,by decide +kernel,by decide +kernel⟩
noncomputable def zan:Stmt:=PySem.Challenge.pw_copyclerk_k01_tables_written_and_read.main.body.getD 23 (.Pass ⟨0,0,0,0⟩)
noncomputable def zbZ:List Str:=["row", "states", "acts"]
noncomputable def zbq:List Str:=["row", "states"]
theorem zfm:chkSs zbp ⟨zbZ,(zaa zan).names,fns,globs,true,cls,gds⟩ (zab zan)=true:=by decide +kernel
theorem ze8:zam zbZ zbq (zaa zan):=⟨rfl,rfl,rfl,by decide +kernel,rfl,by decide +kernel,by decide +kernel⟩
noncomputable def zak:Stmt:=PySem.Challenge.pw_copyclerk_k01_tables_written_and_read.main.body.getD 24 (.Pass ⟨0,0,0,0⟩)
noncomputable def zbA:List Str:=["row", "states"]
noncomputable def zbi:List Str:=["row", "states"]
theorem zeG:chkSs zbh ⟨zbA,(zaa zak).names,fns,globs,true,cls,gds⟩ (zab zak)=true:=by decide +kernel
theorem zez:zam zbA zbi (zaa zak):=⟨rfl,rfl,rfl,by decide +kernel,rfl,by decide +kernel,by decide +kernel⟩
noncomputable def zaM:Stmt:=PySem.Challenge.pw_copyclerk_k01_tables_written_and_read.main.body.getD 25 (.Pass ⟨0,0,0,0⟩)
noncomputable def zdw:List Str:=["acts", "plain", "sends", "?1?act"]
noncomputable def zcr:List Str:=["acts", "plain", "sends"]
theorem zh8:chkSs zdj ⟨zdw,(zaa zaM).names,fns,globs,true,cls,gds⟩ (zab zaM)=true:=by decide +kernel
theorem zhT:zam zdw zcr (zaa zaM):=⟨rfl,rfl,rfl,by decide +kernel,rfl,by decide +kernel,by decide +kernel⟩
noncomputable def za4:Stmt:=PySem.Challenge.pw_copyclerk_k01_tables_written_and_read.main.body.getD 26 (.Pass ⟨0,0,0,0⟩)
noncomputable def ze4:List Str:=["act", "plain", "sends"]
noncomputable def zdS:List Str:=["act", "plain", "sends"]
theorem zlR:chkSs zfr ⟨ze4,(zaa za4).names,fns,globs,true,cls,gds⟩ (zab za4)=true:=by decide +kernel
theorem zlG:zam ze4 zdS (zaa za4):=⟨rfl,rfl,rfl,by decide +kernel,rfl,by decide +kernel,by decide +kernel⟩
noncomputable def zaL:Stmt:=PySem.Challenge.pw_copyclerk_k01_tables_written_and_read.main.body.getD 27 (.Pass ⟨0,0,0,0⟩)
noncomputable def zdq:List Str:=["row"]
noncomputable def zcv:List Str:=["row"]
theorem zh5:chkSs zdu ⟨zdq,(zaa zaL).names,fns,globs,true,cls,gds⟩ (zab zaL)=true:=by decide +kernel
theorem zhS:zam zdq zcv (zaa zaL):=⟨rfl,rfl,rfl,by decide +kernel,rfl,by decide +kernel,by decide +kernel⟩
noncomputable def zaj:Stmt:=PySem.Challenge.pw_copyclerk_k01_tables_written_and_read.main.body.getD 28 (.Pass ⟨0,0,0,0⟩)
noncomputable def zbD:List Str:=["row", "whens", "?1?when"]
noncomputable def zbf:List Str:=["row"]
theorem zew:chkSs zbC ⟨zbD,(zaa zaj).names,fns,globs,true,cls,gds⟩ (zab zaj)=true:=by decide +kernel
theorem zeu:zam zbD zbf (zaa zaj):=⟨rfl,rfl,rfl,by decide +kernel,rfl,by decide +kernel,by decide +kernel⟩
noncomputable def zas:Stmt:=PySem.Challenge.pw_copyclerk_k01_tables_written_and_read.main.body.getD 33 (.Pass ⟨0,0,0,0⟩)
noncomputable def zcg:List Str:=["table", "pairs", "lines", "?1?pair", "?2?row"]
noncomputable def zbx:List Str:=["table"]
theorem zgC:chkSs zcd ⟨zcg,(zaa zas).names,fns,globs,true,cls,gds⟩ (zab zas)=true:=by decide +kernel
theorem zfN:zam zcg zbx (zaa zas):=⟨rfl,rfl,rfl,by decide +kernel,rfl,by decide +kernel,by decide +kernel⟩
noncomputable def zaI:Stmt:=PySem.Challenge.pw_copyclerk_k01_tables_written_and_read.main.body.getD 34 (.Pass ⟨0,0,0,0⟩)
noncomputable def zdf:List Str:=["row", "head", "acts", "?1?act"]
noncomputable def zco:List Str:=["row"]
theorem zik:chkSs zdo ⟨zdf,(zaa zaI).names,fns,globs,true,cls,gds⟩ (zab zaI)=true:=by decide +kernel
theorem zhV:zam zdf zco (zaa zaI):=⟨rfl,rfl,rfl,by decide +kernel,rfl,by decide +kernel,by decide +kernel⟩
noncomputable def zat:Stmt:=PySem.Challenge.pw_copyclerk_k01_tables_written_and_read.main.body.getD 35 (.Pass ⟨0,0,0,0⟩)
noncomputable def zca:List Str:=["text", "lines", "hands", "houses"]
noncomputable def zbv:List Str:=["text"]
theorem zgD:chkSs zb7 ⟨zca,(zaa zat).names,fns,globs,true,cls,gds⟩ (zab zat)=true:=by decide +kernel
theorem zgd:zam zca zbv (zaa zat):=⟨rfl,rfl,rfl,by decide +kernel,rfl,by decide +kernel,by decide +kernel⟩
noncomputable def zar:Stmt:=PySem.Challenge.pw_copyclerk_k01_tables_written_and_read.main.body.getD 36 (.Pass ⟨0,0,0,0⟩)
noncomputable def zb4:List Str:=["line", "?1?part"]
noncomputable def zbw:List Str:=["line"]
theorem zgH:chkSs zch ⟨zb4,(zaa zar).names,fns,globs,true,cls,gds⟩ (zab zar)=true:=by decide +kernel
theorem zgz:zam zb4 zbw (zaa zar):=⟨rfl,rfl,rfl,by decide +kernel,rfl,by decide +kernel,by decide +kernel⟩
noncomputable def zap:Stmt:=PySem.Challenge.pw_copyclerk_k01_tables_written_and_read.main.body.getD 37 (.Pass ⟨0,0,0,0⟩)
noncomputable def zbX:List Str:=["line"]
noncomputable def zbm:List Str:=["line"]
theorem zfw:chkSs zbV ⟨zbX,(zaa zap).names,fns,globs,true,cls,gds⟩ (zab zap)=true:=by decide +kernel
theorem ze3:zam zbX zbm (zaa zap):=⟨rfl,rfl,rfl,by decide +kernel,rfl,by decide +kernel,by decide +kernel⟩
noncomputable def zal:Stmt:=PySem.Challenge.pw_copyclerk_k01_tables_written_and_read.main.body.getD 38 (.Pass ⟨0,0,0,0⟩)
noncomputable def zbB:List Str:=["heading", "line"]
noncomputable def zbg:List Str:=["heading", "line"]
theorem zex:chkSs zbz ⟨zbB,(zaa zal).names,fns,globs,true,cls,gds⟩ (zab zal)=true:=by decide +kernel
theorem zeF:zam zbB zbg (zaa zal):=⟨rfl,rfl,rfl,by decide +kernel,rfl,by decide +kernel,by decide +kernel⟩
noncomputable def zaK:Stmt:=PySem.Challenge.pw_copyclerk_k01_tables_written_and_read.main.body.getD 39 (.Pass ⟨0,0,0,0⟩)
noncomputable def zdy:List Str:=["part"]
noncomputable def zcs:List Str:=["part"]
theorem zie:chkSs zdg ⟨zdy,(zaa zaK).names,fns,globs,true,cls,gds⟩ (zab zaK)=true:=by decide +kernel
theorem zib:zam zdy zcs (zaa zaK):=⟨rfl,rfl,rfl,by decide +kernel,rfl,by decide +kernel,by decide +kernel⟩
noncomputable def zaz:Stmt:=PySem.Challenge.pw_copyclerk_k01_tables_written_and_read.main.body.getD 40 (.Pass ⟨0,0,0,0⟩)
noncomputable def zcB:List Str:=["lines", "hand_states", "house_states", "rows", "taken", "number", "line", "row", "?1?place"]
noncomputable def zbS:List Str:=["lines", "hand_states", "house_states"]
theorem zgV:chkSs zcP ⟨zcB,(zaa zaz).names,fns,globs,true,cls,gds⟩ (zab zaz)=true:=by decide +kernel
theorem zg7:zam zcB zbS (zaa zaz):=⟨rfl,rfl,rfl,by decide +kernel,rfl,by decide +kernel,by decide +kernel⟩
noncomputable def zaJ:Stmt:=PySem.Challenge.pw_copyclerk_k01_tables_written_and_read.main.body.getD 41 (.Pass ⟨0,0,0,0⟩)
noncomputable def zdl:List Str:=["line", "halves", "words", "acts", "?1?part"]
noncomputable def zct:List Str:=["line"]
theorem zis:chkSs zdz ⟨zdl,(zaa zaJ).names,fns,globs,true,cls,gds⟩ (zab zaJ)=true:=by decide +kernel
theorem ziq:zam zdl zct (zaa zaJ):=⟨rfl,rfl,rfl,by decide +kernel,rfl,by decide +kernel,by decide +kernel⟩
noncomputable def za5:Stmt:=PySem.Challenge.pw_copyclerk_k01_tables_written_and_read.main.body.getD 43 (.Pass ⟨0,0,0,0⟩)
noncomputable def zeX:List Str:=["_law_cell"]
noncomputable def zdT:List Str:=["_law_cell"]
theorem zlz:chkSs zfa ⟨zeX,(zaa za5).names,fns,globs,true,cls,gds⟩ (zab za5)=true:=by decide +kernel
theorem zlV:zam zeX zdT (zaa za5):=⟨rfl,rfl,rfl,by decide +kernel,rfl,by decide +kernel,by decide +kernel⟩
noncomputable def za0:Stmt:=PySem.Challenge.pw_copyclerk_k01_tables_written_and_read.main.body.getD 44 (.Pass ⟨0,0,0,0⟩)
noncomputable def ze2:List Str:=["_law_draw_here", "_law_size", "_law_digit", "_law_number"]
noncomputable def zdM:List Str:=["_law_draw_here", "_law_size"]
theorem zlA:chkSs zfd ⟨ze2,(zaa za0).names,fns,globs,true,cls,gds⟩ (zab za0)=true:=by decide +kernel
theorem zkL:zam ze2 zdM (zaa za0):=⟨rfl,rfl,rfl,by decide +kernel,rfl,by decide +kernel,by decide +kernel⟩
noncomputable def zaB:Stmt:=PySem.Challenge.pw_copyclerk_k01_tables_written_and_read.main.body.getD 45 (.Pass ⟨0,0,0,0⟩)
noncomputable def zcC:List Str:=["_law_script", "_law_k"]
noncomputable def zbR:List Str:=["_law_script", "_law_k"]
theorem zg8:chkSs zcD ⟨zcC,(zaa zaB).names,fns,globs,true,cls,gds⟩ (zab zaB)=true:=by decide +kernel
theorem zg4:zam zcC zbR (zaa zaB):=⟨rfl,rfl,rfl,by decide +kernel,rfl,by decide +kernel,by decide +kernel⟩
noncomputable def zaT:Stmt:=PySem.Challenge.pw_copyclerk_k01_tables_written_and_read.main.body.getD 46 (.Pass ⟨0,0,0,0⟩)
noncomputable def zeq:List Str:=["_law_draw_here", "_law_many", "_law_no", "_law_words_here", "_law_number", "_law_word", "_law_k", "_law_some", "_law_letter"]
noncomputable def zde:List Str:=["_law_draw_here", "_law_many", "_law_no"]
theorem zjc:chkSs zcT ⟨zeq,(zaa zaT).names,fns,globs,true,cls,gds⟩ (zab zaT)=true:=by decide +kernel
theorem zjp:zam zeq zde (zaa zaT):=⟨rfl,rfl,rfl,by decide +kernel,rfl,by decide +kernel,by decide +kernel⟩
noncomputable def zaZ:Stmt:=PySem.Challenge.pw_copyclerk_k01_tables_written_and_read.main.body.getD 47 (.Pass ⟨0,0,0,0⟩)
noncomputable def zfE:List Str:=["_law_draw_here", "_law_kinds_here", "_law_hand", "_law_ask", "_law_alone", "_law_sends", "_law_acts_here", "_law_k", "_law_word", "_law_kind"]
noncomputable def zdR:List Str:=["_law_draw_here", "_law_kinds_here", "_law_hand", "_law_ask"]
theorem zlM:chkSs zcQ ⟨zfE,(zaa zaZ).names,fns,globs,true,cls,gds⟩ (zab zaZ)=true:=by decide +kernel
theorem zkR:zam zfE zdR (zaa zaZ):=⟨rfl,rfl,rfl,by decide +kernel,rfl,by decide +kernel,by decide +kernel⟩
noncomputable def zbe:Stmt:=PySem.Challenge.pw_copyclerk_k01_tables_written_and_read.main.body.getD 48 (.Pass ⟨0,0,0,0⟩)
noncomputable def zg5:List Str:=["_law_draw_here", "_law_states", "_law_houses", "_law_kinds_here", "_law_event", "_law_state", "_law_acts_here", "_law_row_here", "_law_when", "_law_behind"]
noncomputable def ze9:List Str:=["_law_draw_here", "_law_states", "_law_houses", "_law_kinds_here"]
theorem zm1:chkSs zfB ⟨zg5,(zaa zbe).names,fns,globs,true,cls,gds⟩ (zab zbe)=true:=by decide +kernel
theorem znu:zam zg5 ze9 (zaa zbe):=⟨rfl,rfl,rfl,by decide +kernel,rfl,by decide +kernel,by decide +kernel⟩
noncomputable def zaH:Stmt:=PySem.Challenge.pw_copyclerk_k01_tables_written_and_read.main.body.getD 49 (.Pass ⟨0,0,0,0⟩)
noncomputable def zdA:List Str:=["_law_rows", "_law_row_here", "_law_other"]
noncomputable def zcu:List Str:=["_law_rows", "_law_row_here"]
theorem zia:chkSs zdn ⟨zdA,(zaa zaH).names,fns,globs,true,cls,gds⟩ (zab zaH)=true:=by decide +kernel
theorem ziu:zam zdA zcu (zaa zaH):=⟨rfl,rfl,rfl,by decide +kernel,rfl,by decide +kernel,by decide +kernel⟩
noncomputable def zaR:Stmt:=PySem.Challenge.pw_copyclerk_k01_tables_written_and_read.main.body.getD 50 (.Pass ⟨0,0,0,0⟩)
noncomputable def zek:List Str:=["_law_script", "_law_cell", "_law_draw_here", "_law_kinds_here", "_law_states", "_law_houses", "_law_rights", "_law_rows", "_law_one", "_law_row_here", "_law_hands", "?1?_law_state", "?2?_law_k"]
noncomputable def zcV:List Str:=["_law_script"]
theorem zjS:chkSs zeh ⟨zek,(zaa zaR).names,fns,globs,true,cls,gds⟩ (zab zaR)=true:=by decide +kernel
theorem zjM:zam zek zcV (zaa zaR):=⟨rfl,rfl,rfl,by decide +kernel,rfl,by decide +kernel,by decide +kernel⟩
noncomputable def za2:Stmt:=PySem.Challenge.pw_copyclerk_k01_tables_written_and_read.main.body.getD 51 (.Pass ⟨0,0,0,0⟩)
noncomputable def zfu:List Str:=["_law_table_here", "_law_hands", "_law_rows", "_law_row_here", "_law_text_here", "_law_acts_here", "?1?_law_state", "?1?_law_right", "?2?_law_act"]
noncomputable def zdJ:List Str:=["_law_table_here"]
theorem zlo:chkSs zfj ⟨zfu,(zaa za2).names,fns,globs,true,cls,gds⟩ (zab za2)=true:=by decide +kernel
theorem zkS:zam zfu zdJ (zaa za2):=⟨rfl,rfl,rfl,by decide +kernel,rfl,by decide +kernel,by decide +kernel⟩
noncomputable def zaS:Stmt:=PySem.Challenge.pw_copyclerk_k01_tables_written_and_read.main.body.getD 52 (.Pass ⟨0,0,0,0⟩)
noncomputable def zeg:List Str:=["_law_thing", "?1?_law_one"]
noncomputable def zc6:List Str:=["_law_thing"]
theorem zkb:chkSs zcU ⟨zeg,(zaa zaS).names,fns,globs,true,cls,gds⟩ (zab zaS)=true:=by decide +kernel
theorem zj7:zam zeg zc6 (zaa zaS):=⟨rfl,rfl,rfl,by decide +kernel,rfl,by decide +kernel,by decide +kernel⟩
noncomputable def zb5:Stmt:=PySem.Challenge.pw_copyclerk_k01_tables_written_and_read.main.body.getD 53 (.Pass ⟨0,0,0,0⟩)
noncomputable def zm7:List Str:=["_law_script", "_law_table_here", "_law_text_here", "_law_found"]
noncomputable def zkK:List Str:=["_law_script"]
theorem zru:chkSs zmM ⟨zm7,(zaa zb5).names,fns,globs,true,cls,gds⟩ (zab zb5)=true:=by decide +kernel
theorem zrV:zam zm7 zkK (zaa zb5):=⟨rfl,rfl,rfl,by decide +kernel,rfl,by decide +kernel,by decide +kernel⟩
theorem all_mk {l:PySem.W.OpenLaw} {w:World} {K:PySem.W.Frag} {h:Heap} {mg:Str->Option Value} {fa f1 f2 f3 f4 f5 f6 f7 f8 f9 f10 f11 f12 f13 f14 f15 f16 f17 f18 f19 f20 f21 f22 f23 f24 f25 f26 f27 f28 f29 f30 f31 f32 ga0 ga1 ga2 ga3 ga4 ga5 ga6 ga7 ga8 ga9:Addr} (X:K.In h) (G:h.Ns mainGlobals mg) (hfa:mg "law"=some (.ref fa))
  {od1 an1 od2 an2 od3 an3 od4 an4 od5 an5 od6 an6 od7 an7 od8 an8 od9 an9 od10 an10 od11 an11 od12 an12 od13 an13 od14 an14 od15 an15 od16 an16 od17 an17 od18 an18 od19 an19 od20 an20 od21 an21 od22 an22 od23 an23 od24 an24 od25 an25 od26 an26 od27 an27 od28 an28 od29 an29 od30 an30 od31 an31 od32 an32:Option Addr} {sl1 sl2 sl3 sl4 sl5 sl6 sl7 sl8 sl9 sl10 sl11 sl12 sl13 sl14 sl15 sl16 sl17 sl18 sl19 sl20 sl21 sl22 sl23 sl24 sl25 sl26 sl27 sl28 sl29 sl30 sl31 sl32 gs1 gs2 gs3 gs4 gs5 gs6 gs7 gs8 gs9 gs10:Array (Option Value)} {oc1 kV1 dc1 pm1 cd1 ct1 oc2 kV2 dc2 pm2 cd2 ct2 oc3 kV3 dc3 pm3 cd3 ct3 oc4 kV4 dc4 pm4 cd4 ct4 oc5 kV5 dc5 pm5 cd5 ct5 oc6 kV6 dc6 pm6 cd6 ct6 oc7 kV7 dc7 pm7 cd7 ct7 oc8 kV8 dc8 pm8 cd8 ct8 oc9 kV9 dc9 pm9 cd9 ct9 oc10 kV10 dc10 pm10 cd10 ct10 oc11 kV11 dc11 pm11 cd11 ct11 oc12 kV12 dc12 pm12 cd12 ct12 oc13 kV13 dc13 pm13 cd13 ct13 oc14 kV14 dc14 pm14 cd14 ct14 oc15 kV15 dc15 pm15 cd15 ct15 oc16 kV16 dc16 pm16 cd16 ct16 oc17 kV17 dc17 pm17 cd17 ct17 oc18 kV18 dc18 pm18 cd18 ct18 oc19 kV19 dc19 pm19 cd19 ct19 oc20 kV20 dc20 pm20 cd20 ct20 oc21 kV21 dc21 pm21 cd21 ct21 oc22 kV22 dc22 pm22 cd22 ct22 oc23 kV23 dc23 pm23 cd23 ct23 oc24 kV24 dc24 pm24 cd24 ct24 oc25 kV25 dc25 pm25 cd25 ct25 oc26 kV26 dc26 pm26 cd26 ct26 oc27 kV27 dc27 pm27 cd27 ct27 oc28 kV28 dc28 pm28 cd28 ct28 oc29 kV29 dc29 pm29 cd29 ct29 oc30 kV30 dc30 pm30 cd30 ct30 oc31 kV31 dc31 pm31 cd31 ct31 oc32 kV32 dc32 pm32 cd32 ct32:Value}
  {tk0 tk1 tk2 tk3 tk4 tk5 tk6 tk7 tk8 tk9 tk10 tk11 tk12 tk13 tk14 tk15 tk16 tk17 tk18 tk19 tk20 tk21 tk22 tk23 tk24 tk25 tk26 tk27 tk28 tk29 tk30 tk31 tk32:Tok}
  {gn1 gn2 gn3 gn4 gn5 gn6 gn7 gn8 gn9 gn10:Nat}
  (a1:PySem.W.nsIn K mainGlobals "is_word"=some (some (.ref f1)))
  (l1:K.lookup f1=some ⟨oc1,od1,.func (PySem.W.fnOf "is_word" "is_word" (zad zaG) (zab zaG) (zaa zaG) .none kV1 dc1 pm1 an1 cd1 ct1),sl1⟩) (c1:PySem.W.codeIn K cd1 "is_word"=true) (k1:PySem.W.keepIn K (.ref f1)=true)
  (a2:PySem.W.nsIn K mainGlobals "is_kind"=some (some (.ref f2)))
  (l2:K.lookup f2=some ⟨oc2,od2,.func (PySem.W.fnOf "is_kind" "is_kind" (zad zaQ) (zab zaQ) (zaa zaQ) .none kV2 dc2 pm2 an2 cd2 ct2),sl2⟩) (c2:PySem.W.codeIn K cd2 "is_kind"=true) (k2:PySem.W.keepIn K (.ref f2)=true)
  (a3:PySem.W.nsIn K mainGlobals "are_states"=some (some (.ref f3)))
  (l3:K.lookup f3=some ⟨oc3,od3,.func (PySem.W.fnOf "are_states" "are_states" (zad zau) (zab zau) (zaa zau) .none kV3 dc3 pm3 an3 cd3 ct3),sl3⟩) (c3:PySem.W.codeIn K cd3 "are_states"=true) (k3:PySem.W.keepIn K (.ref f3)=true)
  (a4:PySem.W.nsIn K mainGlobals "are_hands"=some (some (.ref f4)))
  (l4:K.lookup f4=some ⟨oc4,od4,.func (PySem.W.fnOf "are_hands" "are_hands" (zad zaA) (zab zaA) (zaa zaA) .none kV4 dc4 pm4 an4 cd4 ct4),sl4⟩) (c4:PySem.W.codeIn K cd4 "are_hands"=true) (k4:PySem.W.keepIn K (.ref f4)=true)
  (a5:PySem.W.nsIn K mainGlobals "states_of"=some (some (.ref f5)))
  (l5:K.lookup f5=some ⟨oc5,od5,.func (PySem.W.fnOf "states_of" "states_of" (zad zaC) (zab zaC) (zaa zaC) .none kV5 dc5 pm5 an5 cd5 ct5),sl5⟩) (c5:PySem.W.codeIn K cd5 "states_of"=true) (k5:PySem.W.keepIn K (.ref f5)=true)
  (a6:PySem.W.nsIn K mainGlobals "is_row"=some (some (.ref f6)))
  (l6:K.lookup f6=some ⟨oc6,od6,.func (PySem.W.fnOf "is_row" "is_row" (zad za1) (zab za1) (zaa za1) .none kV6 dc6 pm6 an6 cd6 ct6),sl6⟩) (c6:PySem.W.codeIn K cd6 "is_row"=true) (k6:PySem.W.keepIn K (.ref f6)=true)
  (a7:PySem.W.nsIn K mainGlobals "is_hand_row"=some (some (.ref f7)))
  (l7:K.lookup f7=some ⟨oc7,od7,.func (PySem.W.fnOf "is_hand_row" "is_hand_row" (zad zan) (zab zan) (zaa zan) .none kV7 dc7 pm7 an7 cd7 ct7),sl7⟩) (c7:PySem.W.codeIn K cd7 "is_hand_row"=true) (k7:PySem.W.keepIn K (.ref f7)=true)
  (a8:PySem.W.nsIn K mainGlobals "is_house_row"=some (some (.ref f8)))
  (l8:K.lookup f8=some ⟨oc8,od8,.func (PySem.W.fnOf "is_house_row" "is_house_row" (zad zak) (zab zak) (zaa zak) .none kV8 dc8 pm8 an8 cd8 ct8),sl8⟩) (c8:PySem.W.codeIn K cd8 "is_house_row"=true) (k8:PySem.W.keepIn K (.ref f8)=true)
  (a9:PySem.W.nsIn K mainGlobals "are_acts"=some (some (.ref f9)))
  (l9:K.lookup f9=some ⟨oc9,od9,.func (PySem.W.fnOf "are_acts" "are_acts" (zad zaM) (zab zaM) (zaa zaM) .none kV9 dc9 pm9 an9 cd9 ct9),sl9⟩) (c9:PySem.W.codeIn K cd9 "are_acts"=true) (k9:PySem.W.keepIn K (.ref f9)=true)
  (a10:PySem.W.nsIn K mainGlobals "is_act"=some (some (.ref f10)))
  (l10:K.lookup f10=some ⟨oc10,od10,.func (PySem.W.fnOf "is_act" "is_act" (zad za4) (zab za4) (zaa za4) .none kV10 dc10 pm10 an10 cd10 ct10),sl10⟩) (c10:PySem.W.codeIn K cd10 "is_act"=true) (k10:PySem.W.keepIn K (.ref f10)=true)
  (a11:PySem.W.nsIn K mainGlobals "place_of"=some (some (.ref f11)))
  (l11:K.lookup f11=some ⟨oc11,od11,.func (PySem.W.fnOf "place_of" "place_of" (zad zaL) (zab zaL) (zaa zaL) .none kV11 dc11 pm11 an11 cd11 ct11),sl11⟩) (c11:PySem.W.codeIn K cd11 "place_of"=true) (k11:PySem.W.keepIn K (.ref f11)=true)
  (a12:PySem.W.nsIn K mainGlobals "rival_places"=some (some (.ref f12)))
  (l12:K.lookup f12=some ⟨oc12,od12,.func (PySem.W.fnOf "rival_places" "rival_places" (zad zaj) (zab zaj) (zaa zaj) .none kV12 dc12 pm12 an12 cd12 ct12),sl12⟩) (c12:PySem.W.codeIn K cd12 "rival_places"=true) (k12:PySem.W.keepIn K (.ref f12)=true)
  (a13:PySem.W.nsIn K mainGlobals "table_text"=some (some (.ref f13)))
  (l13:K.lookup f13=some ⟨oc13,od13,.func (PySem.W.fnOf "table_text" "table_text" (zad zas) (zab zas) (zaa zas) .none kV13 dc13 pm13 an13 cd13 ct13),sl13⟩) (c13:PySem.W.codeIn K cd13 "table_text"=true) (k13:PySem.W.keepIn K (.ref f13)=true)
  (a14:PySem.W.nsIn K mainGlobals "row_text"=some (some (.ref f14)))
  (l14:K.lookup f14=some ⟨oc14,od14,.func (PySem.W.fnOf "row_text" "row_text" (zad zaI) (zab zaI) (zaa zaI) .none kV14 dc14 pm14 an14 cd14 ct14),sl14⟩) (c14:PySem.W.codeIn K cd14 "row_text"=true) (k14:PySem.W.keepIn K (.ref f14)=true)
  (a15:PySem.W.nsIn K mainGlobals "read_table"=some (some (.ref f15)))
  (l15:K.lookup f15=some ⟨oc15,od15,.func (PySem.W.fnOf "read_table" "read_table" (zad zat) (zab zat) (zaa zat) .none kV15 dc15 pm15 an15 cd15 ct15),sl15⟩) (c15:PySem.W.codeIn K cd15 "read_table"=true) (k15:PySem.W.keepIn K (.ref f15)=true)
  (a16:PySem.W.nsIn K mainGlobals "read_hands"=some (some (.ref f16)))
  (l16:K.lookup f16=some ⟨oc16,od16,.func (PySem.W.fnOf "read_hands" "read_hands" (zad zar) (zab zar) (zaa zar) .none kV16 dc16 pm16 an16 cd16 ct16),sl16⟩) (c16:PySem.W.codeIn K cd16 "read_hands"=true) (k16:PySem.W.keepIn K (.ref f16)=true)
  (a17:PySem.W.nsIn K mainGlobals "read_houses"=some (some (.ref f17)))
  (l17:K.lookup f17=some ⟨oc17,od17,.func (PySem.W.fnOf "read_houses" "read_houses" (zad zap) (zab zap) (zaa zap) .none kV17 dc17 pm17 an17 cd17 ct17),sl17⟩) (c17:PySem.W.codeIn K cd17 "read_houses"=true) (k17:PySem.W.keepIn K (.ref f17)=true)
  (a18:PySem.W.nsIn K mainGlobals "parts_behind"=some (some (.ref f18)))
  (l18:K.lookup f18=some ⟨oc18,od18,.func (PySem.W.fnOf "parts_behind" "parts_behind" (zad zal) (zab zal) (zaa zal) .none kV18 dc18 pm18 an18 cd18 ct18),sl18⟩) (c18:PySem.W.codeIn K cd18 "parts_behind"=true) (k18:PySem.W.keepIn K (.ref f18)=true)
  (a19:PySem.W.nsIn K mainGlobals "words_of"=some (some (.ref f19)))
  (l19:K.lookup f19=some ⟨oc19,od19,.func (PySem.W.fnOf "words_of" "words_of" (zad zaK) (zab zaK) (zaa zaK) .none kV19 dc19 pm19 an19 cd19 ct19),sl19⟩) (c19:PySem.W.codeIn K cd19 "words_of"=true) (k19:PySem.W.keepIn K (.ref f19)=true)
  (a20:PySem.W.nsIn K mainGlobals "read_rows"=some (some (.ref f20)))
  (l20:K.lookup f20=some ⟨oc20,od20,.func (PySem.W.fnOf "read_rows" "read_rows" (zad zaz) (zab zaz) (zaa zaz) .none kV20 dc20 pm20 an20 cd20 ct20),sl20⟩) (c20:PySem.W.codeIn K cd20 "read_rows"=true) (k20:PySem.W.keepIn K (.ref f20)=true)
  (a21:PySem.W.nsIn K mainGlobals "read_row"=some (some (.ref f21)))
  (l21:K.lookup f21=some ⟨oc21,od21,.func (PySem.W.fnOf "read_row" "read_row" (zad zaJ) (zab zaJ) (zaa zaJ) .none kV21 dc21 pm21 an21 cd21 ct21),sl21⟩) (c21:PySem.W.codeIn K cd21 "read_row"=true) (k21:PySem.W.keepIn K (.ref f21)=true)
  (a22:PySem.W.nsIn K mainGlobals "_law_draw"=some (some (.ref f22)))
  (l22:K.lookup f22=some ⟨oc22,od22,.func (PySem.W.fnOf "_law_draw" "_law_draw" (zad za5) (zab za5) (zaa za5) .none kV22 dc22 pm22 an22 cd22 ct22),sl22⟩) (c22:PySem.W.codeIn K cd22 "_law_draw"=true) (k22:PySem.W.keepIn K (.ref f22)=true)
  (a23:PySem.W.nsIn K mainGlobals "_law_next"=some (some (.ref f23)))
  (l23:K.lookup f23=some ⟨oc23,od23,.func (PySem.W.fnOf "_law_next" "_law_next" (zad za0) (zab za0) (zaa za0) .none kV23 dc23 pm23 an23 cd23 ct23),sl23⟩) (c23:PySem.W.codeIn K cd23 "_law_next"=true) (k23:PySem.W.keepIn K (.ref f23)=true)
  (a24:PySem.W.nsIn K mainGlobals "_law_cell_at"=some (some (.ref f24)))
  (l24:K.lookup f24=some ⟨oc24,od24,.func (PySem.W.fnOf "_law_cell_at" "_law_cell_at" (zad zaB) (zab zaB) (zaa zaB) .none kV24 dc24 pm24 an24 cd24 ct24),sl24⟩) (c24:PySem.W.codeIn K cd24 "_law_cell_at"=true) (k24:PySem.W.keepIn K (.ref f24)=true)
  (a25:PySem.W.nsIn K mainGlobals "_law_words"=some (some (.ref f25)))
  (l25:K.lookup f25=some ⟨oc25,od25,.func (PySem.W.fnOf "_law_words" "_law_words" (zad zaT) (zab zaT) (zaa zaT) .none kV25 dc25 pm25 an25 cd25 ct25),sl25⟩) (c25:PySem.W.codeIn K cd25 "_law_words"=true) (k25:PySem.W.keepIn K (.ref f25)=true)
  (a26:PySem.W.nsIn K mainGlobals "_law_acts"=some (some (.ref f26)))
  (l26:K.lookup f26=some ⟨oc26,od26,.func (PySem.W.fnOf "_law_acts" "_law_acts" (zad zaZ) (zab zaZ) (zaa zaZ) .none kV26 dc26 pm26 an26 cd26 ct26),sl26⟩) (c26:PySem.W.codeIn K cd26 "_law_acts"=true) (k26:PySem.W.keepIn K (.ref f26)=true)
  (a27:PySem.W.nsIn K mainGlobals "_law_row"=some (some (.ref f27)))
  (l27:K.lookup f27=some ⟨oc27,od27,.func (PySem.W.fnOf "_law_row" "_law_row" (zad zbe) (zab zbe) (zaa zbe) .none kV27 dc27 pm27 an27 cd27 ct27),sl27⟩) (c27:PySem.W.codeIn K cd27 "_law_row"=true) (k27:PySem.W.keepIn K (.ref f27)=true)
  (a28:PySem.W.nsIn K mainGlobals "_law_stands"=some (some (.ref f28)))
  (l28:K.lookup f28=some ⟨oc28,od28,.func (PySem.W.fnOf "_law_stands" "_law_stands" (zad zaH) (zab zaH) (zaa zaH) .none kV28 dc28 pm28 an28 cd28 ct28),sl28⟩) (c28:PySem.W.codeIn K cd28 "_law_stands"=true) (k28:PySem.W.keepIn K (.ref f28)=true)
  (a29:PySem.W.nsIn K mainGlobals "_law_table"=some (some (.ref f29)))
  (l29:K.lookup f29=some ⟨oc29,od29,.func (PySem.W.fnOf "_law_table" "_law_table" (zad zaR) (zab zaR) (zaa zaR) .none kV29 dc29 pm29 an29 cd29 ct29),sl29⟩) (c29:PySem.W.codeIn K cd29 "_law_table"=true) (k29:PySem.W.keepIn K (.ref f29)=true)
  (a30:PySem.W.nsIn K mainGlobals "_law_text"=some (some (.ref f30)))
  (l30:K.lookup f30=some ⟨oc30,od30,.func (PySem.W.fnOf "_law_text" "_law_text" (zad za2) (zab za2) (zaa za2) .none kV30 dc30 pm30 an30 cd30 ct30),sl30⟩) (c30:PySem.W.codeIn K cd30 "_law_text"=true) (k30:PySem.W.keepIn K (.ref f30)=true)
  (a31:PySem.W.nsIn K mainGlobals "_law_kinds"=some (some (.ref f31)))
  (l31:K.lookup f31=some ⟨oc31,od31,.func (PySem.W.fnOf "_law_kinds" "_law_kinds" (zad zaS) (zab zaS) (zaa zaS) .none kV31 dc31 pm31 an31 cd31 ct31),sl31⟩) (c31:PySem.W.codeIn K cd31 "_law_kinds"=true) (k31:PySem.W.keepIn K (.ref f31)=true)
  (a32:PySem.W.nsIn K mainGlobals "law"=some (some (.ref f32)))
  (l32:K.lookup f32=some ⟨oc32,od32,.func (PySem.W.fnOf "law" "law" (zad zb5) (zab zb5) (zaa zb5) .none kV32 dc32 pm32 an32 cd32 ct32),sl32⟩) (c32:PySem.W.codeIn K cd32 "law"=true) (k32:PySem.W.keepIn K (.ref f32)=true)
  (x0:PySem.W.nsIn K mainGlobals "ARROW"=some (some (.str (PySem.Str.ofString "->") tk0)))
  (y1:K.lookup ga0=some ⟨.type "tuple",none,.seq #[(.str (PySem.Str.ofString "read") tk1),(.str (PySem.Str.ofString "write") tk2),(.str (PySem.Str.ofString "drop") tk3)] gn1,gs1⟩)
  (x1:PySem.W.nsIn K mainGlobals "ASKS"=some (some (.ref ga0)))
  (x2:PySem.W.nsIn K mainGlobals "HANDS"=some (some (.str (PySem.Str.ofString "hands ") tk4)))
  (y2:K.lookup ga1=some ⟨.type "tuple",none,.seq #[(.str (PySem.Str.ofString "keep") tk5),(.str (PySem.Str.ofString "lose") tk6),(.str (PySem.Str.ofString "tell") tk7),(.str (PySem.Str.ofString "put") tk8)] gn2,gs2⟩)
  (x3:PySem.W.nsIn K mainGlobals "HAND_ACTS"=some (some (.ref ga1)))
  (y3:K.lookup ga2=some ⟨.type "tuple",none,.seq #[(.str (PySem.Str.ofString "send") tk9)] gn3,gs3⟩)
  (x4:PySem.W.nsIn K mainGlobals "HAND_SENDS"=some (some (.ref ga2)))
  (x5:PySem.W.nsIn K mainGlobals "HOUSES"=some (some (.str (PySem.Str.ofString "houses ") tk10)))
  (y4:K.lookup ga3=some ⟨.type "tuple",none,.seq #[(.str (PySem.Str.ofString "keep") tk11),(.str (PySem.Str.ofString "own") tk12),(.str (PySem.Str.ofString "share") tk13),(.str (PySem.Str.ofString "forget") tk14),(.str (PySem.Str.ofString "clear") tk15),(.str (PySem.Str.ofString "stay") tk16)] gn4,gs4⟩)
  (x6:PySem.W.nsIn K mainGlobals "HOUSE_ACTS"=some (some (.ref ga3)))
  (y5:K.lookup ga4=some ⟨.type "tuple",none,.seq #[(.str (PySem.Str.ofString "send") tk17),(.str (PySem.Str.ofString "owner") tk18),(.str (PySem.Str.ofString "others") tk19)] gn5,gs5⟩)
  (x7:PySem.W.nsIn K mainGlobals "HOUSE_SENDS"=some (some (.ref ga4)))
  (y6:K.lookup ga5=some ⟨.type "tuple",none,.seq #[(.str (PySem.Str.ofString "bare") tk20),(.str (PySem.Str.ofString "value") tk21)] gn6,gs6⟩)
  (x8:PySem.W.nsIn K mainGlobals "LOADS"=some (some (.ref ga5)))
  (x9:PySem.W.nsIn K mainGlobals "MOST_ACTS"=some (some (.int 6 tk22)))
  (x10:PySem.W.nsIn K mainGlobals "MOST_LETTERS"=some (some (.int 8 tk23)))
  (x11:PySem.W.nsIn K mainGlobals "MOST_STATES"=some (some (.int 8 tk24)))
  (y7:K.lookup ga6=some ⟨.type "tuple",none,.seq #[(.str (PySem.Str.ofString "none") tk25),(.str (PySem.Str.ofString "read") tk26),(.str (PySem.Str.ofString "write") tk27)] gn7,gs7⟩)
  (x12:PySem.W.nsIn K mainGlobals "RIGHTS"=some (some (.ref ga6)))
  (x13:PySem.W.nsIn K mainGlobals "SMALL_LETTERS"=some (some (.str (PySem.Str.ofString "abcdefghijklmnopqrstuvwxyz") tk28)))
  (y8:K.lookup ga7=some ⟨.type "tuple",none,.seq #[(.str (PySem.Str.ofString "wait") tk29)] gn8,gs8⟩)
  (y9:K.lookup ga8=some ⟨.type "tuple",none,.seq #[(.ref ga7)] gn9,gs9⟩)
  (x14:PySem.W.nsIn K mainGlobals "WAITS"=some (some (.ref ga8)))
  (y10:K.lookup ga9=some ⟨.type "tuple",none,.seq #[(.str (PySem.Str.ofString "any") tk30),(.str (PySem.Str.ofString "last") tk31),(.str (PySem.Str.ofString "more") tk32)] gn10,gs10⟩)
  (x15:PySem.W.nsIn K mainGlobals "WHENS"=some (some (.ref ga9)))
  (z1:PySem.W.nsIn K mainGlobals "len"=some none)
  (z2:PySem.W.nsIn K mainGlobals "sum"=some none)
  (z3:PySem.W.nsIn K mainGlobals "tuple"=some none)
  (z4:PySem.W.nsIn K mainGlobals "int"=some none)
  (z5:PySem.W.nsIn K mainGlobals "range"=some none)
  (z6:PySem.W.nsIn K mainGlobals "all"=some none)
  (z7:PySem.W.nsIn K mainGlobals "any"=some none)
  (z8:PySem.W.nsIn K mainGlobals "max"=some none)
  (z9:PySem.W.nsIn K mainGlobals "min"=some none)
  (z10:PySem.W.nsIn K mainGlobals "list"=some none)
  (z11:PySem.W.nsIn K mainGlobals "isinstance"=some none)
  (z12:PySem.W.nsIn K mainGlobals "str"=some none)
  (z13:PySem.W.nsIn K mainGlobals "bool"=some none)
  (z14:PySem.W.nsIn K mainGlobals "dict"=some none)
  (z15:PySem.W.nsIn K mainGlobals "enumerate"=some none)
  (z16:PySem.W.nsIn K mainGlobals "sorted"=some none)
  (z17:PySem.W.nsIn K mainGlobals "set"=some none)
  : ∃ fd:FuncData,(∀ (s:Shared) (v:Value),BindsTo s fd ⟨[v],[]⟩ [("_law_script",v)])/\∀ base:Heap,K.In base->base.Ns mainGlobals mg->FnOk l.prog w K mg base CX0 24 fa fd ["_law_script"] (spF K 1 (zaq P 12 31)):=by
 have e:=hfa.symm.trans (PySem.W.mg_of X G a32)
 cases e
 have F1:=zav (st:=zaG) l1 c1 k1
 have b1:∃ dvs,(∀ A H,RepDs K A H [] dvs)/\∀ j,j<=0->∃ ds,zaV K _ zda ds/\Vals (dvs.drop j) ds:=⟨[],λ_ _=>.nil,λj hj=>by
  obtain rfl:j=0:=by omega
  exact ⟨[],.all (fd:=PySem.W.fnOf "is_word" "is_word" (zad zaG) (zab zaG) (zaa zaG) .none kV1 dc1 pm1 an1 cd1 ct1) (us1 λ_=>rfl),.nil⟩⟩
 have d1:za8 K fns cls P globs gds 0 "is_word" "is_word" zaG f1 _ zei zda _:=⟨rfl,F1,ziF,rfl,rfl,b1,zjk⟩
 have F2:=zav (st:=zaQ) l2 c2 k2
 have b2:∃ dvs,(∀ A H,RepDs K A H [] dvs)/\∀ j,j<=0->∃ ds,zaV K _ zc8 ds/\Vals (dvs.drop j) ds:=⟨[],λ_ _=>.nil,λj hj=>by
  obtain rfl:j=0:=by omega
  exact ⟨[],.all (fd:=PySem.W.fnOf "is_kind" "is_kind" (zad zaQ) (zab zaQ) (zaa zaQ) .none kV2 dc2 pm2 an2 cd2 ct2) (us1 λ_=>rfl),.nil⟩⟩
 have d2:za8 K fns cls P globs gds 1 "is_kind" "is_kind" zaQ f2 _ zd2 zc8 _:=⟨rfl,F2,zjx,rfl,rfl,b2,zjw⟩
 have F3:=zav (st:=zau) l3 c3 k3
 have b3:∃ dvs,(∀ A H,RepDs K A H [] dvs)/\∀ j,j<=0->∃ ds,zaV K _ zbu ds/\Vals (dvs.drop j) ds:=⟨[],λ_ _=>.nil,λj hj=>by
  obtain rfl:j=0:=by omega
  exact ⟨[],.all (fd:=PySem.W.fnOf "are_states" "are_states" (zad zau) (zab zau) (zaa zau) .none kV3 dc3 pm3 an3 cd3 ct3) (us1 λ_=>rfl),.nil⟩⟩
 have d3:za8 K fns cls P globs gds 2 "are_states" "are_states" zau f3 _ zb6 zbu _:=⟨rfl,F3,zfS,rfl,rfl,b3,zf9⟩
 have F4:=zav (st:=zaA) l4 c4 k4
 have b4:∃ dvs,(∀ A H,RepDs K A H [] dvs)/\∀ j,j<=0->∃ ds,zaV K _ zb2 ds/\Vals (dvs.drop j) ds:=⟨[],λ_ _=>.nil,λj hj=>by
  obtain rfl:j=0:=by omega
  exact ⟨[],.all (fd:=PySem.W.fnOf "are_hands" "are_hands" (zad zaA) (zab zaA) (zaa zaA) .none kV4 dc4 pm4 an4 cd4 ct4) (us1 λ_=>rfl),.nil⟩⟩
 have d4:za8 K fns cls P globs gds 3 "are_hands" "are_hands" zaA f4 _ zcM zb2 _:=⟨rfl,F4,zg1,rfl,rfl,b4,zgT⟩
 have F5:=zav (st:=zaC) l5 c5 k5
 have b5:∃ dvs,(∀ A H,RepDs K A H [] dvs)/\∀ j,j<=0->∃ ds,zaV K _ zbP ds/\Vals (dvs.drop j) ds:=⟨[],λ_ _=>.nil,λj hj=>by
  obtain rfl:j=0:=by omega
  exact ⟨[],.all (fd:=PySem.W.fnOf "states_of" "states_of" (zad zaC) (zab zaC) (zaa zaC) .none kV5 dc5 pm5 an5 cd5 ct5) (us1 λ_=>rfl),.nil⟩⟩
 have d5:za8 K fns cls P globs gds 4 "states_of" "states_of" zaC f5 _ zcE zbP _:=⟨rfl,F5,zhc,rfl,rfl,b5,zha⟩
 have F6:=zav (st:=za1) l6 c6 k6
 have b6:∃ dvs,(∀ A H,RepDs K A H [] dvs)/\∀ j,j<=0->∃ ds,zaV K _ zdL ds/\Vals (dvs.drop j) ds:=⟨[],λ_ _=>.nil,λj hj=>by
  obtain rfl:j=0:=by omega
  exact ⟨[],.all (fd:=PySem.W.fnOf "is_row" "is_row" (zad za1) (zab za1) (zaa za1) .none kV6 dc6 pm6 an6 cd6 ct6) (us3 λ_ _ _=>rfl),.nil⟩⟩
 have d6:za8 K fns cls P globs gds 5 "is_row" "is_row" za1 f6 _ zeV zdL _:=⟨rfl,F6,zlP,rfl,rfl,b6,zla⟩
 have F7:=zav (st:=zan) l7 c7 k7
 have b7:∃ dvs,(∀ A H,RepDs K A H [] dvs)/\∀ j,j<=0->∃ ds,zaV K _ zbq ds/\Vals (dvs.drop j) ds:=⟨[],λ_ _=>.nil,λj hj=>by
  obtain rfl:j=0:=by omega
  exact ⟨[],.all (fd:=PySem.W.fnOf "is_hand_row" "is_hand_row" (zad zan) (zab zan) (zaa zan) .none kV7 dc7 pm7 an7 cd7 ct7) (us2 λ_ _=>rfl),.nil⟩⟩
 have d7:za8 K fns cls P globs gds 6 "is_hand_row" "is_hand_row" zan f7 _ zbZ zbq _:=⟨rfl,F7,ze8,rfl,rfl,b7,zfm⟩
 have F8:=zav (st:=zak) l8 c8 k8
 have b8:∃ dvs,(∀ A H,RepDs K A H [] dvs)/\∀ j,j<=0->∃ ds,zaV K _ zbi ds/\Vals (dvs.drop j) ds:=⟨[],λ_ _=>.nil,λj hj=>by
  obtain rfl:j=0:=by omega
  exact ⟨[],.all (fd:=PySem.W.fnOf "is_house_row" "is_house_row" (zad zak) (zab zak) (zaa zak) .none kV8 dc8 pm8 an8 cd8 ct8) (us2 λ_ _=>rfl),.nil⟩⟩
 have d8:za8 K fns cls P globs gds 7 "is_house_row" "is_house_row" zak f8 _ zbA zbi _:=⟨rfl,F8,zez,rfl,rfl,b8,zeG⟩
 have F9:=zav (st:=zaM) l9 c9 k9
 have b9:∃ dvs,(∀ A H,RepDs K A H [] dvs)/\∀ j,j<=0->∃ ds,zaV K _ zcr ds/\Vals (dvs.drop j) ds:=⟨[],λ_ _=>.nil,λj hj=>by
  obtain rfl:j=0:=by omega
  exact ⟨[],.all (fd:=PySem.W.fnOf "are_acts" "are_acts" (zad zaM) (zab zaM) (zaa zaM) .none kV9 dc9 pm9 an9 cd9 ct9) (us3 λ_ _ _=>rfl),.nil⟩⟩
 have d9:za8 K fns cls P globs gds 8 "are_acts" "are_acts" zaM f9 _ zdw zcr _:=⟨rfl,F9,zhT,rfl,rfl,b9,zh8⟩
 have F10:=zav (st:=za4) l10 c10 k10
 have b10:∃ dvs,(∀ A H,RepDs K A H [] dvs)/\∀ j,j<=0->∃ ds,zaV K _ zdS ds/\Vals (dvs.drop j) ds:=⟨[],λ_ _=>.nil,λj hj=>by
  obtain rfl:j=0:=by omega
  exact ⟨[],.all (fd:=PySem.W.fnOf "is_act" "is_act" (zad za4) (zab za4) (zaa za4) .none kV10 dc10 pm10 an10 cd10 ct10) (us3 λ_ _ _=>rfl),.nil⟩⟩
 have d10:za8 K fns cls P globs gds 9 "is_act" "is_act" za4 f10 _ ze4 zdS _:=⟨rfl,F10,zlG,rfl,rfl,b10,zlR⟩
 have F11:=zav (st:=zaL) l11 c11 k11
 have b11:∃ dvs,(∀ A H,RepDs K A H [] dvs)/\∀ j,j<=0->∃ ds,zaV K _ zcv ds/\Vals (dvs.drop j) ds:=⟨[],λ_ _=>.nil,λj hj=>by
  obtain rfl:j=0:=by omega
  exact ⟨[],.all (fd:=PySem.W.fnOf "place_of" "place_of" (zad zaL) (zab zaL) (zaa zaL) .none kV11 dc11 pm11 an11 cd11 ct11) (us1 λ_=>rfl),.nil⟩⟩
 have d11:za8 K fns cls P globs gds 10 "place_of" "place_of" zaL f11 _ zdq zcv _:=⟨rfl,F11,zhS,rfl,rfl,b11,zh5⟩
 have F12:=zav (st:=zaj) l12 c12 k12
 have b12:∃ dvs,(∀ A H,RepDs K A H [] dvs)/\∀ j,j<=0->∃ ds,zaV K _ zbf ds/\Vals (dvs.drop j) ds:=⟨[],λ_ _=>.nil,λj hj=>by
  obtain rfl:j=0:=by omega
  exact ⟨[],.all (fd:=PySem.W.fnOf "rival_places" "rival_places" (zad zaj) (zab zaj) (zaa zaj) .none kV12 dc12 pm12 an12 cd12 ct12) (us1 λ_=>rfl),.nil⟩⟩
 have d12:za8 K fns cls P globs gds 11 "rival_places" "rival_places" zaj f12 _ zbD zbf _:=⟨rfl,F12,zeu,rfl,rfl,b12,zew⟩
 have F13:=zav (st:=zas) l13 c13 k13
 have b13:∃ dvs,(∀ A H,RepDs K A H [] dvs)/\∀ j,j<=0->∃ ds,zaV K _ zbx ds/\Vals (dvs.drop j) ds:=⟨[],λ_ _=>.nil,λj hj=>by
  obtain rfl:j=0:=by omega
  exact ⟨[],.all (fd:=PySem.W.fnOf "table_text" "table_text" (zad zas) (zab zas) (zaa zas) .none kV13 dc13 pm13 an13 cd13 ct13) (us1 λ_=>rfl),.nil⟩⟩
 have d13:za8 K fns cls P globs gds 12 "table_text" "table_text" zas f13 _ zcg zbx _:=⟨rfl,F13,zfN,rfl,rfl,b13,zgC⟩
 have F14:=zav (st:=zaI) l14 c14 k14
 have b14:∃ dvs,(∀ A H,RepDs K A H [] dvs)/\∀ j,j<=0->∃ ds,zaV K _ zco ds/\Vals (dvs.drop j) ds:=⟨[],λ_ _=>.nil,λj hj=>by
  obtain rfl:j=0:=by omega
  exact ⟨[],.all (fd:=PySem.W.fnOf "row_text" "row_text" (zad zaI) (zab zaI) (zaa zaI) .none kV14 dc14 pm14 an14 cd14 ct14) (us1 λ_=>rfl),.nil⟩⟩
 have d14:za8 K fns cls P globs gds 13 "row_text" "row_text" zaI f14 _ zdf zco _:=⟨rfl,F14,zhV,rfl,rfl,b14,zik⟩
 have F15:=zav (st:=zat) l15 c15 k15
 have b15:∃ dvs,(∀ A H,RepDs K A H [] dvs)/\∀ j,j<=0->∃ ds,zaV K _ zbv ds/\Vals (dvs.drop j) ds:=⟨[],λ_ _=>.nil,λj hj=>by
  obtain rfl:j=0:=by omega
  exact ⟨[],.all (fd:=PySem.W.fnOf "read_table" "read_table" (zad zat) (zab zat) (zaa zat) .none kV15 dc15 pm15 an15 cd15 ct15) (us1 λ_=>rfl),.nil⟩⟩
 have d15:za8 K fns cls P globs gds 14 "read_table" "read_table" zat f15 _ zca zbv _:=⟨rfl,F15,zgd,rfl,rfl,b15,zgD⟩
 have F16:=zav (st:=zar) l16 c16 k16
 have b16:∃ dvs,(∀ A H,RepDs K A H [] dvs)/\∀ j,j<=0->∃ ds,zaV K _ zbw ds/\Vals (dvs.drop j) ds:=⟨[],λ_ _=>.nil,λj hj=>by
  obtain rfl:j=0:=by omega
  exact ⟨[],.all (fd:=PySem.W.fnOf "read_hands" "read_hands" (zad zar) (zab zar) (zaa zar) .none kV16 dc16 pm16 an16 cd16 ct16) (us1 λ_=>rfl),.nil⟩⟩
 have d16:za8 K fns cls P globs gds 15 "read_hands" "read_hands" zar f16 _ zb4 zbw _:=⟨rfl,F16,zgz,rfl,rfl,b16,zgH⟩
 have F17:=zav (st:=zap) l17 c17 k17
 have b17:∃ dvs,(∀ A H,RepDs K A H [] dvs)/\∀ j,j<=0->∃ ds,zaV K _ zbm ds/\Vals (dvs.drop j) ds:=⟨[],λ_ _=>.nil,λj hj=>by
  obtain rfl:j=0:=by omega
  exact ⟨[],.all (fd:=PySem.W.fnOf "read_houses" "read_houses" (zad zap) (zab zap) (zaa zap) .none kV17 dc17 pm17 an17 cd17 ct17) (us1 λ_=>rfl),.nil⟩⟩
 have d17:za8 K fns cls P globs gds 16 "read_houses" "read_houses" zap f17 _ zbX zbm _:=⟨rfl,F17,ze3,rfl,rfl,b17,zfw⟩
 have F18:=zav (st:=zal) l18 c18 k18
 have b18:∃ dvs,(∀ A H,RepDs K A H [] dvs)/\∀ j,j<=0->∃ ds,zaV K _ zbg ds/\Vals (dvs.drop j) ds:=⟨[],λ_ _=>.nil,λj hj=>by
  obtain rfl:j=0:=by omega
  exact ⟨[],.all (fd:=PySem.W.fnOf "parts_behind" "parts_behind" (zad zal) (zab zal) (zaa zal) .none kV18 dc18 pm18 an18 cd18 ct18) (us2 λ_ _=>rfl),.nil⟩⟩
 have d18:za8 K fns cls P globs gds 17 "parts_behind" "parts_behind" zal f18 _ zbB zbg _:=⟨rfl,F18,zeF,rfl,rfl,b18,zex⟩
 have F19:=zav (st:=zaK) l19 c19 k19
 have b19:∃ dvs,(∀ A H,RepDs K A H [] dvs)/\∀ j,j<=0->∃ ds,zaV K _ zcs ds/\Vals (dvs.drop j) ds:=⟨[],λ_ _=>.nil,λj hj=>by
  obtain rfl:j=0:=by omega
  exact ⟨[],.all (fd:=PySem.W.fnOf "words_of" "words_of" (zad zaK) (zab zaK) (zaa zaK) .none kV19 dc19 pm19 an19 cd19 ct19) (us1 λ_=>rfl),.nil⟩⟩
 have d19:za8 K fns cls P globs gds 18 "words_of" "words_of" zaK f19 _ zdy zcs _:=⟨rfl,F19,zib,rfl,rfl,b19,zie⟩
 have F20:=zav (st:=zaz) l20 c20 k20
 have b20:∃ dvs,(∀ A H,RepDs K A H [] dvs)/\∀ j,j<=0->∃ ds,zaV K _ zbS ds/\Vals (dvs.drop j) ds:=⟨[],λ_ _=>.nil,λj hj=>by
  obtain rfl:j=0:=by omega
  exact ⟨[],.all (fd:=PySem.W.fnOf "read_rows" "read_rows" (zad zaz) (zab zaz) (zaa zaz) .none kV20 dc20 pm20 an20 cd20 ct20) (us3 λ_ _ _=>rfl),.nil⟩⟩
 have d20:za8 K fns cls P globs gds 19 "read_rows" "read_rows" zaz f20 _ zcB zbS _:=⟨rfl,F20,zg7,rfl,rfl,b20,zgV⟩
 have F21:=zav (st:=zaJ) l21 c21 k21
 have b21:∃ dvs,(∀ A H,RepDs K A H [] dvs)/\∀ j,j<=0->∃ ds,zaV K _ zct ds/\Vals (dvs.drop j) ds:=⟨[],λ_ _=>.nil,λj hj=>by
  obtain rfl:j=0:=by omega
  exact ⟨[],.all (fd:=PySem.W.fnOf "read_row" "read_row" (zad zaJ) (zab zaJ) (zaa zaJ) .none kV21 dc21 pm21 an21 cd21 ct21) (us1 λ_=>rfl),.nil⟩⟩
 have d21:za8 K fns cls P globs gds 20 "read_row" "read_row" zaJ f21 _ zdl zct _:=⟨rfl,F21,ziq,rfl,rfl,b21,zis⟩
 have F22:=zav (st:=za5) l22 c22 k22
 have b22:∃ dvs,(∀ A H,RepDs K A H [] dvs)/\∀ j,j<=0->∃ ds,zaV K _ zdT ds/\Vals (dvs.drop j) ds:=⟨[],λ_ _=>.nil,λj hj=>by
  obtain rfl:j=0:=by omega
  exact ⟨[],.all (fd:=PySem.W.fnOf "_law_draw" "_law_draw" (zad za5) (zab za5) (zaa za5) .none kV22 dc22 pm22 an22 cd22 ct22) (us1 λ_=>rfl),.nil⟩⟩
 have d22:za8 K fns cls P globs gds 21 "_law_draw" "_law_draw" za5 f22 _ zeX zdT _:=⟨rfl,F22,zlV,rfl,rfl,b22,zlz⟩
 have F23:=zav (st:=za0) l23 c23 k23
 have b23:∃ dvs,(∀ A H,RepDs K A H [] dvs)/\∀ j,j<=0->∃ ds,zaV K _ zdM ds/\Vals (dvs.drop j) ds:=⟨[],λ_ _=>.nil,λj hj=>by
  obtain rfl:j=0:=by omega
  exact ⟨[],.all (fd:=PySem.W.fnOf "_law_next" "_law_next" (zad za0) (zab za0) (zaa za0) .none kV23 dc23 pm23 an23 cd23 ct23) (us2 λ_ _=>rfl),.nil⟩⟩
 have d23:za8 K fns cls P globs gds 22 "_law_next" "_law_next" za0 f23 _ ze2 zdM _:=⟨rfl,F23,zkL,rfl,rfl,b23,zlA⟩
 have F24:=zav (st:=zaB) l24 c24 k24
 have b24:∃ dvs,(∀ A H,RepDs K A H [] dvs)/\∀ j,j<=0->∃ ds,zaV K _ zbR ds/\Vals (dvs.drop j) ds:=⟨[],λ_ _=>.nil,λj hj=>by
  obtain rfl:j=0:=by omega
  exact ⟨[],.all (fd:=PySem.W.fnOf "_law_cell_at" "_law_cell_at" (zad zaB) (zab zaB) (zaa zaB) .none kV24 dc24 pm24 an24 cd24 ct24) (us2 λ_ _=>rfl),.nil⟩⟩
 have d24:za8 K fns cls P globs gds 23 "_law_cell_at" "_law_cell_at" zaB f24 _ zcC zbR _:=⟨rfl,F24,zg4,rfl,rfl,b24,zg8⟩
 have F25:=zav (st:=zaT) l25 c25 k25
 have b25:∃ dvs,(∀ A H,RepDs K A H [] dvs)/\∀ j,j<=0->∃ ds,zaV K _ zde ds/\Vals (dvs.drop j) ds:=⟨[],λ_ _=>.nil,λj hj=>by
  obtain rfl:j=0:=by omega
  exact ⟨[],.all (fd:=PySem.W.fnOf "_law_words" "_law_words" (zad zaT) (zab zaT) (zaa zaT) .none kV25 dc25 pm25 an25 cd25 ct25) (us3 λ_ _ _=>rfl),.nil⟩⟩
 have d25:za8 K fns cls P globs gds 24 "_law_words" "_law_words" zaT f25 _ zeq zde _:=⟨rfl,F25,zjp,rfl,rfl,b25,zjc⟩
 have F26:=zav (st:=zaZ) l26 c26 k26
 have b26:∃ dvs,(∀ A H,RepDs K A H [] dvs)/\∀ j,j<=0->∃ ds,zaV K _ zdR ds/\Vals (dvs.drop j) ds:=⟨[],λ_ _=>.nil,λj hj=>by
  obtain rfl:j=0:=by omega
  exact ⟨[],.all (fd:=PySem.W.fnOf "_law_acts" "_law_acts" (zad zaZ) (zab zaZ) (zaa zaZ) .none kV26 dc26 pm26 an26 cd26 ct26) (us4 λ_ _ _ _=>rfl),.nil⟩⟩
 have d26:za8 K fns cls P globs gds 25 "_law_acts" "_law_acts" zaZ f26 _ zfE zdR _:=⟨rfl,F26,zkR,rfl,rfl,b26,zlM⟩
 have F27:=zav (st:=zbe) l27 c27 k27
 have b27:∃ dvs,(∀ A H,RepDs K A H [] dvs)/\∀ j,j<=0->∃ ds,zaV K _ ze9 ds/\Vals (dvs.drop j) ds:=⟨[],λ_ _=>.nil,λj hj=>by
  obtain rfl:j=0:=by omega
  exact ⟨[],.all (fd:=PySem.W.fnOf "_law_row" "_law_row" (zad zbe) (zab zbe) (zaa zbe) .none kV27 dc27 pm27 an27 cd27 ct27) (us4 λ_ _ _ _=>rfl),.nil⟩⟩
 have d27:za8 K fns cls P globs gds 26 "_law_row" "_law_row" zbe f27 _ zg5 ze9 _:=⟨rfl,F27,znu,rfl,rfl,b27,zm1⟩
 have F28:=zav (st:=zaH) l28 c28 k28
 have b28:∃ dvs,(∀ A H,RepDs K A H [] dvs)/\∀ j,j<=0->∃ ds,zaV K _ zcu ds/\Vals (dvs.drop j) ds:=⟨[],λ_ _=>.nil,λj hj=>by
  obtain rfl:j=0:=by omega
  exact ⟨[],.all (fd:=PySem.W.fnOf "_law_stands" "_law_stands" (zad zaH) (zab zaH) (zaa zaH) .none kV28 dc28 pm28 an28 cd28 ct28) (us2 λ_ _=>rfl),.nil⟩⟩
 have d28:za8 K fns cls P globs gds 27 "_law_stands" "_law_stands" zaH f28 _ zdA zcu _:=⟨rfl,F28,ziu,rfl,rfl,b28,zia⟩
 have F29:=zav (st:=zaR) l29 c29 k29
 have b29:∃ dvs,(∀ A H,RepDs K A H [] dvs)/\∀ j,j<=0->∃ ds,zaV K _ zcV ds/\Vals (dvs.drop j) ds:=⟨[],λ_ _=>.nil,λj hj=>by
  obtain rfl:j=0:=by omega
  exact ⟨[],.all (fd:=PySem.W.fnOf "_law_table" "_law_table" (zad zaR) (zab zaR) (zaa zaR) .none kV29 dc29 pm29 an29 cd29 ct29) (us1 λ_=>rfl),.nil⟩⟩
 have d29:za8 K fns cls P globs gds 28 "_law_table" "_law_table" zaR f29 _ zek zcV _:=⟨rfl,F29,zjM,rfl,rfl,b29,zjS⟩
 have F30:=zav (st:=za2) l30 c30 k30
 have b30:∃ dvs,(∀ A H,RepDs K A H [] dvs)/\∀ j,j<=0->∃ ds,zaV K _ zdJ ds/\Vals (dvs.drop j) ds:=⟨[],λ_ _=>.nil,λj hj=>by
  obtain rfl:j=0:=by omega
  exact ⟨[],.all (fd:=PySem.W.fnOf "_law_text" "_law_text" (zad za2) (zab za2) (zaa za2) .none kV30 dc30 pm30 an30 cd30 ct30) (us1 λ_=>rfl),.nil⟩⟩
 have d30:za8 K fns cls P globs gds 29 "_law_text" "_law_text" za2 f30 _ zfu zdJ _:=⟨rfl,F30,zkS,rfl,rfl,b30,zlo⟩
 have F31:=zav (st:=zaS) l31 c31 k31
 have b31:∃ dvs,(∀ A H,RepDs K A H [] dvs)/\∀ j,j<=0->∃ ds,zaV K _ zc6 ds/\Vals (dvs.drop j) ds:=⟨[],λ_ _=>.nil,λj hj=>by
  obtain rfl:j=0:=by omega
  exact ⟨[],.all (fd:=PySem.W.fnOf "_law_kinds" "_law_kinds" (zad zaS) (zab zaS) (zaa zaS) .none kV31 dc31 pm31 an31 cd31 ct31) (us1 λ_=>rfl),.nil⟩⟩
 have d31:za8 K fns cls P globs gds 30 "_law_kinds" "_law_kinds" zaS f31 _ zeg zc6 _:=⟨rfl,F31,zj7,rfl,rfl,b31,zkb⟩
 have F32:=zav (st:=zb5) l32 c32 k32
 have b32:∃ dvs,(∀ A H,RepDs K A H [] dvs)/\∀ j,j<=0->∃ ds,zaV K _ zkK ds/\Vals (dvs.drop j) ds:=⟨[],λ_ _=>.nil,λj hj=>by
  obtain rfl:j=0:=by omega
  exact ⟨[],.all (fd:=PySem.W.fnOf "law" "law" (zad zb5) (zab zb5) (zaa zb5) .none kV32 dc32 pm32 an32 cd32 ct32) (us1 λ_=>rfl),.nil⟩⟩
 have d32:za8 K fns cls P globs gds 31 "law" "law" zb5 fa _ zm7 zkK _:=⟨rfl,F32,zrV,rfl,rfl,b32,zru⟩
 have blt:∀ x∈zc2,mg x=none:=by
  intro x hx
  simp only [zc2,List.mem_cons,List.not_mem_nil,or_false] at hx
  rcases hx with rfl | rfl | rfl | rfl | rfl | rfl | rfl | rfl | rfl | rfl | rfl | rfl | rfl | rfl | rfl | rfl | rfl
  ·exact PySem.W.mg_none_of X G z1
  ·exact PySem.W.mg_none_of X G z2
  ·exact PySem.W.mg_none_of X G z3
  ·exact PySem.W.mg_none_of X G z4
  ·exact PySem.W.mg_none_of X G z5
  ·exact PySem.W.mg_none_of X G z6
  ·exact PySem.W.mg_none_of X G z7
  ·exact PySem.W.mg_none_of X G z8
  ·exact PySem.W.mg_none_of X G z9
  ·exact PySem.W.mg_none_of X G z10
  ·exact PySem.W.mg_none_of X G z11
  ·exact PySem.W.mg_none_of X G z12
  ·exact PySem.W.mg_none_of X G z13
  ·exact PySem.W.mg_none_of X G z14
  ·exact PySem.W.mg_none_of X G z15
  ·exact PySem.W.mg_none_of X G z16
  ·exact PySem.W.mg_none_of X G z17
 have gl:∀ (x:Str) (d:D),globs.lookup x=some d->∃ u v,mg x=some u/\RelV v u/\∀ A H,RepD K A H d v:=by
  intro x d e
  unfold globs at e
  rw [List.lookup_cons] at e
  split at e
  ·rename_i hx
   have hx:=eq_of_beq hx
   subst hx
   cases e
   exact ⟨_,(V.str (PySem.Str.ofString "->")),PySem.W.mg_of X G x0,⟨_,rfl⟩,λA H=>by simp only [RepD];rfl⟩
  rw [List.lookup_cons] at e
  split at e
  ·rename_i hx
   have hx:=eq_of_beq hx
   subst hx
   cases e
   exact ⟨_,(V.ref ga0),PySem.W.mg_of X G x1,rfl,λA H=>by simp only [RepD];exact ⟨ga0,[(V.str (PySem.Str.ofString "read")),(V.str (PySem.Str.ofString "write")),(V.str (PySem.Str.ofString "drop"))],rfl,.inr ⟨_,_,_,y1,rfl,rfl,rfl,by show 3<=sizeLine;decide,(.cons ⟨_,rfl⟩ (.cons ⟨_,rfl⟩ (.cons ⟨_,rfl⟩ .nil)))⟩,(.cons (by simp only [RepD];rfl) (.cons (by simp only [RepD];rfl) (.cons (by simp only [RepD];rfl) .nil)))⟩⟩
  rw [List.lookup_cons] at e
  split at e
  ·rename_i hx
   have hx:=eq_of_beq hx
   subst hx
   cases e
   exact ⟨_,(V.str (PySem.Str.ofString "hands ")),PySem.W.mg_of X G x2,⟨_,rfl⟩,λA H=>by simp only [RepD];rfl⟩
  rw [List.lookup_cons] at e
  split at e
  ·rename_i hx
   have hx:=eq_of_beq hx
   subst hx
   cases e
   exact ⟨_,(V.ref ga1),PySem.W.mg_of X G x3,rfl,λA H=>by simp only [RepD];exact ⟨ga1,[(V.str (PySem.Str.ofString "keep")),(V.str (PySem.Str.ofString "lose")),(V.str (PySem.Str.ofString "tell")),(V.str (PySem.Str.ofString "put"))],rfl,.inr ⟨_,_,_,y2,rfl,rfl,rfl,by show 4<=sizeLine;decide,(.cons ⟨_,rfl⟩ (.cons ⟨_,rfl⟩ (.cons ⟨_,rfl⟩ (.cons ⟨_,rfl⟩ .nil))))⟩,(.cons (by simp only [RepD];rfl) (.cons (by simp only [RepD];rfl) (.cons (by simp only [RepD];rfl) (.cons (by simp only [RepD];rfl) .nil))))⟩⟩
  rw [List.lookup_cons] at e
  split at e
  ·rename_i hx
   have hx:=eq_of_beq hx
   subst hx
   cases e
   exact ⟨_,(V.ref ga2),PySem.W.mg_of X G x4,rfl,λA H=>by simp only [RepD];exact ⟨ga2,[(V.str (PySem.Str.ofString "send"))],rfl,.inr ⟨_,_,_,y3,rfl,rfl,rfl,by show 1<=sizeLine;decide,(.cons ⟨_,rfl⟩ .nil)⟩,(.cons (by simp only [RepD];rfl) .nil)⟩⟩
  rw [List.lookup_cons] at e
  split at e
  ·rename_i hx
   have hx:=eq_of_beq hx
   subst hx
   cases e
   exact ⟨_,(V.str (PySem.Str.ofString "houses ")),PySem.W.mg_of X G x5,⟨_,rfl⟩,λA H=>by simp only [RepD];rfl⟩
  rw [List.lookup_cons] at e
  split at e
  ·rename_i hx
   have hx:=eq_of_beq hx
   subst hx
   cases e
   exact ⟨_,(V.ref ga3),PySem.W.mg_of X G x6,rfl,λA H=>by simp only [RepD];exact ⟨ga3,[(V.str (PySem.Str.ofString "keep")),(V.str (PySem.Str.ofString "own")),(V.str (PySem.Str.ofString "share")),(V.str (PySem.Str.ofString "forget")),(V.str (PySem.Str.ofString "clear")),(V.str (PySem.Str.ofString "stay"))],rfl,.inr ⟨_,_,_,y4,rfl,rfl,rfl,by show 6<=sizeLine;decide,(.cons ⟨_,rfl⟩ (.cons ⟨_,rfl⟩ (.cons ⟨_,rfl⟩ (.cons ⟨_,rfl⟩ (.cons ⟨_,rfl⟩ (.cons ⟨_,rfl⟩ .nil))))))⟩,(.cons (by simp only [RepD];rfl) (.cons (by simp only [RepD];rfl) (.cons (by simp only [RepD];rfl) (.cons (by simp only [RepD];rfl) (.cons (by simp only [RepD];rfl) (.cons (by simp only [RepD];rfl) .nil))))))⟩⟩
  rw [List.lookup_cons] at e
  split at e
  ·rename_i hx
   have hx:=eq_of_beq hx
   subst hx
   cases e
   exact ⟨_,(V.ref ga4),PySem.W.mg_of X G x7,rfl,λA H=>by simp only [RepD];exact ⟨ga4,[(V.str (PySem.Str.ofString "send")),(V.str (PySem.Str.ofString "owner")),(V.str (PySem.Str.ofString "others"))],rfl,.inr ⟨_,_,_,y5,rfl,rfl,rfl,by show 3<=sizeLine;decide,(.cons ⟨_,rfl⟩ (.cons ⟨_,rfl⟩ (.cons ⟨_,rfl⟩ .nil)))⟩,(.cons (by simp only [RepD];rfl) (.cons (by simp only [RepD];rfl) (.cons (by simp only [RepD];rfl) .nil)))⟩⟩
  rw [List.lookup_cons] at e
  split at e
  ·rename_i hx
   have hx:=eq_of_beq hx
   subst hx
   cases e
   exact ⟨_,(V.ref ga5),PySem.W.mg_of X G x8,rfl,λA H=>by simp only [RepD];exact ⟨ga5,[(V.str (PySem.Str.ofString "bare")),(V.str (PySem.Str.ofString "value"))],rfl,.inr ⟨_,_,_,y6,rfl,rfl,rfl,by show 2<=sizeLine;decide,(.cons ⟨_,rfl⟩ (.cons ⟨_,rfl⟩ .nil))⟩,(.cons (by simp only [RepD];rfl) (.cons (by simp only [RepD];rfl) .nil))⟩⟩
  rw [List.lookup_cons] at e
  split at e
  ·rename_i hx
   have hx:=eq_of_beq hx
   subst hx
   cases e
   exact ⟨_,(V.int 6),PySem.W.mg_of X G x9,⟨_,rfl⟩,λA H=>by simp only [RepD]⟩
  rw [List.lookup_cons] at e
  split at e
  ·rename_i hx
   have hx:=eq_of_beq hx
   subst hx
   cases e
   exact ⟨_,(V.int 8),PySem.W.mg_of X G x10,⟨_,rfl⟩,λA H=>by simp only [RepD]⟩
  rw [List.lookup_cons] at e
  split at e
  ·rename_i hx
   have hx:=eq_of_beq hx
   subst hx
   cases e
   exact ⟨_,(V.int 8),PySem.W.mg_of X G x11,⟨_,rfl⟩,λA H=>by simp only [RepD]⟩
  rw [List.lookup_cons] at e
  split at e
  ·rename_i hx
   have hx:=eq_of_beq hx
   subst hx
   cases e
   exact ⟨_,(V.ref ga6),PySem.W.mg_of X G x12,rfl,λA H=>by simp only [RepD];exact ⟨ga6,[(V.str (PySem.Str.ofString "none")),(V.str (PySem.Str.ofString "read")),(V.str (PySem.Str.ofString "write"))],rfl,.inr ⟨_,_,_,y7,rfl,rfl,rfl,by show 3<=sizeLine;decide,(.cons ⟨_,rfl⟩ (.cons ⟨_,rfl⟩ (.cons ⟨_,rfl⟩ .nil)))⟩,(.cons (by simp only [RepD];rfl) (.cons (by simp only [RepD];rfl) (.cons (by simp only [RepD];rfl) .nil)))⟩⟩
  rw [List.lookup_cons] at e
  split at e
  ·rename_i hx
   have hx:=eq_of_beq hx
   subst hx
   cases e
   exact ⟨_,(V.str (PySem.Str.ofString "abcdefghijklmnopqrstuvwxyz")),PySem.W.mg_of X G x13,⟨_,rfl⟩,λA H=>by simp only [RepD];rfl⟩
  rw [List.lookup_cons] at e
  split at e
  ·rename_i hx
   have hx:=eq_of_beq hx
   subst hx
   cases e
   exact ⟨_,(V.ref ga8),PySem.W.mg_of X G x14,rfl,λA H=>by simp only [RepD];exact ⟨ga8,[(V.ref ga7)],rfl,.inr ⟨_,_,_,y9,rfl,rfl,rfl,by show 1<=sizeLine;decide,(.cons rfl .nil)⟩,(.cons (by simp only [RepD];exact ⟨ga7,[(V.str (PySem.Str.ofString "wait"))],rfl,.inr ⟨_,_,_,y8,rfl,rfl,rfl,by show 1<=sizeLine;decide,(.cons ⟨_,rfl⟩ .nil)⟩,(.cons (by simp only [RepD];rfl) .nil)⟩) .nil)⟩⟩
  rw [List.lookup_cons] at e
  split at e
  ·rename_i hx
   have hx:=eq_of_beq hx
   subst hx
   cases e
   exact ⟨_,(V.ref ga9),PySem.W.mg_of X G x15,rfl,λA H=>by simp only [RepD];exact ⟨ga9,[(V.str (PySem.Str.ofString "any")),(V.str (PySem.Str.ofString "last")),(V.str (PySem.Str.ofString "more"))],rfl,.inr ⟨_,_,_,y10,rfl,rfl,rfl,by show 3<=sizeLine;decide,(.cons ⟨_,rfl⟩ (.cons ⟨_,rfl⟩ (.cons ⟨_,rfl⟩ .nil)))⟩,(.cons (by simp only [RepD];rfl) (.cons (by simp only [RepD];rfl) (.cons (by simp only [RepD];rfl) .nil)))⟩⟩
  cases e
 have gd:∀ (x:Str) (kvs:List (List Nat×D)),gds.lookup x=some kvs->GDic K w mg x kvs:=by
  intro x kvs e
  unfold gds at e
  cases e
 let addr:Nat->Addr:=λn=>[f1,f2,f3,f4,f5,f6,f7,f8,f9,f10,f11,f12,f13,f14,f15,f16,f17,f18,f19,f20,f21,f22,f23,f24,f25,f26,f27,f28,f29,f30,f31,fa].getD n 0
 let psOf:Nat->List Str:=λn=>[zda,zc8,zbu,zb2,zbP,zdL,zbq,zbi,zcr,zdS,zcv,zbf,zbx,zco,zbv,zbw,zbm,zbg,zcs,zbS,zct,zdT,zdM,zbR,zde,zdR,ze9,zcu,zcV,zdJ,zc6,zkK].getD n []
 let fdOf:Nat->FuncData:=λn=>[(PySem.W.fnOf "is_word" "is_word" (zad zaG) (zab zaG) (zaa zaG) .none kV1 dc1 pm1 an1 cd1 ct1),(PySem.W.fnOf "is_kind" "is_kind" (zad zaQ) (zab zaQ) (zaa zaQ) .none kV2 dc2 pm2 an2 cd2 ct2),(PySem.W.fnOf "are_states" "are_states" (zad zau) (zab zau) (zaa zau) .none kV3 dc3 pm3 an3 cd3 ct3),(PySem.W.fnOf "are_hands" "are_hands" (zad zaA) (zab zaA) (zaa zaA) .none kV4 dc4 pm4 an4 cd4 ct4),(PySem.W.fnOf "states_of" "states_of" (zad zaC) (zab zaC) (zaa zaC) .none kV5 dc5 pm5 an5 cd5 ct5),(PySem.W.fnOf "is_row" "is_row" (zad za1) (zab za1) (zaa za1) .none kV6 dc6 pm6 an6 cd6 ct6),(PySem.W.fnOf "is_hand_row" "is_hand_row" (zad zan) (zab zan) (zaa zan) .none kV7 dc7 pm7 an7 cd7 ct7),(PySem.W.fnOf "is_house_row" "is_house_row" (zad zak) (zab zak) (zaa zak) .none kV8 dc8 pm8 an8 cd8 ct8),(PySem.W.fnOf "are_acts" "are_acts" (zad zaM) (zab zaM) (zaa zaM) .none kV9 dc9 pm9 an9 cd9 ct9),(PySem.W.fnOf "is_act" "is_act" (zad za4) (zab za4) (zaa za4) .none kV10 dc10 pm10 an10 cd10 ct10),(PySem.W.fnOf "place_of" "place_of" (zad zaL) (zab zaL) (zaa zaL) .none kV11 dc11 pm11 an11 cd11 ct11),(PySem.W.fnOf "rival_places" "rival_places" (zad zaj) (zab zaj) (zaa zaj) .none kV12 dc12 pm12 an12 cd12 ct12),(PySem.W.fnOf "table_text" "table_text" (zad zas) (zab zas) (zaa zas) .none kV13 dc13 pm13 an13 cd13 ct13),(PySem.W.fnOf "row_text" "row_text" (zad zaI) (zab zaI) (zaa zaI) .none kV14 dc14 pm14 an14 cd14 ct14),(PySem.W.fnOf "read_table" "read_table" (zad zat) (zab zat) (zaa zat) .none kV15 dc15 pm15 an15 cd15 ct15),(PySem.W.fnOf "read_hands" "read_hands" (zad zar) (zab zar) (zaa zar) .none kV16 dc16 pm16 an16 cd16 ct16),(PySem.W.fnOf "read_houses" "read_houses" (zad zap) (zab zap) (zaa zap) .none kV17 dc17 pm17 an17 cd17 ct17),(PySem.W.fnOf "parts_behind" "parts_behind" (zad zal) (zab zal) (zaa zal) .none kV18 dc18 pm18 an18 cd18 ct18),(PySem.W.fnOf "words_of" "words_of" (zad zaK) (zab zaK) (zaa zaK) .none kV19 dc19 pm19 an19 cd19 ct19),(PySem.W.fnOf "read_rows" "read_rows" (zad zaz) (zab zaz) (zaa zaz) .none kV20 dc20 pm20 an20 cd20 ct20),(PySem.W.fnOf "read_row" "read_row" (zad zaJ) (zab zaJ) (zaa zaJ) .none kV21 dc21 pm21 an21 cd21 ct21),(PySem.W.fnOf "_law_draw" "_law_draw" (zad za5) (zab za5) (zaa za5) .none kV22 dc22 pm22 an22 cd22 ct22),(PySem.W.fnOf "_law_next" "_law_next" (zad za0) (zab za0) (zaa za0) .none kV23 dc23 pm23 an23 cd23 ct23),(PySem.W.fnOf "_law_cell_at" "_law_cell_at" (zad zaB) (zab zaB) (zaa zaB) .none kV24 dc24 pm24 an24 cd24 ct24),(PySem.W.fnOf "_law_words" "_law_words" (zad zaT) (zab zaT) (zaa zaT) .none kV25 dc25 pm25 an25 cd25 ct25),(PySem.W.fnOf "_law_acts" "_law_acts" (zad zaZ) (zab zaZ) (zaa zaZ) .none kV26 dc26 pm26 an26 cd26 ct26),(PySem.W.fnOf "_law_row" "_law_row" (zad zbe) (zab zbe) (zaa zbe) .none kV27 dc27 pm27 an27 cd27 ct27),(PySem.W.fnOf "_law_stands" "_law_stands" (zad zaH) (zab zaH) (zaa zaH) .none kV28 dc28 pm28 an28 cd28 ct28),(PySem.W.fnOf "_law_table" "_law_table" (zad zaR) (zab zaR) (zaa zaR) .none kV29 dc29 pm29 an29 cd29 ct29),(PySem.W.fnOf "_law_text" "_law_text" (zad za2) (zab za2) (zaa za2) .none kV30 dc30 pm30 an30 cd30 ct30),(PySem.W.fnOf "_law_kinds" "_law_kinds" (zad zaS) (zab zaS) (zaa zaS) .none kV31 dc31 pm31 an31 cd31 ct31),(PySem.W.fnOf "law" "law" (zad zb5) (zab zb5) (zaa zb5) .none kV32 dc32 pm32 an32 cd32 ct32)].getD n (PySem.W.fnOf "is_word" "is_word" (zad zaG) (zab zaG) (zaa zaG) .none kV1 dc1 pm1 an1 cd1 ct1)
 have T:Txt w K mg fns cls P globs gds addr fdOf psOf:=by
  refine ⟨λfi B e=>?_,blt,gl,gd,λfi p e=>?_,?_,?_,?_⟩
  ·match fi,e with
   | 0,e=>cases e;exact ⟨_,_,_,_,d1⟩
   | 1,e=>cases e;exact ⟨_,_,_,_,d2⟩
   | 2,e=>cases e;exact ⟨_,_,_,_,d3⟩
   | 3,e=>cases e;exact ⟨_,_,_,_,d4⟩
   | 4,e=>cases e;exact ⟨_,_,_,_,d5⟩
   | 5,e=>cases e;exact ⟨_,_,_,_,d6⟩
   | 6,e=>cases e;exact ⟨_,_,_,_,d7⟩
   | 7,e=>cases e;exact ⟨_,_,_,_,d8⟩
   | 8,e=>cases e;exact ⟨_,_,_,_,d9⟩
   | 9,e=>cases e;exact ⟨_,_,_,_,d10⟩
   | 10,e=>cases e;exact ⟨_,_,_,_,d11⟩
   | 11,e=>cases e;exact ⟨_,_,_,_,d12⟩
   | 12,e=>cases e;exact ⟨_,_,_,_,d13⟩
   | 13,e=>cases e;exact ⟨_,_,_,_,d14⟩
   | 14,e=>cases e;exact ⟨_,_,_,_,d15⟩
   | 15,e=>cases e;exact ⟨_,_,_,_,d16⟩
   | 16,e=>cases e;exact ⟨_,_,_,_,d17⟩
   | 17,e=>cases e;exact ⟨_,_,_,_,d18⟩
   | 18,e=>cases e;exact ⟨_,_,_,_,d19⟩
   | 19,e=>cases e;exact ⟨_,_,_,_,d20⟩
   | 20,e=>cases e;exact ⟨_,_,_,_,d21⟩
   | 21,e=>cases e;exact ⟨_,_,_,_,d22⟩
   | 22,e=>cases e;exact ⟨_,_,_,_,d23⟩
   | 23,e=>cases e;exact ⟨_,_,_,_,d24⟩
   | 24,e=>cases e;exact ⟨_,_,_,_,d25⟩
   | 25,e=>cases e;exact ⟨_,_,_,_,d26⟩
   | 26,e=>cases e;exact ⟨_,_,_,_,d27⟩
   | 27,e=>cases e;exact ⟨_,_,_,_,d28⟩
   | 28,e=>cases e;exact ⟨_,_,_,_,d29⟩
   | 29,e=>cases e;exact ⟨_,_,_,_,d30⟩
   | 30,e=>cases e;exact ⟨_,_,_,_,d31⟩
   | 31,e=>cases e;exact ⟨_,_,_,_,d32⟩
   | n+32,e=>exact absurd (List.getElem?_eq_some_iff.mp e).1 (by show ¬ (n+32<32);omega)
  ·match fi,e with
   | 0,e=>cases e;exact ⟨PySem.W.mg_of X G a1,_,rfl,rfl,rfl⟩
   | 1,e=>cases e;exact ⟨PySem.W.mg_of X G a2,_,rfl,rfl,rfl⟩
   | 2,e=>cases e;exact ⟨PySem.W.mg_of X G a3,_,rfl,rfl,rfl⟩
   | 3,e=>cases e;exact ⟨PySem.W.mg_of X G a4,_,rfl,rfl,rfl⟩
   | 4,e=>cases e;exact ⟨PySem.W.mg_of X G a5,_,rfl,rfl,rfl⟩
   | 5,e=>cases e;exact ⟨PySem.W.mg_of X G a6,_,rfl,rfl,rfl⟩
   | 6,e=>cases e;exact ⟨PySem.W.mg_of X G a7,_,rfl,rfl,rfl⟩
   | 7,e=>cases e;exact ⟨PySem.W.mg_of X G a8,_,rfl,rfl,rfl⟩
   | 8,e=>cases e;exact ⟨PySem.W.mg_of X G a9,_,rfl,rfl,rfl⟩
   | 9,e=>cases e;exact ⟨PySem.W.mg_of X G a10,_,rfl,rfl,rfl⟩
   | 10,e=>cases e;exact ⟨PySem.W.mg_of X G a11,_,rfl,rfl,rfl⟩
   | 11,e=>cases e;exact ⟨PySem.W.mg_of X G a12,_,rfl,rfl,rfl⟩
   | 12,e=>cases e;exact ⟨PySem.W.mg_of X G a13,_,rfl,rfl,rfl⟩
   | 13,e=>cases e;exact ⟨PySem.W.mg_of X G a14,_,rfl,rfl,rfl⟩
   | 14,e=>cases e;exact ⟨PySem.W.mg_of X G a15,_,rfl,rfl,rfl⟩
   | 15,e=>cases e;exact ⟨PySem.W.mg_of X G a16,_,rfl,rfl,rfl⟩
   | 16,e=>cases e;exact ⟨PySem.W.mg_of X G a17,_,rfl,rfl,rfl⟩
   | 17,e=>cases e;exact ⟨PySem.W.mg_of X G a18,_,rfl,rfl,rfl⟩
   | 18,e=>cases e;exact ⟨PySem.W.mg_of X G a19,_,rfl,rfl,rfl⟩
   | 19,e=>cases e;exact ⟨PySem.W.mg_of X G a20,_,rfl,rfl,rfl⟩
   | 20,e=>cases e;exact ⟨PySem.W.mg_of X G a21,_,rfl,rfl,rfl⟩
   | 21,e=>cases e;exact ⟨PySem.W.mg_of X G a22,_,rfl,rfl,rfl⟩
   | 22,e=>cases e;exact ⟨PySem.W.mg_of X G a23,_,rfl,rfl,rfl⟩
   | 23,e=>cases e;exact ⟨PySem.W.mg_of X G a24,_,rfl,rfl,rfl⟩
   | 24,e=>cases e;exact ⟨PySem.W.mg_of X G a25,_,rfl,rfl,rfl⟩
   | 25,e=>cases e;exact ⟨PySem.W.mg_of X G a26,_,rfl,rfl,rfl⟩
   | 26,e=>cases e;exact ⟨PySem.W.mg_of X G a27,_,rfl,rfl,rfl⟩
   | 27,e=>cases e;exact ⟨PySem.W.mg_of X G a28,_,rfl,rfl,rfl⟩
   | 28,e=>cases e;exact ⟨PySem.W.mg_of X G a29,_,rfl,rfl,rfl⟩
   | 29,e=>cases e;exact ⟨PySem.W.mg_of X G a30,_,rfl,rfl,rfl⟩
   | 30,e=>cases e;exact ⟨PySem.W.mg_of X G a31,_,rfl,rfl,rfl⟩
   | 31,e=>cases e;exact ⟨PySem.W.mg_of X G a32,_,rfl,rfl,rfl⟩
   | n+32,e=>exact absurd (List.getElem?_eq_some_iff.mp e).1 (by show ¬ (n+32<32);omega)
  ·intro ci hc
   unfold cls at hc
   simp at hc
  ·intro ci hc
   unfold cls at hc
   simp at hc
  ·intro ci hc
   unfold cls at hc
   simp at hc
 exact ⟨(PySem.W.fnOf "law" "law" (zad zb5) (zab zb5) (zaa zb5) .none kV32 dc32 pm32 an32 cd32 ct32),λs v=>.of_eq rfl,λbase _ _=>zkf T 12 31 _ rfl⟩
theorem walk {l:PySem.W.OpenLaw} {q:Program} {loose:List Str} {XP:(Str->Option Value)->Heap->Prop} {YP:World->Heap->Prop} {d:DefRec} {K:Params->PySem.W.Frag} (hn:l.most=some 63) (hdf:d.params.defaults=[])
  (hY:∀ (w:World) (h:Heap),YP w h->(K w.params).In h)
  (F:∀ (w:World) (mg:Str->Option Value) (fa:Addr) (h:Heap),(K w.params).In h->h.Ns mainGlobals mg->mg d.name=some (.ref fa) →
   ∃ fd:FuncData,(∀ (s:Shared) (u:Value),BindsTo s fd ⟨[u],[]⟩ [("_law_script",u)])/\∀ base:Heap,(K w.params).In base->base.Ns mainGlobals mg->FnOk l.prog w (K w.params) mg base CX0 24 fa fd ["_law_script"] (spF (K w.params) 1 (zaq P 12 31))) :
  PySem.W.WalkO q loose XP YP l.row.toRowW d [] (λf vs=>PySem.call f vs):=
 L2.walk_of (n:=63) (k:=24) (x:="_law_script") (CX:=λ_=>CX0) (sp:=λw=>spF (K w.params) 1 (zaq P 12 31)) hn (by decide) hdf ⟨rfl,by decide,by decide⟩ hY F
  (λ_ _ a ns hl _ hS=>ziM hS (zkF hl)) λ_ _ _ _ _ z=>z
end K01
open PySem PySem.W PyProof.Rows
noncomputable def PySem.W.Fast.tw10748327095657648373:=()
noncomputable def PySem.W.Fast.tw1878885489668837172:=()
noncomputable def PySem.W.Fast.tw5824918220573293283:=()
noncomputable def PySem.W.Fast.tw10876824779651141072:=()
noncomputable def PySem.W.Fast.tw12898857343853139868:=()
noncomputable def PySem.W.Fast.tw9039944400800120486:=()
noncomputable def PySem.W.Fast.tw1099587784750114219:=()
noncomputable def PySem.W.Fast.tw6426945424750728917:=()
noncomputable def PySem.W.Fast.tw1987132239372500152:=()
noncomputable def PySem.W.Fast.tw16006233339915035800:=()
noncomputable def PySem.W.Fast.tw74148381549906315:=()
noncomputable def PySem.W.Fast.tw15273078126960300912:=()
noncomputable def PySem.W.Fast.tw5125075541837866320:=()
noncomputable def PySem.W.Fast.tw7477153849734686292:=()
noncomputable def PySem.W.Fast.tw9417993034400149572:=()
noncomputable def PySem.W.Fast.tw14136295678364209167:=()
noncomputable def PySem.W.Fast.tw11199770112393000875:=()
noncomputable def PySem.W.Fast.tw4730202240549878184:=()
noncomputable def PySem.W.Fast.tw11666267362206207661:=()
noncomputable def PySem.W.Fast.tw6565313337419404043:=()
noncomputable def PySem.W.Fast.tw17667450566667610047:=()
noncomputable def PySem.W.Fast.tw14364805645644656794:=()
noncomputable def PySem.W.Fast.tw2558739819024593321:=()
noncomputable def PySem.W.Fast.tw5731337721830724584:=()
noncomputable def PySem.W.Fast.tw906410131497587241:=()
noncomputable def PySem.W.Fast.tw2361371920909833019:=()
noncomputable def PySem.W.Fast.tw15557702496887966299:=()
noncomputable def PySem.W.Fast.tw10457049337907777096:=()
noncomputable def PySem.W.Fast.tw372717440099930284:=()
noncomputable def PySem.W.Fast.tw10923174400496013561:=()
noncomputable def PySem.W.Fast.tw11292175734594409772:=()
noncomputable def PySem.W.Fast.tw638483278907497552:=()
noncomputable def PySem.W.Fast.tw17687674769182519196:=()
noncomputable def PySem.W.Fast.tw8608275121702169734:=()
noncomputable def PySem.W.Fast.tw5523095137453333577:=()
noncomputable def PySem.W.Fast.tw382995358351392783:=()
noncomputable def PySem.W.Fast.tw17413562618423947869:=()
noncomputable def PySem.W.Fast.tw6754680717112250113:=()
noncomputable def PySem.W.Fast.tw7720016487214469758:=()
noncomputable def PySem.W.Fast.tw226472625447501608:=()
noncomputable def PySem.W.Fast.tw9923174696951258773:=()
noncomputable def PySem.W.Fast.tw9758720789259211195:=()
noncomputable def PySem.W.Fast.tw12019768382165259213:=()
noncomputable def PySem.W.Fast.tw9626566746161046492:=()
noncomputable def PySem.W.Fast.tw12921151073919814019:=()
noncomputable def PySem.W.Fast.tw14751632017162439245:=()
noncomputable def PySem.W.Fast.tw16032996929208874262:=()
noncomputable def PySem.W.Fast.tw16724588015702925999:=()
noncomputable def PySem.W.Fast.tw13073241111239085605:=()
noncomputable def PySem.W.Fast.tw11923088854393237680:=()
noncomputable def PySem.W.Fast.tw4779004946735202487:=()
noncomputable def PySem.W.Fast.tw573068392663307890:=()
noncomputable def PySem.W.Fast.tw15980065076955201872:=()
noncomputable def PySem.W.Fast.tw16582344473064730221:=()
noncomputable def PySem.W.Fast.tw3157970624580413168:=()
noncomputable def PySem.W.Fast.tw8384176098711445553:=()
noncomputable def PySem.W.Fast.tw4103634235248078431:=()
noncomputable def PySem.W.Fast.tw12473911770746091458:=()
noncomputable def PySem.W.Fast.tw6102708530807607533:=()
noncomputable def PySem.W.Fast.tw373713301119879706:=()
noncomputable def PySem.W.Fast.tw14748303957661127477:=()
noncomputable def PySem.W.Fast.tw13935641950501604853:=()
noncomputable def PySem.W.Fast.tw276069532197666309:=()
noncomputable def PySem.W.Fast.tw14978381605846274559:=()
noncomputable def PySem.W.Fast.tw3873920277071315511:=()
noncomputable def PySem.W.Fast.tw16463260451445669522:=()
noncomputable def PySem.W.Fast.tw17036972097854358124:=()
noncomputable def PySem.W.Fast.tw12918608007613081357:=()
noncomputable def PySem.W.Fast.tw12936364073795809026:=()
noncomputable def PySem.W.Fast.tw3410309937823923054:=()
noncomputable def PySem.W.Fast.tw12392295782902056905:=()
noncomputable def PySem.W.Fast.tw12019693476718099308:=()
noncomputable def PySem.W.Fast.tw11777884042791084074:=()
noncomputable def PySem.W.Fast.tw1826763540578288355:=()
noncomputable def PySem.W.Fast.tw10914770345738746922:=()
noncomputable def PySem.W.Fast.tw7100661643413854486:=()
noncomputable def PySem.W.Fast.tw6794350346067811843:=()
noncomputable def PySem.W.Fast.tw16333291969651487529:=()
noncomputable def PySem.W.Fast.tw9226130426314039757:=()
noncomputable def PySem.W.Fast.tw13046281065949663273:=()
noncomputable def PySem.W.Fast.tw9164519374944748953:=()
noncomputable def PySem.W.Fast.tw8245704012269748651:=()
noncomputable def PySem.W.Fast.tw16681385998313788446:=()
noncomputable def PySem.W.Fast.tw2961188871472403679:=()
noncomputable def PySem.W.Fast.tw2051194830985802981:=()
noncomputable def PySem.W.Fast.tw15034321828464722333:=()
noncomputable def PySem.W.Fast.tw6933372914820346772:=()
noncomputable def PySem.W.Fast.tw10136496710293939120:=()
noncomputable def PySem.W.Fast.tw14127926148545396478:=()
noncomputable def PySem.W.Fast.tw15588522877938034259:=()
noncomputable def PySem.W.Fast.tw14056604827277394045:=()
noncomputable def PySem.W.Fast.tw3142257193148337174:=()
noncomputable def PySem.W.Fast.tw15835610331338398920:=()
noncomputable def PySem.W.Fast.tw9110309586395991757:=()
noncomputable def PySem.W.Fast.tw9522918575382476518:=()
noncomputable def PySem.W.Fast.tw3296566860295360769:=()
noncomputable def PySem.W.Fast.tw5598642263307568869:=()
noncomputable def PySem.W.Fast.tw10902943586555537772:=()
noncomputable def PySem.W.Fast.tw13875328206273726824:=()
noncomputable def PySem.W.Fast.tw7388180710771035677:=()
noncomputable def PySem.W.Fast.tw14711163477126696117:=()
noncomputable def PySem.W.Fast.tw17745179316479240095:=()
noncomputable def PySem.W.Fast.tw569010754691108616:=()
noncomputable def PySem.W.Fast.tw7954794602233463949:=()
noncomputable def PySem.W.Fast.tw13628052612535134764:=()
noncomputable def PySem.W.Fast.tw8283606390255485632:=()
noncomputable def PySem.W.Fast.tw698359354187445155:=()
noncomputable def PySem.W.Fast.tw11792559564214561283:=()
noncomputable def PySem.W.Fast.tw10238210844622749021:=()
noncomputable def PySem.W.Fast.tw13669327273593487206:=()
noncomputable def PySem.W.Fast.tw18303766470783615982:=()
noncomputable def PySem.W.Fast.tw13824735207242052742:=()
noncomputable def PySem.W.Fast.tw3937537297873910242:=()
noncomputable def PySem.W.Fast.tw8318491119066593789:=()
noncomputable def PySem.W.Fast.tw2932110410950175683:=()
noncomputable def PySem.W.Fast.tw9009108352186553864:=()
noncomputable def PySem.W.Fast.tw4891018162891163199:=()
noncomputable def PySem.W.Fast.tw11823005915508723063:=()
noncomputable def PySem.W.Fast.tw7076553042757915498:=()
noncomputable def PySem.W.Fast.tw11270068240155305846:=()
noncomputable def PySem.W.Fast.tw11039772165392292563:=()
noncomputable def PySem.W.Fast.tw2803866139447150990:=()
noncomputable def PySem.W.Fast.tw12337214619787433818:=()
noncomputable def PySem.W.Fast.tw5221588709960959952:=()
noncomputable def PySem.W.Fast.tw5877923181883699388:=()
noncomputable def PySem.W.Fast.tw7360956838710380888:=()
noncomputable def PySem.W.Fast.tw10124963937710664778:=()
noncomputable def PySem.W.Fast.tw6504889121693042746:=()
noncomputable def PySem.W.Fast.tw1396278800834448647:=()
noncomputable def PySem.W.Fast.tw12540875411829988145:=()
noncomputable def PySem.W.Fast.tw4284890984197246655:=()
noncomputable def PySem.W.Fast.tw2719056645831268071:=()
noncomputable def PySem.W.Fast.tw2132497983456630262:=()
noncomputable def PySem.W.Fast.tw8783094760837622055:=()
noncomputable def PySem.W.Fast.tw6804952188096712645:=()
noncomputable def PySem.W.Fast.tw15213445945872713331:=()
noncomputable def PySem.W.Fast.tw4597405814956414628:=()
noncomputable def PySem.W.Fast.tw13630894022856144414:=()
noncomputable def PySem.W.Fast.tw9480496957780712845:=()
noncomputable def PySem.W.Fast.tw14327021487840906390:=()
noncomputable def PySem.W.Fast.tw16961883633216806931:=()
noncomputable def PySem.W.Fast.tw16387517647245360162:=()
noncomputable def PySem.W.Fast.tw5973975356853082576:=()
noncomputable def PySem.W.Fast.tw6686670886052566289:=()
noncomputable def PySem.W.Fast.tw15319209699374931298:=()
noncomputable def PySem.W.Fast.tw12708293260886655076:=()
noncomputable def PySem.W.Fast.tw317296903098239676:=()
noncomputable def PySem.W.Fast.tw8324663256357222258:=()
noncomputable def PySem.W.Fast.tw10179965600766034288:=()
noncomputable def PySem.W.Fast.tw10207973748711783262:=()
noncomputable def PySem.W.Fast.tw15278508028725826899:=()
noncomputable def PySem.W.Fast.tw8135549470047051379:=()
noncomputable def PySem.W.Fast.tw15609561778777554822:=()
noncomputable def PySem.W.Fast.tw2522087940034522680:=()
noncomputable def PySem.W.Fast.tw8925345475858807748:=()
noncomputable def PySem.W.Fast.tw18219463225716499048:=()
noncomputable def PySem.W.Fast.tw3663667637538847958:=()
noncomputable def PySem.W.Fast.tw888163299657712898:=()
noncomputable def PySem.W.Fast.tw10068247857634297870:=()
noncomputable def PySem.W.Fast.tw7553214243033690196:=()
noncomputable def PySem.W.Fast.tw12383488196840992622:=()
noncomputable def PySem.W.Fast.tw18399361133184939314:=()
noncomputable def PySem.W.Fast.tw2095534914740194921:=()
noncomputable def PySem.W.Fast.tw10030326932334970541:=()
noncomputable def PySem.W.Fast.tw8567650988506935737:=()
noncomputable def PySem.W.Fast.tw5893712805222366961:=()
noncomputable def PySem.W.Fast.tw17294826677490187112:=()
noncomputable def PySem.W.Fast.tw8862023897729141906:=()
noncomputable def PySem.W.Fast.tw11039090705670047814:=()
noncomputable def PySem.W.Fast.tw14812618725741419938:=()
noncomputable def PySem.W.Fast.tw14855503668298009749:=()
noncomputable def PySem.W.Fast.tw6386653902921406019:=()
noncomputable def PySem.W.Fast.tw15229240854267987832:=()
noncomputable def PySem.W.Fast.tw1894227533536705024:=()
noncomputable def PySem.W.Fast.tw6992694246173739389:=()
noncomputable def PySem.W.Fast.tw18344216358023091457:=()
noncomputable def PySem.W.Fast.tw18252615520457028410:=()
noncomputable def PySem.W.Fast.tw13898740813892187040:=()
noncomputable def PySem.W.Fast.tw13791679879357326351:=()
noncomputable def PySem.W.Fast.tw15103051389670109126:=()
noncomputable def PySem.W.Fast.tw4934420547793694633:=()
noncomputable def PySem.W.Fast.tw4357621238653005937:=()
noncomputable def PySem.W.Fast.tw18239889041733506943:=()
noncomputable def PySem.W.Fast.tw3128559335409807236:=()
noncomputable def PySem.W.Fast.tw3114955778375748640:=()
noncomputable def PySem.W.Fast.tw10303701155200035637:=()
noncomputable def PySem.W.Fast.tw14893063881966198172:=()
noncomputable def PySem.W.Fast.tw8142518260442034500:=()
noncomputable def PySem.W.Fast.tw13802797967587779228:=()
noncomputable def PySem.W.Fast.tw14212400518357777616:=()
noncomputable def PySem.W.Fast.tw9455892161372075417:=()
noncomputable def PySem.W.Fast.tw40114398389488882:=()
noncomputable def PySem.W.Fast.tw7473348744778151172:=()
noncomputable def PySem.W.Fast.tw9349831033512268596:=()
noncomputable def PySem.W.Fast.tw11765222939777008967:=()
noncomputable def PySem.W.Fast.tw11131313563131278494:=()
noncomputable def PySem.W.Fast.tw2930741563238716152:=()
noncomputable def PySem.W.Fast.tw9056616972239422608:=()
noncomputable def PySem.W.Fast.tw2207376298912559790:=()
noncomputable def PySem.W.Fast.tw13696655754878556169:=()
noncomputable def PySem.W.Fast.tw16916113745188062564:=()
noncomputable def PySem.W.Fast.tw125131594927320976:=()
noncomputable def PySem.W.Fast.tw15910126456072708241:=()
noncomputable def PySem.W.Fast.tw1578151723193547628:=()
noncomputable def PySem.W.Fast.tw16010729809420526740:=()
noncomputable def PySem.W.Fast.tw6040233525881877124:=()
noncomputable def PySem.W.Fast.tw5601066495553682019:=()
noncomputable def PySem.W.Fast.tw10877568586933912035:=()
noncomputable def PySem.W.Fast.tw12538224833750007729:=()
noncomputable def PySem.W.Fast.tw13564330924467615754:=()
noncomputable def PySem.W.Fast.tw2409455052859322413:=()
noncomputable def PySem.W.Fast.tw291244749885978161:=()
noncomputable def PySem.W.Fast.tw3276757637053297565:=()
noncomputable def PySem.W.Fast.tw17051012696869595722:=()
noncomputable def PySem.W.Fast.tw478382561708731188:=()
noncomputable def PySem.W.Fast.tw11341922237494694551:=()
noncomputable def PySem.W.Fast.tw3075326111214368183:=()
noncomputable def PySem.W.Fast.tw11818735163664114488:=()
noncomputable def PySem.W.Fast.tw13553761146264918363:=()
noncomputable def PySem.W.Fast.tw3137789420219114855:=()
noncomputable def PySem.W.Fast.tw9973052584752881361:=()
noncomputable def PySem.W.Fast.tw14843558256292048154:=()
noncomputable def PySem.W.Fast.tw3670029293288034139:=()
noncomputable def PySem.W.Fast.tw2757902238402063068:=()
noncomputable def PySem.W.Fast.tw7299377820839171589:=()
noncomputable def PySem.W.Fast.tw14932096614509693836:=()
noncomputable def PySem.W.Fast.tw4850476273677152592:=()
noncomputable def PySem.W.Fast.tw17810590561802951774:=()
noncomputable def PySem.W.Fast.tw535596531960975708:=()
set_option maxRecDepth 100000 in
set_option maxHeartbeats 0 in
theorem PySem.Challenge.cw_copyclerk_k01_tables_written_and_read_holds : PySem.Challenge.rw_copyclerk_k01_tables_written_and_read.Holds := by
 w_on;o_law;z_head;(case hw=>w_witness2)
 k_fill
 refine IT.toX (λ_=>rfl) (K01.walk (l:=PySem.Challenge.rw_copyclerk_k01_tables_written_and_read) rfl rfl (λw h Y=>Y) ?F)
 case F=>
  intro w mg fa h KX G hmg
  refine' K01.all_mk KX G hmg ?a1 ?l1 ?c1 ?k1 ?a2 ?l2 ?c2 ?k2 ?a3 ?l3 ?c3 ?k3 ?a4 ?l4 ?c4 ?k4 ?a5 ?l5 ?c5 ?k5 ?a6 ?l6 ?c6 ?k6 ?a7 ?l7 ?c7 ?k7 ?a8 ?l8 ?c8 ?k8 ?a9 ?l9 ?c9 ?k9 ?a10 ?l10 ?c10 ?k10 ?a11 ?l11 ?c11 ?k11 ?a12 ?l12 ?c12 ?k12 ?a13 ?l13 ?c13 ?k13 ?a14 ?l14 ?c14 ?k14 ?a15 ?l15 ?c15 ?k15 ?a16 ?l16 ?c16 ?k16 ?a17 ?l17 ?c17 ?k17 ?a18 ?l18 ?c18 ?k18 ?a19 ?l19 ?c19 ?k19 ?a20 ?l20 ?c20 ?k20 ?a21 ?l21 ?c21 ?k21 ?a22 ?l22 ?c22 ?k22 ?a23 ?l23 ?c23 ?k23 ?a24 ?l24 ?c24 ?k24 ?a25 ?l25 ?c25 ?k25 ?a26 ?l26 ?c26 ?k26 ?a27 ?l27 ?c27 ?k27 ?a28 ?l28 ?c28 ?k28 ?a29 ?l29 ?c29 ?k29 ?a30 ?l30 ?c30 ?k30 ?a31 ?l31 ?c31 ?k31 ?a32 ?l32 ?c32 ?k32 ?x0 ?y1 ?x1 ?x2 ?y2 ?x3 ?y3 ?x4 ?x5 ?y4 ?x6 ?y5 ?x7 ?y6 ?x8 ?x9 ?x10 ?x11 ?y7 ?x12 ?x13 ?y8 ?y9 ?x14 ?y10 ?x15 ?z1 ?z2 ?z3 ?z4 ?z5 ?z6 ?z7 ?z8 ?z9 ?z10 ?z11 ?z12 ?z13 ?z14 ?z15 ?z16 ?z17
  (case a1=>k_is)
  (case l1=>k_is)
  (case c1=>k_is)
  (case k1=>k_is)
  (case a2=>k_is)
  (case l2=>k_is)
  (case c2=>k_is)
  (case k2=>k_is)
  (case a3=>k_is)
  (case l3=>k_is)
  (case c3=>k_is)
  (case k3=>k_is)
  (case a4=>k_is)
  (case l4=>k_is)
  (case c4=>k_is)
  (case k4=>k_is)
  (case a5=>k_is)
  (case l5=>k_is)
  (case c5=>k_is)
  (case k5=>k_is)
  (case a6=>k_is)
  (case l6=>k_is)
  (case c6=>k_is)
  (case k6=>k_is)
  (case a7=>k_is)
  (case l7=>k_is)
  (case c7=>k_is)
  (case k7=>k_is)
  (case a8=>k_is)
  (case l8=>k_is)
  (case c8=>k_is)
  (case k8=>k_is)
  (case a9=>k_is)
  (case l9=>k_is)
  (case c9=>k_is)
  (case k9=>k_is)
  (case a10=>k_is)
  (case l10=>k_is)
  (case c10=>k_is)
  (case k10=>k_is)
  (case a11=>k_is)
  (case l11=>k_is)
  (case c11=>k_is)
  (case k11=>k_is)
  (case a12=>k_is)
  (case l12=>k_is)
  (case c12=>k_is)
  (case k12=>k_is)
  (case a13=>k_is)
  (case l13=>k_is)
  (case c13=>k_is)
  (case k13=>k_is)
  (case a14=>k_is)
  (case l14=>k_is)
  (case c14=>k_is)
  (case k14=>k_is)
  (case a15=>k_is)
  (case l15=>k_is)
  (case c15=>k_is)
  (case k15=>k_is)
  (case a16=>k_is)
  (case l16=>k_is)
  (case c16=>k_is)
  (case k16=>k_is)
  (case a17=>k_is)
  (case l17=>k_is)
  (case c17=>k_is)
  (case k17=>k_is)
  (case a18=>k_is)
  (case l18=>k_is)
  (case c18=>k_is)
  (case k18=>k_is)
  (case a19=>k_is)
  (case l19=>k_is)
  (case c19=>k_is)
  (case k19=>k_is)
  (case a20=>k_is)
  (case l20=>k_is)
  (case c20=>k_is)
  (case k20=>k_is)
  (case a21=>k_is)
  (case l21=>k_is)
  (case c21=>k_is)
  (case k21=>k_is)
  (case a22=>k_is)
  (case l22=>k_is)
  (case c22=>k_is)
  (case k22=>k_is)
  (case a23=>k_is)
  (case l23=>k_is)
  (case c23=>k_is)
  (case k23=>k_is)
  (case a24=>k_is)
  (case l24=>k_is)
  (case c24=>k_is)
  (case k24=>k_is)
  (case a25=>k_is)
  (case l25=>k_is)
  (case c25=>k_is)
  (case k25=>k_is)
  (case a26=>k_is)
  (case l26=>k_is)
  (case c26=>k_is)
  (case k26=>k_is)
  (case a27=>k_is)
  (case l27=>k_is)
  (case c27=>k_is)
  (case k27=>k_is)
  (case a28=>k_is)
  (case l28=>k_is)
  (case c28=>k_is)
  (case k28=>k_is)
  (case a29=>k_is)
  (case l29=>k_is)
  (case c29=>k_is)
  (case k29=>k_is)
  (case a30=>k_is)
  (case l30=>k_is)
  (case c30=>k_is)
  (case k30=>k_is)
  (case a31=>k_is)
  (case l31=>k_is)
  (case c31=>k_is)
  (case k31=>k_is)
  (case a32=>k_is)
  (case l32=>k_is)
  (case c32=>k_is)
  (case k32=>k_is)
  (case x0=>k_is)
  (case x1=>k_is)
  (case y1=>k_is)
  (case x2=>k_is)
  (case x3=>k_is)
  (case y2=>k_is)
  (case x4=>k_is)
  (case y3=>k_is)
  (case x5=>k_is)
  (case x6=>k_is)
  (case y4=>k_is)
  (case x7=>k_is)
  (case y5=>k_is)
  (case x8=>k_is)
  (case y6=>k_is)
  (case x9=>k_is)
  (case x10=>k_is)
  (case x11=>k_is)
  (case x12=>k_is)
  (case y7=>k_is)
  (case x13=>k_is)
  (case x14=>k_is)
  (case y9=>k_is)
  (case y8=>k_is)
  (case x15=>k_is)
  (case y10=>k_is)
  (case z1=>k_is)
  (case z2=>k_is)
  (case z3=>k_is)
  (case z4=>k_is)
  (case z5=>k_is)
  (case z6=>k_is)
  (case z7=>k_is)
  (case z8=>k_is)
  (case z9=>k_is)
  (case z10=>k_is)
  (case z11=>k_is)
  (case z12=>k_is)
  (case z13=>k_is)
  (case z14=>k_is)
  (case z15=>k_is)
  (case z16=>k_is)
  (case z17=>k_is)
