import PyProof.Rows.All
import Wide.All
import OpenK.AllK
import Wide.FinOn
import Lean
import PyProof.EqAt
import PyProof.EqKinds
import PyProof.TupleCall
import PyProof.Rows.TupTab
import PyProof.DictRoadsH
import PyProof.MeetsStr2
import PyProof.StrLawsTight
import PyProof.StrBlockI
import PyProof.StrWalks
import PyProof.EnumMake
import KE.KIsAll
import KE.KRevSl
import PyProof.Rows.FactsN_isinstance
import KE.KDictOf
import PyProof.AttrMiss
import PyProof.WalksMore
import PyProof.FactsAll.tuple
import PyProof.ListRange
import PyProof.DictIter
import PyProof.DictWalks
import KE.KDictList
import PyProof.DictItems
import PyProof.Rows.SortShell
import KE.KItemsList
import KE.KSortTup
import KE.KUnpack
import PySem.Challenge.RW_copyclerk_k43_may_clash_or_be_stuck
set_option Elab.async false
set_option autoImplicit true
set_option relaxedAutoImplicit true
set_option linter.all false
set_option genSizeOfSpec false
set_option maxHeartbeats 8000000
set_option maxRecDepth 100000
local macro_rules | `(tactic| ac_rfl)=>`(tactic| conv=>whnf)
namespace IT
open PySem
inductive D where
 | non
 | bl (b:Bool)
 | int (i:Int)
 | str (x:List Nat)
 | tup (xs:List D)
 | lst (xs:List D)
mutual
noncomputable def D.eqb:D->D->Bool
 | .non,y=>match y with | .non=>true | _=>false
 | .bl a,y=>match y with | .bl b=>a==b | .int b=>(if a then 1 else 0)==b | _=>false
 | .int a,y=>match y with | .int b=>a==b | .bl b=>a==(if b then 1 else 0) | _=>false
 | .str a,y=>match y with | .str b=>a==b | _=>false
 | .tup a,y=>match y with | .tup b=>D.eqbs a b | _=>false
 | .lst a,y=>match y with | .lst b=>D.eqbs a b | _=>false
noncomputable def D.eqbs:List D->List D->Bool
 | [],ys=>match ys with | []=>true | _=>false
 | a::r,ys=>match ys with | b::t=>D.eqb a b&&D.eqbs r t | _=>false
end
mutual
noncomputable def D.dep:D->Nat
 | .tup xs=>D.deps xs+1
 | .lst xs=>D.deps xs+1
 | .non | .bl _ | .int _ | .str _=>0
noncomputable def D.deps:List D->Nat
 | []=>0
 | x::xs=>max (D.dep x) (D.deps xs)
end
noncomputable def zi7 (a b:D):Bool:=decide (min a.dep b.dep<=60)
inductive R where
 | d (x:D)
 | loc (l:Nat)
inductive Ob where
 | lst (xs:List D)
 | fro (xs:List D)
 | ins (c:Str) (fs:List (Str×R))
 | ols (ls:List Nat)
 | dic (kvs:List (D×D))
 | dfr (kvs:List (D×D))
noncomputable def Ob.items:Ob->List D
 | .lst xs=>xs
 | .fro xs=>xs
 | .ins _ _=>[]
 | .ols _=>[]
 | .dic _=>[]
 | .dfr _=>[]
noncomputable def Ob.isL:Ob->Bool
 | .lst _=>true
 | .fro _=>true
 | _=>false
inductive Ite where
 | r (x:R)
 | en (i:Int) (x:R)
noncomputable abbrev dI (x:D):Ite:=.r (.d x)
noncomputable abbrev Sto:=List Ob
noncomputable abbrev M (α:Type):=Sto->Option (α×Sto)
noncomputable def ok {α:Type} (a:α):M α:=λh=>some (a,h)
noncomputable def bnd {α β:Type} (x:M α) (f:α->M β):M β:=λh=>match x h with
 | some (a,h1)=>f a h1
 | none=>none
theorem zaf {α:Type} {z:α} {P:Prop} (e:none=some z):P:=by cases e
noncomputable def rd:R->M D
 | .d x=>ok x
 | .loc l=>λh=>match h[l]? with
  | some o=>if o.isL then some (.lst o.items,h) else none
  | none=>none
noncomputable def fz:R->M D
 | .d x=>ok x
 | .loc l=>λh=>match h[l]? with
  | some o=>if o.isL then some (.lst o.items,h.set l (.fro o.items)) else none
  | none=>none
inductive Bo where
 | add | sub | mul | fdiv | mod | band
inductive Co where
 | eq | ne | lt | gt | ge | isin | notin | isN | isnotN
inductive Bi where
 | len | tuple | all | any
inductive Me where
 | append | pop | extend
inductive Ty where
 | bool
inductive Lm where
 | count | index
inductive Tg where
 | name (i:Nat)
 | tup (ts:List Tg)
set_option genInjectivity false
mutual
inductive E where
 | con (d:D)
 | var (i:Nat)
 | bin (o:Bo) (a b:E)
 | neg (a:E)
 | cmp (o:Co) (a b:E)
 | and (a b:E)
 | or (a b:E)
 | not (a:E)
 | ife (c:T) (a b:E)
 | tup (es:List E)
 | lst (m:Bool) (l:L)
 | idx (a i:E)
 | sli (a lo hi:E)
 | call (f:Nat) (es:List E)
 | bi (b:Bi) (es:List E)
 | me (m:Me) (o:E) (es:List E)
 | glo (d:D)
 | isi (t:Ty) (e:E)
 | lm (m:Lm) (o a:E)
 | fld (o:E) (f:Str)
 | make (c:Str) (f:Nat) (es:List E)
 | mc (c m:Str) (f:Nat) (o:E) (es:List E)
 | lstO (tg:Tg) (it:I) (c:List T) (el:E)
 | oix (a i:E)
 | olen (a:E)
 | dnew
 | dof (e:E)
 | din (neg:Bool) (k d:E)
 | dgt (d k:E)
 | ddx (d k:E)
 | gdx (x:Str) (kvs:List (List Nat×D)) (k:E)
 | stuck
inductive T where
 | val (e:E)
 | and (a b:T)
 | or (a b:T)
 | not (a:T)
inductive L where
 | disp (es:List E)
 | comp (tg:Tg) (it:I) (c:List T) (el:E)
 | rev (e:E)
 | sdi (e:E)
inductive I where
 | seq (e:E)
 | rng (e:E)
 | rng2 (a b:E)
 | enu (e:E)
 | dic (e:E)
end
set_option genInjectivity true
noncomputable def big:Nat:=16777216
noncomputable def fit (n:Nat):Bool:=decide (n<=big)
noncomputable def zgF (i:Int):Bool:=decide (-(2 ^ 64)<i)&&decide (i<2 ^ 64)
noncomputable def wide:Int:=1000000000000000000000000000000000000000000000000000000000000
noncomputable def bop:Bo->D->D->Option D
 | .add,.int a,.int b=>some (.int (a+b))
 | .sub,.int a,.int b=>some (.int (a-b))
 | .mul,.int a,.int b=>if zgF a||zgF b then some (.int (a*b)) else none
 | .fdiv,.int a,.int b=>if decide (0<b)&&decide (b<wide) then some (.int (a / b)) else none
 | .mod,.int a,.int b=>if decide (0<b) then some (.int (a % b)) else none
 | .band,.int a,.int b=>if decide (0<=a)&&decide (0<=b) then some (.int (a.toNat &&& b.toNat:Nat)) else none
 | .add,.lst a,.lst b=>if fit (a.length+b.length) then some (.lst (a++b)) else none
 | .add,.tup a,.tup b=>if fit (a.length+b.length) then some (.tup (a++b)) else none
 | .mul,.tup a,.int b=>if a.isEmpty||decide (b<0)||decide (2 ^ 24<b)||!fit (a.length*b.toNat) then none else some (.tup (List.replicate b.toNat a).flatten)
 | _,_,_=>none
noncomputable def fnd (y:List Nat):List Nat->Option Nat
 | []=>if y.isPrefixOf [] then some 0 else none
 | c::r=>if y.isPrefixOf (c::r) then some 0 else match fnd y r with
  | some i=>some (i+1)
  | none=>none
noncomputable def zjB:D->Bool
 | .non=>true
 | _=>false
noncomputable def items:D->Option (List D)
 | .tup xs=>some xs
 | .lst xs=>some xs
 | _=>none
noncomputable def cop:Co->D->D->Option D
 | .eq,a,b=>if zi7 a b then some (.bl (a.eqb b)) else none
 | .ne,a,b=>if zi7 a b then some (.bl (!a.eqb b)) else none
 | .lt,.int a,.int b=>some (.bl (decide (a<b)))
 | .gt,.int a,.int b=>some (.bl (decide (b<a)))
 | .ge,.int a,.int b=>some (.bl (decide (b<=a)))
 | .isin,a,b=>match items b with
  | some xs=>if decide (a.dep<=60) then some (.bl (xs.any λy=>y.eqb a)) else none
  | none=>none
 | .notin,a,b=>match items b with
  | some xs=>if decide (a.dep<=60) then some (.bl (!(xs.any λy=>y.eqb a))) else none
  | none=>none
 | .isN,a,.non=>some (.bl (zjB a))
 | .isnotN,a,.non=>some (.bl (!zjB a))
 | _,_,_=>none
noncomputable def ixn (n:Nat) (i:Int):Option Nat:=if 0<=i then (if i<n then some i.toNat else none) else if -(n:Int)<=i then some (i+n).toNat else none
noncomputable def at' {α:Type} (xs:List α) (i:Int):Option α:=match ixn xs.length i with
 | some j=>xs[j]?
 | none=>none
noncomputable def idxD:D->D->Option D
 | .tup xs,.int i=>at' xs i
 | .lst xs,.int i=>at' xs i
 | _,_=>none
noncomputable def revD:D->Option (List D)
 | .lst a=>some a.reverse
 | _=>none
noncomputable def sIx (n d:Nat):Option Int->Nat
 | none=>d
 | some v=>if v<0 then (v+(n:Int)).toNat else min v.toNat n
noncomputable def cut {α:Type} (xs:List α) (lo hi:Option Int):List α:=(xs.drop (sIx xs.length 0 lo)).take (sIx xs.length xs.length hi-sIx xs.length 0 lo)
noncomputable def part:D->Option (Option Int)
 | .non=>some none
 | .int i=>some (some i)
 | _=>none
noncomputable def cutD (x:D) (lo hi:Option Int):Option D:=match x with
 | .tup xs=>some (.tup (cut xs lo hi))
 | _=>none
noncomputable def sliD (x l u:D):Option D:=match part l,part u with
 | some lo,some hi=>cutD x lo hi
 | _,_=>none
noncomputable def tru:D->Option Bool
 | .non=>some false
 | .bl b=>some b
 | .int i=>some (i != 0)
 | .str x=>if fit x.length then some (!x.isEmpty) else none
 | .tup xs=>some (!xs.isEmpty)
 | .lst xs=>some (!xs.isEmpty)
noncomputable def zau:List D->Option (List Bool)
 | []=>some []
 | d::r=>match tru d with
  | some b=>match zau r with
   | some s=>some (b::s)
   | none=>none
  | none=>none
noncomputable def isiD:Ty->D->Bool
 | .bool,.bl _=>true
 | _,_=>false
noncomputable def biD:Bi->List D->Option D
 | .len,[.tup xs]=>some (.int xs.length)
 | .len,[.lst xs]=>some (.int xs.length)
 | .tuple,[.lst xs]=>some (.tup xs)
 | .all,[.lst xs]=>match zau xs with
  | some bs=>some (.bl (bs.all id))
  | none=>none
 | .any,[.lst xs]=>match zau xs with
  | some bs=>some (.bl (bs.any id))
  | none=>none
 | _,_=>none
noncomputable def lmD:Lm->D->D->Option D
 | .count,.lst xs,d=>if decide (d.dep<=60) then some (.int (xs.countP λy=>y.eqb d)) else none
 | .index,.lst xs,d=>if decide (d.dep<=60) then (match xs.findIdx? λy=>y.eqb d with
  | some j=>some (.int j)
  | none=>none) else none
 | _,_,_=>none
noncomputable abbrev Env:=List (Option R)
mutual
noncomputable def zaN:Tg->R->Env->M Env
 | .name i,r,σ=>ok (σ.set i (some r))
 | .tup ts,r,σ=>bnd (rd r) λd=>match d with
  | .tup xs=>bindTs ts xs σ
  | _=>λ_=>none
noncomputable def bindTs:List Tg->List D->Env->M Env
 | [],xs,σ=>match xs with
  | []=>ok σ
  | _=>λ_=>none
 | t::ts,xs,σ=>match xs with
  | x::xs=>bnd (zaN t (.d x) σ) λσ'=>bindTs ts xs σ'
  | _=>λ_=>none
end
noncomputable def zaD:Tg->Ite->Env->M Env
 | tg,.r x,σ=>zaN tg x σ
 | .tup [a,b],.en i x,σ=>bnd (zaN a (.d (.int i)) σ) λσ'=>zaN b x σ'
 | _,_,_=>λ_=>none
mutual
noncomputable def D.same:D->D->Bool
 | .non,y=>match y with | .non=>true | _=>false
 | .bl a,y=>match y with | .bl b=>a==b | _=>false
 | .int a,y=>match y with | .int b=>a==b | _=>false
 | .str a,y=>match y with | .str b=>a==b | _=>false
 | .tup a,y=>match y with | .tup b=>D.sames a b | _=>false
 | .lst a,y=>match y with | .lst b=>D.sames a b | _=>false
noncomputable def D.sames:List D->List D->Bool
 | [],ys=>match ys with | []=>true | _=>false
 | a::r,ys=>match ys with | b::t=>D.same a b&&D.sames r t | _=>false
end
mutual
theorem D.same_eq:∀ x y:D,D.same x y=true->x=y
 | .non,.non,_=>rfl
 | .bl a,.bl b,h=>by simp [D.same] at h;rw [h]
 | .int a,.int b,h=>by simp [D.same] at h;rw [h]
 | .str a,.str b,h=>by simp [D.same] at h;rw [h]
 | .tup a,.tup b,h=>by simp [D.same] at h;rw [D.sames_eq a b h]
 | .lst a,.lst b,h=>by simp [D.same] at h;rw [D.sames_eq a b h]
 | .non,.bl _,h | .non,.int _,h | .non,.str _,h | .non,.tup _,h | .non,.lst _,h=>by simp [D.same] at h
 | .bl _,.non,h | .bl _,.int _,h | .bl _,.str _,h | .bl _,.tup _,h | .bl _,.lst _,h=>by simp [D.same] at h
 | .int _,.non,h | .int _,.bl _,h | .int _,.str _,h | .int _,.tup _,h | .int _,.lst _,h=>by simp [D.same] at h
 | .str _,.non,h | .str _,.bl _,h | .str _,.int _,h | .str _,.tup _,h | .str _,.lst _,h=>by simp [D.same] at h
 | .tup _,.non,h | .tup _,.bl _,h | .tup _,.int _,h | .tup _,.str _,h | .tup _,.lst _,h=>by simp [D.same] at h
 | .lst _,.non,h | .lst _,.bl _,h | .lst _,.int _,h | .lst _,.str _,h | .lst _,.tup _,h=>by simp [D.same] at h
theorem D.sames_eq:∀ x y:List D,D.sames x y=true->x=y
 | [],[],_=>rfl
 | a::r,b::t,h=>by
  simp [D.sames] at h
  rw [D.same_eq a b h.1,D.sames_eq r t h.2]
 | [],_::_,h=>by simp [D.sames] at h
 | _::_,[],h=>by simp [D.sames] at h
end
mutual
theorem D.same_refl:∀ x:D,D.same x x=true
 | .non=>rfl
 | .bl a=>by simp [D.same]
 | .int a=>by simp [D.same]
 | .str a=>by simp [D.same]
 | .tup a=>by simp [D.same];exact D.sames_refl a
 | .lst a=>by simp [D.same];exact D.sames_refl a
theorem D.sames_refl:∀ x:List D,D.sames x x=true
 | []=>rfl
 | a::r=>by simp [D.sames];exact ⟨D.same_refl a,D.sames_refl r⟩
end
mutual
noncomputable def D.hk:D->Bool
 | .int _=>true
 | .str _=>true
 | .tup xs=>D.hks xs
 | .non | .bl _ | .lst _=>false
noncomputable def D.hks:List D->Bool
 | []=>true
 | x::r=>D.hk x&&D.hks r
end
noncomputable def zaF:D->Bool
 | .tup xs=>D.hks xs&&decide (D.deps xs<=6)
 | _=>false
noncomputable def dGet (k:D):List (D×D)->Option D
 | []=>none
 | p::r=>if p.1.same k then some p.2 else dGet k r
noncomputable def dPut (k v:D):List (D×D)->List (D×D)
 | []=>[(k,v)]
 | p::r=>if p.1.same k then (p.1,v)::r else p::dPut k v r
noncomputable def za2:List (D×D)->List (D×D)->Bool
 | [],ys=>ys.isEmpty
 | p::r,ys=>match ys with
  | q::t=>p.1.same q.1&&p.2.same q.2&&za2 r t
  | []=>false
noncomputable def zcF:List D->Option (List (D×D))
 | []=>some []
 | .tup [k,v]::r=>if zaF k then (match zcF r with
  | some l=>some ((k,v)::l)
  | none=>none) else none
 | _=>none
noncomputable def dOfP:List (D×D)->List (D×D)->List (D×D)
 | acc,[]=>acc
 | acc,p::r=>dOfP (dPut p.1 p.2 acc) r
noncomputable def zlk (d:D):Option (List (D×D)):=match d with
 | .tup xs=>match zcF xs with
  | some l=>if fit l.length then some (dOfP [] l) else none
  | none=>none
 | _=>none
noncomputable def ltS:List Nat->List Nat->Bool
 | [],ys=>match ys with | []=>false | _=>true
 | a::r,ys=>match ys with | b::t=>if a=b then ltS r t else decide (a<b) | []=>false
mutual
noncomputable def D.lt:D->D->Option Bool
 | .int a,y=>match y with | .int b=>some (decide (a<b)) | _=>none
 | .str a,y=>match y with | .str b=>some (ltS a b) | _=>none
 | .tup a,y=>match y with | .tup b=>D.lts a b | _=>none
 | .non,_=>none
 | .bl _,_=>none
 | .lst _,_=>none
noncomputable def D.lts:List D->List D->Option Bool
 | [],ys=>match ys with | []=>some false | _=>some true
 | a::r,ys=>match ys with | b::t=>if D.same a b then D.lts r t else D.lt a b | []=>some false
end
noncomputable def ltT (a b:D):Bool:=match D.lt a b with
 | some c=>c
 | none=>false
noncomputable def rnk (xs:List D) (x:D):Nat:=xs.countP λy=>ltT y x
noncomputable def rkOk (xs:List D):Bool:=xs.all λx=>xs.all λy=>(D.lt x y).isSome&&(ltT x y==decide (rnk xs x<rnk xs y))
noncomputable def apart:List D->Bool
 | []=>true
 | x::r=>(r.all λy=>!x.same y)&&apart r
noncomputable def insD (x:D):List D->List D
 | []=>[x]
 | y::r=>if ltT y x then y::insD x r else x::y::r
noncomputable def zjx:List D->List D
 | []=>[]
 | x::r=>insD x (zjx r)
noncomputable def fstK:D->Nat
 | .tup (.str _::_)=>1
 | .tup (.tup _::_)=>2
 | _=>0
noncomputable def zfV (xs:List D):Option (List D):=if decide (xs.length<=4)&&xs.all zaF&&apart xs&&rkOk xs&&((xs.all λx=>fstK x==1)||xs.all λx=>fstK x==2) then some (zjx xs) else none
noncomputable def once:List D->List D
 | []=>[]
 | x::r=>x::(once r).filter λy=>!x.same y
noncomputable def zcu (p:D×D):D:=.tup [p.1,p.2]
noncomputable def Ob.same:Ob->Ob->Bool
 | .dic a,o=>match o with
  | .dic b=>za2 a b
  | _=>false
 | .dfr a,o=>match o with
  | .dfr b=>za2 a b
  | _=>false
 | .ols a,o=>match o with
  | .ols b=>a==b
  | _=>false
 | .ins _ _,_=>false
 | .lst a,o=>o.isL&&D.sames a o.items
 | .fro a,o=>o.isL&&D.sames a o.items
noncomputable def zaz (l:Option Nat) (h h':Sto):Bool:=match l with
 | none=>true
 | some l=>match h[l]?,h'[l]? with
  | some o,some o'=>o.same o'
  | _,_=>false
noncomputable def zaZ {α:Type} (l:Option Nat) (f:Ite->M (Option α)):List Ite->M (List α)
 | []=>ok []
 | x::xs=>λh=>match f x h with
  | some (o,h1)=>if zaz l h h1 then bnd (zaZ l f xs) (λys=>ok (match o with | some y=>y::ys | none=>ys)) h1 else none
  | none=>none
noncomputable def zaU (lo:Int):Nat->List D
 | 0=>[]
 | n+1=>.int lo::zaU (lo+1) n
noncomputable def opt {α:Type} (o:Option α):M α:=λh=>match o with
 | some a=>some (a,h)
 | none=>none
noncomputable def alloc (xs:List D):M R:=λh=>some (.loc h.length,h++[.lst xs])
structure Wk where
 xs:List Ite
 l:Option Nat
noncomputable def wkOf (r:R) (d:D):M Wk:=match items d with
 | some xs=>ok ⟨xs.map dI,match r with | .loc l=>some l | .d _=>none⟩
 | none=>λ_=>none
noncomputable def zbc (r:R):M (Option (List Nat)):=λh=>match r with
 | .loc l=>match h[l]? with
  | some (.ols ls)=>some (some ls,h)
  | _=>some (none,h)
 | .d _=>some (none,h)
noncomputable def zaY (r:R):M Wk:=bnd (zbc r) λo=>match o with
 | some ls=>ok ⟨ls.map λl=>.r (.loc l),match r with | .loc l=>some l | .d _=>none⟩
 | none=>bnd (rd r) λd=>wkOf r d
noncomputable def zaq (i:Int):List Ite->Option (List Ite)
 | []=>some []
 | .r x::t=>match zaq (i+1) t with
  | some l=>some (.en i x::l)
  | none=>none
 | .en _ _::_=>none
noncomputable def isLs:R->Bool
 | .loc _=>true
 | .d (.lst _)=>true
 | _=>false
noncomputable def zjG (r:R):M Wk:=if isLs r then bnd (zaY r) λw=>match zaq 0 w.xs with
  | some l=>ok ⟨l,w.l⟩
  | none=>λ_=>none
 else λ_=>none
noncomputable def zfo (r:R):M Wk:=match r with
 | .d (.int n)=>if decide (-(2 ^ 62)<=n)&&decide (n<=16777216) then ok ⟨(zaU 0 n.toNat).map dI,none⟩ else λ_=>none
 | _=>λ_=>none
noncomputable def zg1 (r q:R):M Wk:=match r,q with
 | .d (.int m),.d (.int n)=>if decide (-(2 ^ 62)<=m)&&decide (m<2 ^ 62)&&decide (-(2 ^ 62)<=n)&&decide (n<2 ^ 62)&&decide (n-m<=16777216) then ok ⟨(zaU m (n-m).toNat).map dI,none⟩ else λ_=>none
 | _,_=>λ_=>none
mutual
noncomputable def Tg.slots:Tg->List Nat
 | .name i=>[i]
 | .tup ts=>Tg.slotss ts
noncomputable def Tg.slotss:List Tg->List Nat
 | []=>[]
 | t::ts=>t.slots++Tg.slotss ts
end
noncomputable def clr:List Nat->Env->Env
 | [],σ=>σ
 | i::r,σ=>clr r (σ.set i none)
noncomputable abbrev Calls:=Nat->List R->M R
noncomputable def zdo (x:R):M Unit:=λh=>match x with
 | .loc l=>match h[l]? with
  | some o=>if o.isL then some ((),h) else none
  | none=>none
 | .d _=>none
noncomputable def dRd (x:R):M (List (D×D)):=λh=>match x with
 | .loc l=>match h[l]? with
  | some (.dic kvs)=>some (kvs,h)
  | some (.dfr kvs)=>some (kvs,h)
  | _=>none
 | .d _=>none
noncomputable def dNew:M R:=λh=>some (.loc h.length,h++[.dic []])
noncomputable def zmR (kvs:List (D×D)):M R:=λh=>some (.loc h.length,h++[.dfr kvs])
noncomputable def kRd (x:R):M D:=λh=>match x with
 | .d k=>if zaF k then some (k,h) else none
 | .loc _=>none
noncomputable def dSet (x:R) (k v:D):M Unit:=λh=>match x with
 | .loc l=>match h[l]? with
  | some (.dic kvs)=>if decide (kvs.length<big) then some ((),h.set l (.dic (dPut k v kvs))) else none
  | _=>none
 | .d _=>none
noncomputable def zhn (x:R):M Wk:=λh=>match x with
 | .loc l=>match h[l]? with
  | some (.dfr kvs)=>some (⟨kvs.map λp=>dI p.1,some l⟩,h)
  | _=>none
 | .d _=>none
noncomputable def gGet (kvs:List (List Nat×D)) (x:R):Option D:=match x with
 | .d (.str k)=>kvs.lookup k
 | _=>none
noncomputable def putF (f:Str) (v:R):List (Str×R)->List (Str×R)
  | []=>[(f,v)]
  | (g,x)::r=>if g=f then (g,v)::r else (g,x)::putF f v r
noncomputable def getA (x:R) (f:Str):M R:=λh=>match x with
 | .loc l=>match h[l]? with
  | some (.ins _ fs)=>match fs.lookup f with
   | some r=>some (r,h)
   | none=>none
  | _=>none
 | .d _=>none
noncomputable def setN (x:R) (c f:Str) (v:R):M Unit:=λh=>match x with
 | .loc l=>match h[l]? with
  | some (.ins c' fs)=>if c'=c/\fs.length<900 then some ((),h.set l (.ins c' (putF f v fs))) else none
  | _=>none
 | .d _=>none
noncomputable def isA (x:R) (c m:Str):M Unit:=λh=>match x with
 | .loc l=>match h[l]? with
  | some (.ins c' fs)=>if c'=c/\(fs.lookup m).isNone then some ((),h) else none
  | _=>none
 | .d _=>none
noncomputable def newA (c:Str):M R:=λh=>some (.loc h.length,h++[.ins c []])
noncomputable def za5 (x:R):M Nat:=λh=>match x with
 | .loc l=>match h[l]? with
  | some (.ins _ _)=>some (l,h)
  | _=>none
 | .d _=>none
noncomputable def allocO (ls:List Nat):M R:=λh=>some (.loc h.length,h++[.ols ls])
noncomputable def meth:Me->R->List R->M R
 | .append,.loc l,[r]=>bnd (fz r) λd h=>match h[l]? with
  | some (.lst xs)=>if decide (xs.length<big) then some (.d .non,h.set l (.lst (xs++[d]))) else none
  | _=>none
 | .pop,.loc l,[]=>λh=>match h[l]? with
  | some (.lst xs)=>match xs[xs.length-1]? with
   | some y=>some (.d y,h.set l (.lst xs.dropLast))
   | none=>none
  | _=>none
 | .extend,.loc l,[r]=>bnd (rd r) λd h=>match d with
  | .lst ys=>match h[l]? with
   | some (.lst xs)=>if fit (xs.length+ys.length) then some (.d .non,h.set l (.lst (xs++ys))) else none
   | _=>none
  | _=>none
 | _,_,_=>λ_=>none
mutual
noncomputable def ev (Γ:Calls):E->Env->M R
 | .con d,_=>ok (.d d)
 | .var i,σ=>λh=>match σ[i]? with
  | some (some r)=>some (r,h)
  | _=>none
 | .bin o a b,σ=>bnd (ev Γ a σ) λx=>bnd (ev Γ b σ) λy=>bnd (rd x) λx=>bnd (rd y) λy=>bnd (opt (bop o x y)) λz=>ok (.d z)
 | .neg a,σ=>bnd (ev Γ a σ) λx=>match x with
  | .d (.int i)=>ok (.d (.int (-i)))
  | _=>λ_=>none
 | .cmp o a b,σ=>bnd (ev Γ a σ) λx=>bnd (ev Γ b σ) λy=>bnd (rd x) λx=>bnd (rd y) λy=>bnd (opt (cop o x y)) λz=>ok (.d z)
 | .and a b,σ=>bnd (ev Γ a σ) λx=>match x with
  | .d (.bl c)=>if c then ev Γ b σ else ok (.d (.bl false))
  | _=>λ_=>none
 | .or a b,σ=>bnd (ev Γ a σ) λx=>match x with
  | .d (.bl c)=>if c then ok (.d (.bl true)) else ev Γ b σ
  | _=>λ_=>none
 | .not a,σ=>bnd (ev Γ a σ) λx=>bnd (rd x) λd=>bnd (opt (tru d)) λt=>ok (.d (.bl (!t)))
 | .ife c a b,σ=>bnd (tv Γ c σ) λt=>if t then ev Γ a σ else ev Γ b σ
 | .tup es,σ=>bnd (evs Γ es σ) λrs=>bnd (fzs rs) λds=>ok (.d (.tup ds))
 | .lst m l,σ=>bnd (evL Γ l σ) λxs=>if m then alloc xs else ok (.d (.lst xs))
 | .idx a i,σ=>bnd (ev Γ a σ) λx=>bnd (ev Γ i σ) λy=>bnd (rd x) λx=>bnd (rd y) λy=>bnd (opt (idxD x y)) λz=>ok (.d z)
 | .sli a lo hi,σ=>bnd (ev Γ a σ) λx=>bnd (ev Γ lo σ) λl=>bnd (ev Γ hi σ) λu=>bnd (rd x) λx=>bnd (rd l) λl=>bnd (rd u) λu=>bnd (opt (sliD x l u)) λz=>ok (.d z)
 | .call f es,σ=>bnd (evs Γ es σ) λrs=>Γ f rs
 | .bi b es,σ=>bnd (evs Γ es σ) λrs=>bnd (rds rs) λds=>bnd (opt (biD b ds)) λz=>ok (.d z)
 | .me m o es,σ=>bnd (ev Γ o σ) λx=>bnd (zdo x) λ_=>bnd (evs Γ es σ) λrs=>meth m x rs
 | .glo d,_=>ok (.d d)
 | .isi t e,σ=>bnd (ev Γ e σ) λr=>bnd (rd r) λd=>ok (.d (.bl (isiD t d)))
 | .lm m o a,σ=>bnd (ev Γ o σ) λx=>bnd (rd x) λ_=>bnd (ev Γ a σ) λy=>bnd (rd x) λx=>bnd (rd y) λy=>bnd (opt (lmD m x y)) λz=>ok (.d z)
 | .fld o f,σ=>bnd (ev Γ o σ) λx=>getA x f
 | .make c f es,σ=>bnd (evs Γ es σ) λrs=>bnd (newA c) λx=>bnd (Γ f (x::rs)) λr=>match r with
  | .d .non=>ok x
  | _=>λ_=>none
 | .mc c m f o es,σ=>bnd (ev Γ o σ) λx=>bnd (isA x c m) λ_=>bnd (evs Γ es σ) λrs=>Γ f (x::rs)
 | .lstO tg it c el,σ=>bnd (evI Γ it σ) λw=>bnd (zaZ w.l (λx=>bnd (zaD tg x (clr tg.slots σ)) λσ'=>bnd (tvs Γ c σ') λt=>if t then bnd (ev Γ el σ') λr=>bnd (za5 r) λd=>ok (some d) else ok none) w.xs) λls=>allocO ls
 | .oix a i,σ=>bnd (ev Γ a σ) λx=>bnd (ev Γ i σ) λy=>bnd (zbc x) λo=>match o,y with
  | some ls,.d (.int k)=>match at' ls k with
   | some l=>ok (.loc l)
   | none=>λ_=>none
  | _,_=>λ_=>none
 | .olen a,σ=>bnd (ev Γ a σ) λx=>bnd (zbc x) λo=>match o with
  | some ls=>ok (.d (.int ls.length))
  | none=>λ_=>none
 | .dnew,_=>dNew
 | .dof e,σ=>bnd (ev Γ e σ) λr=>bnd (rd r) λd=>bnd (opt (zlk d)) λkvs=>zmR kvs
 | .din neg k d,σ=>bnd (ev Γ k σ) λy=>bnd (ev Γ d σ) λx=>bnd (dRd x) λkvs=>bnd (kRd y) λk=>ok (.d (.bl (if neg then !(dGet k kvs).isSome else (dGet k kvs).isSome)))
 | .dgt d k,σ=>bnd (ev Γ d σ) λx=>bnd (dRd x) λ_=>bnd (ev Γ k σ) λy=>bnd (dRd x) λkvs=>bnd (kRd y) λk=>ok (.d ((dGet k kvs).getD .non))
 | .ddx d k,σ=>bnd (ev Γ d σ) λx=>bnd (ev Γ k σ) λy=>bnd (dRd x) λkvs=>bnd (kRd y) λk=>bnd (opt (dGet k kvs)) λv=>ok (.d v)
 | .gdx _ kvs k,σ=>bnd (ev Γ k σ) λy=>bnd (opt (gGet kvs y)) λv=>ok (.d v)
 | .stuck,_=>λ_=>none
noncomputable def evs (Γ:Calls):List E->Env->M (List R)
 | [],_=>ok []
 | e::es,σ=>bnd (ev Γ e σ) λr=>bnd (evs Γ es σ) λrs=>ok (r::rs)
noncomputable def tv (Γ:Calls):T->Env->M Bool
 | .val e,σ=>bnd (ev Γ e σ) λr=>bnd (rd r) λd=>opt (tru d)
 | .and a b,σ=>bnd (tv Γ a σ) λt=>if t then tv Γ b σ else ok false
 | .or a b,σ=>bnd (tv Γ a σ) λt=>if t then ok true else tv Γ b σ
 | .not a,σ=>bnd (tv Γ a σ) λt=>ok (!t)
noncomputable def tvs (Γ:Calls):List T->Env->M Bool
 | [],_=>ok true
 | c::cs,σ=>bnd (tv Γ c σ) λt=>if t then tvs Γ cs σ else ok false
noncomputable def evL (Γ:Calls):L->Env->M (List D)
 | .disp es,σ=>bnd (evs Γ es σ) λrs=>fzs rs
 | .comp tg it c el,σ=>bnd (evI Γ it σ) λw=>zaZ w.l (λx=>bnd (zaD tg x (clr tg.slots σ)) λσ'=>bnd (tvs Γ c σ') λt=>if t then bnd (ev Γ el σ') λr=>bnd (fz r) λd=>ok (some d) else ok none) w.xs
 | .rev e,σ=>bnd (ev Γ e σ) λr=>bnd (rd r) λd=>opt (revD d)
 | .sdi e,σ=>bnd (ev Γ e σ) λr=>bnd (dRd r) λkvs=>opt (zfV (kvs.map zcu))
noncomputable def evI (Γ:Calls):I->Env->M Wk
 | .seq e,σ=>bnd (ev Γ e σ) λr=>zaY r
 | .rng e,σ=>bnd (ev Γ e σ) λr=>zfo r
 | .rng2 a b,σ=>bnd (ev Γ a σ) λr=>bnd (ev Γ b σ) λq=>zg1 r q
 | .enu e,σ=>bnd (ev Γ e σ) λr=>zjG r
 | .dic e,σ=>bnd (ev Γ e σ) λr=>zhn r
noncomputable def fzs:List R->M (List D)
 | []=>ok []
 | r::rs=>bnd (fz r) λd=>bnd (fzs rs) λds=>ok (d::ds)
noncomputable def rds:List R->M (List D)
 | []=>ok []
 | r::rs=>bnd (rd r) λd=>bnd (rds rs) λds=>ok (d::ds)
end
set_option genInjectivity false in
inductive S where
 | asg (tg:Tg) (e:E)
 | setN (c:Str) (o:E) (f:Str) (e:E)
 | exp (e:E)
 | ife (c:T) (a b:List S)
 | for (tg:Tg) (it:I) (body:List S)
 | ret (e:E)
 | setD (o k e:E)
 | stuck
inductive Fl where
 | nx | ret (r:R) | brk | cnt
noncomputable def loop (l:Option Nat) (f:Ite->Env->M (Fl×Env)):List Ite->Env->M (Fl×Env)
 | [],σ=>ok (.nx,σ)
 | x::xs,σ=>λh=>match f x σ h with
  | some ((fl,σ1),h1)=>match fl with
   | .ret r=>some ((.ret r,σ1),h1)
   | .brk=>some ((.nx,σ1),h1)
   | _=>if zaz l h h1 then loop l f xs σ1 h1 else none
  | none=>none
mutual
noncomputable def ex (Γ:Calls):S->Env->M (Fl×Env)
 | .asg tg e,σ=>bnd (ev Γ e σ) λr=>bnd (zaN tg r σ) λσ'=>ok (.nx,σ')
 | .setN c o f e,σ=>bnd (ev Γ e σ) λr=>bnd (ev Γ o σ) λx=>bnd (setN x c f r) λ_=>ok (.nx,σ)
 | .exp e,σ=>bnd (ev Γ e σ) λ_=>ok (.nx,σ)
 | .ife c a b,σ=>bnd (tv Γ c σ) λt=>if t then exs Γ a σ else exs Γ b σ
 | .for tg it body,σ=>bnd (evI Γ it σ) λw=>loop w.l (λx σ=>bnd (zaD tg x σ) λσ'=>exs Γ body σ') w.xs σ
 | .ret e,σ=>bnd (ev Γ e σ) λr=>ok (.ret r,σ)
 | .setD o k e,σ=>bnd (ev Γ e σ) λr=>bnd (ev Γ o σ) λx=>bnd (ev Γ k σ) λy=>bnd (fz r) λd=>bnd (kRd y) λk=>bnd (dSet x k d) λ_=>ok (.nx,σ)
 | .stuck,_=>λ_=>none
noncomputable def exs (Γ:Calls):List S->Env->M (Fl×Env)
 | [],σ=>ok (.nx,σ)
 | s::r,σ=>bnd (ex Γ s σ) λp=>match p.1 with
  | .nx=>exs Γ r p.2
  | _=>ok p
end
structure F where
 np:Nat
 ns:Nat
 body:List S
 keep:Bool
 dfl:List D
 all:Bool:=false
noncomputable def zaM (np:Nat) (dfl:List D) (rs:List R):List R:=if rs.length+dfl.length<np then rs else rs++(dfl.drop (rs.length+dfl.length-np)).map R.d
noncomputable def R.same:R->R->Bool
 | .d x,y=>match y with
  | .d z=>D.same x z
  | _=>false
 | .loc l,y=>match y with
  | .loc k=>l==k
  | _=>false
noncomputable def zcG:List (Str×R)->List (Str×R)->Bool
  | [],ys=>ys.isEmpty
  | (f,x)::r,ys=>match ys with
    | (g,y)::t=>f==g&&x.same y&&zcG r t
    | []=>false
noncomputable def objs:Sto->Sto->Bool
 | [],_=>true
 | o::h,h1=>match h1 with
  | []=>false
  | o1::t=>(match o,o1 with
   | .ins c fs,.ins c1 fs1=>c==c1&&zcG fs fs1
   | .ols a,.ols b=>a==b
   | .dic a,.dic b=>za2 a b
   | .dfr a,.dfr b=>za2 a b
   | .lst _,.lst _=>true
   | .lst _,.fro _=>true
   | .fro _,.lst _=>true
   | .fro _,.fro _=>true
   | _,_=>false)&&objs h t
noncomputable def fin0 (n0:Nat) (keep:Bool) (r:R) (h1:Sto):Option (R×Sto):=match r with
 | .d x=>some (.d x,h1.take n0)
 | .loc l=>if l<n0 then some (.loc l,h1.take n0) else match h1[l]? with
  | some (.lst xs)=>if keep then some (.loc n0,h1.take n0++[.lst xs]) else some (.d (.lst xs),h1.take n0)
  | some (.fro xs)=>some (.d (.lst xs),h1.take n0)
  | _=>none
noncomputable def fin (h:Sto) (all keep:Bool) (r:R) (h1:Sto):Option (R×Sto):=if all then some (r,h1) else if objs h h1 then fin0 h.length keep r h1 else none
noncomputable def zah (P:List F):Nat->Calls
 | 0,_,_=>λ_=>none
 | n + 1,f,rs=>λh=>match P[f]? with
  | some F=>if (zaM F.np F.dfl rs).length=F.np then match exs (zah P n) F.body ((zaM F.np F.dfl rs).map some++List.replicate (F.ns-F.np) none) h with
    | some ((.ret r,_),h1)=>fin h F.all F.keep r h1
    | some ((.nx,_),h1)=>fin h F.all F.keep (.d .non) h1
    | _=>none
   else none
  | none=>none
theorem zbh (P:List F) (n f:Nat) (rs:List R) (h:Sto):zah P (n+1) f rs h=match P[f]? with
  | some F=>if (zaM F.np F.dfl rs).length=F.np then match exs (zah P n) F.body ((zaM F.np F.dfl rs).map some++List.replicate (F.ns-F.np) none) h with
    | some ((.ret r,_),h1)=>fin h F.all F.keep r h1
    | some ((.nx,_),h1)=>fin h F.all F.keep (.d .non) h1
    | _=>none
   else none
  | none=>none:=rfl
end IT
namespace IT
open PySem
noncomputable def zaH (x:List Nat):Str:=⟨x.toArray⟩
theorem zcv (x:List Nat):(zaH x).length=x.length:=by simp [zaH,Str.length]
theorem zbD (h:zaH x=zaH y):x=y:=by
 have:=congrArg (λs:Str=>s.cps.toList) h
 simpa [zaH] using this
mutual
noncomputable def KAt (h:Heap):D->Value->Prop
 | .int i,u=>∃ t,u=.int i t
 | .str x,u=>∃ t,u=.str (zaH x) t
 | .tup xs,u=>∃ a its,u=.ref a/\h.IsTuple a its/\KAts h xs its.toList
 | .non,_=>False
 | .bl _,_=>False
 | .lst _,_=>False
noncomputable def KAts (h:Heap):List D->List Value->Prop
 | [],us=>us=[]
 | x::xs,us=>∃ u r,us=u::r/\KAt h x u/\KAts h xs r
end
mutual
noncomputable def zkV (w:World):D->Int
 | .int i=>hashInt i
 | .str x=>hashStr w (zaH x)
 | .tup xs=>reduceHash (Builtin.Tuple.tupleHashOf (kHashs w xs))
 | .non=>0
 | .bl _=>0
 | .lst _=>0
noncomputable def kHashs (w:World):List D->List Int
 | []=>[]
 | x::xs=>zkV w x::kHashs w xs
end
mutual
noncomputable def zgX:D->Nat
 | .tup xs=>kDrawss xs+1
 | .int _=>1
 | .str _=>1
 | .non=>1
 | .bl _=>1
 | .lst _=>1
noncomputable def kDrawss:List D->Nat
 | []=>0
 | x::xs=>zgX x+kDrawss xs
end
theorem zdL:∀ xs ys:List D,kDrawss (xs++ys)=kDrawss xs+kDrawss ys
 | [],ys=>by simp [kDrawss]
 | x::xs,ys=>by simp only [List.cons_append,kDrawss,zdL xs ys];omega
theorem zep (w:World):∀ xs ys:List D,kHashs w (xs++ys)=kHashs w xs++kHashs w ys
 | [],ys=>rfl
 | x::xs,ys=>by simp only [List.cons_append,kHashs,zep w xs ys]
mutual
theorem KAt.keep (k:∀ a its,h.IsTuple a its->h'.IsTuple a its):∀ (x:D) (u:Value),KAt h x u->KAt h' x u
 | .int _,_,q=>by simp only [KAt] at q ⊢;exact q
 | .str _,_,q=>by simp only [KAt] at q ⊢;exact q
 | .tup xs,_,q=>by
  simp only [KAt] at q ⊢
  obtain ⟨a,its,e,t,r⟩:=q
  exact ⟨a,its,e,k a its t,KAts.keep k xs _ r⟩
 | .non,_,q=>by simp only [KAt] at q
 | .bl _,_,q=>by simp only [KAt] at q
 | .lst _,_,q=>by simp only [KAt] at q
theorem KAts.keep (k:∀ a its,h.IsTuple a its->h'.IsTuple a its):∀ (x:List D) (u:List Value),KAts h x u->KAts h' x u
 | [],_,q=>by simp only [KAts] at q ⊢;exact q
 | x::xs,_,q=>by
  simp only [KAts] at q ⊢
  obtain ⟨u,r,e,q1,q2⟩:=q
  exact ⟨u,r,e,KAt.keep k x u q1,KAts.keep k xs r q2⟩
end
theorem zeF {h:Heap} (p:h.IsTuple a xs) (q:h.IsTuple a ys):xs=ys:=by
 obtain ⟨o,e,_,n,d⟩:=p
 obtain ⟨o',e',_,n',d'⟩:=q
 rw [e] at e';cases e';rw [d] at d';cases d';rfl
mutual
theorem KAt.inj {h:Heap}:∀ (x y:D) (u:Value),KAt h x u->KAt h y u->x=y
 | .int a,y,u,p,q=>by
  simp only [KAt] at p
  obtain ⟨t,rfl⟩:=p
  cases y<;>simp [KAt] at q
  rw [q]
 | .str a,y,u,p,q=>by
  simp only [KAt] at p
  obtain ⟨t,rfl⟩:=p
  cases y<;>simp [KAt] at q
  rw [zbD q]
 | .tup a,y,u,p,q=>by
  simp only [KAt] at p
  obtain ⟨c,its,rfl,t,r⟩:=p
  cases y with
  | tup b=>
   simp only [KAt] at q
   obtain ⟨c',its',e,t',r'⟩:=q
   cases e
   have:=zeF t t'
   subst this
   rw [KAts.inj a b _ r r']
  | _=>simp [KAt] at q
 | .non,_,_,p,_=>by simp only [KAt] at p
 | .bl _,_,_,p,_=>by simp only [KAt] at p
 | .lst _,_,_,p,_=>by simp only [KAt] at p
theorem KAts.inj:∀ (x y:List D) (u:List Value),KAts h x u->KAts h y u->x=y
 | [],[],_,_,_=>rfl
 | [],_::_,_,p,q=>by
  simp only [KAts] at p q
  subst p
  obtain ⟨_,_,e,_⟩:=q
  cases e
 | _::_,[],_,p,q=>by
  simp only [KAts] at p q
  subst q
  obtain ⟨_,_,e,_⟩:=p
  cases e
 | x::xs,y::ys,_,p,q=>by
  simp only [KAts] at p q
  obtain ⟨u,r,rfl,p1,p2⟩:=p
  obtain ⟨u',r',e,q1,q2⟩:=q
  cases e
  rw [KAt.inj x y u p1 q1,KAts.inj xs ys r p2 q2]
end
theorem KAts.length:∀ {x:List D} {u:List Value},KAts h x u->x.length=u.length
 | [],_,q=>by simp only [KAts] at q;subst q;rfl
 | x::xs,_,q=>by
  simp only [KAts] at q
  obtain ⟨u,r,rfl,_,q⟩:=q
  simp only [List.length_cons,KAts.length q]
theorem KAts.at:∀ {x:List D} {u:List Value},KAts h x u->∀ (j:Nat) (d:D),x[j]?=some d->∃ v,u[j]?=some v/\KAt h d v
 | [],_,_,j,d,e=>by simp at e
 | x::xs,_,q,j,d,e=>by
  simp only [KAts] at q
  obtain ⟨u,r,rfl,q1,q2⟩:=q
  cases j with
  | zero=>simp at e;subst e;exact ⟨u,rfl,q1⟩
  | succ j=>simp at e;simpa using KAts.at q2 j d e
theorem zhR:∀ {xs:List D} {x:D} {i:Nat},xs[i]?=some x->x.dep<=D.deps xs
 | [],x,i,e=>by simp at e
 | y::xs,x,i,e=>by
  cases i with
  | zero=>simp at e;subst e;simp only [D.deps];omega
  | succ i=>simp at e;have:=zhR e;simp only [D.deps];omega
noncomputable def zdA (xs ys:List D) (j:Nat):Bool:=match xs[j]?,ys[j]? with
 | some x,some y=>x.same y
 | _,_=>false
theorem zge:∀ xs ys:List D,((List.range (min xs.length ys.length)).all (zdA xs ys)&&xs.length==ys.length)=D.sames xs ys
 | [],[]=>rfl
 | [],_::_=>by simp [D.sames]
 | _::_,[]=>by simp [D.sames]
 | x::xs,y::ys=>by
  have ih:=zge xs ys
  have e:min (x::xs).length (y::ys).length=min xs.length ys.length+1:=by simp only [List.length_cons];omega
  rw [e,List.range_succ_eq_map,List.all_cons,List.all_map,D.sames,<-ih]
  have e2:(zdA (x::xs) (y::ys)∘Nat.succ)=zdA xs ys:=by funext j;rfl
  rw [e2]
  show (x.same y&&_&&_)=_
  rw [Bool.and_assoc]
  congr 2
  simp
theorem zfc {x y:D} (h:x≠y):x.same y=false:=by
 cases e:x.same y
 ·rfl
 ·exact absurd (D.same_eq x y e) h
open SeqAt in
theorem kEq {s:Shared}:∀ (n:Nat) (x y:D) (A:Around) (u v:Value),x.dep<=n->KAt s.heap x u->KAt s.heap y v->A.units+n<cLine->EqAt A s u v (x.same y)
 | n,.int a,y,A,u,v,hn,p,q,hu=>by
  simp only [KAt] at p
  obtain ⟨t,rfl⟩:=p
  cases y with
  | int b=>simp only [KAt] at q;obtain ⟨t',rfl⟩:=q;exact EqAt.int_int a t b t'
  | str b=>simp only [KAt] at q;obtain ⟨t',rfl⟩:=q;exact EqAt.int_str a t _ t'
  | tup b=>simp only [KAt] at q;obtain ⟨c,its,rfl,t',_⟩:=q;exact EqAt.int_tuple a t t' (by omega)
  | _=>simp [KAt] at q
 | n, .str a,y,A,u,v,hn,p,q,hu=>by
  simp only [KAt] at p
  obtain ⟨t,rfl⟩:=p
  cases y with
  | int b=>simp only [KAt] at q;obtain ⟨t',rfl⟩:=q;exact EqAt.str_int _ t b t'
  | str b=>
   simp only [KAt] at q;obtain ⟨t',rfl⟩:=q
   have z:=EqAt.str_str (A:=A) (s:=s) (zaH a) t (zaH b) t'
   have e:(zaH a==zaH b)=(D.str a).same (D.str b):=by
    show _=(a==b)
    by_cases h:a=b
    ·subst h;simp
    ·rw [beq_eq_false_iff_ne.mpr h,beq_eq_false_iff_ne.mpr λz=>h (zbD z)]
   rw [e] at z
   exact z
  | tup b=>simp only [KAt] at q;obtain ⟨c,its,rfl,t',_⟩:=q;exact EqAt.str_tuple _ t t' (by omega)
  | _=>simp [KAt] at q
 | n, .tup a,y,A,u,v,hn,p,q,hu=>by
  simp only [KAt] at p
  obtain ⟨c,its,rfl,t,r⟩:=p
  cases y with
  | int b=>simp only [KAt] at q;obtain ⟨t',rfl⟩:=q;exact EqAt.tuple_int b t' t (by omega)
  | str b=>simp only [KAt] at q;obtain ⟨t',rfl⟩:=q;exact EqAt.tuple_str _ t' t (by omega)
  | tup b=>
   simp only [KAt] at q
   obtain ⟨c',its',rfl,t',r'⟩:=q
   by_cases hc:c=c'
   ·subst hc
    have e1:=zeF t t'
    subst e1
    have e2:=KAts.inj a b _ r r'
    subst e2
    exact (show D.same (.tup a) (.tup a)=true from D.same_refl _)▸EqAt.same _
   ·refine EqAt.of_refs hc ?_
    match n,hn with
    | 0,hn=>simp only [D.dep] at hn;omega
    | n + 1,hn=>
     have l1:=r.length
     have l2:=r'.length
     have z:=RcAt.tuples (A:=A) (e:=zdA a b) t t' (by omega) (λj h1 h2=>by
      have j1:j<a.length:=by rw [l1];simpa using h1
      have j2:j<b.length:=by rw [l2];simpa using h2
      obtain ⟨w,e3,k3⟩:=r.at j _ (List.getElem?_eq_getElem j1)
      obtain ⟨w',e4,k4⟩:=r'.at j _ (List.getElem?_eq_getElem j2)
      have hd:=zhR (List.getElem?_eq_getElem j1)
      have ih:=kEq n (a[j]) (b[j]) A.in1 w w' (by simp only [D.dep] at hn;omega) k3 k4 (by show A.units+1+n<cLine;omega)
      have e5:zdA a b j=(a[j]).same (b[j]):=by simp [zdA,List.getElem?_eq_getElem j1,List.getElem?_eq_getElem j2]
      rw [e5]
      have e6:its[j]=w:=by
       have:=List.getElem?_eq_some_iff.mp e3
       obtain ⟨_,e⟩:=this
       simpa using e
      have e7:its'[j]=w':=by
       obtain ⟨_,e⟩:=List.getElem?_eq_some_iff.mp e4
       simpa using e
      rw [e6,e7]
      exact ih)
     have e8:((List.range (min its.size its'.size)).all (zdA a b)&&its.size==its'.size)=D.sames a b:=by
      rw [<-zge,l1,l2]
      simp
     rw [e8] at z
     exact z
  | _=>simp [KAt] at q
 | _,.non,_,_,_,_,_,p,_,_=>by simp only [KAt] at p
 | _,.bl _,_,_,_,_,_,p,_,_=>by simp only [KAt] at p
 | _,.lst _,_,_,_,_,_,p,_,_=>by simp only [KAt] at p
theorem zbO {s:Shared} (t:s.heap.IsTuple a its):s.TypeIs (.ref a) "tuple":=let ⟨o,e,c,_⟩:=t;⟨o,e,c⟩
section
variable {prog:Program} {w:World} {E:Value->Shared->Prop}
theorem ziB:∀ (n:Nat) (x:D) (A:Around) (s:Shared) (u:Value) (Q:Int->Shared->Prop),x.dep<=n->KAt s.heap x u->A.units+n<cLine->Q (zkV w x) { s with toks:=s.toks+zgX x } →
  wpAny (model prog w) A (pyHash u) Q E s
 | n,.int a,A,s,u,Q,hn,p,hu,q=>by
  simp only [KAt] at p
  obtain ⟨t,rfl⟩:=p
  exact wpAny_pyHash_int q
 | n,.str a,A,s,u,Q,hn,p,hu,q=>by
  simp only [KAt] at p
  obtain ⟨t,rfl⟩:=p
  exact wpAny_pyHash_str q
 | 0,.tup a,A,s,u,Q,hn,p,hu,q=>by simp only [D.dep] at hn;omega
 | n + 1,.tup a,A,s,u,Q,hn,p,hu,q=>by
  simp only [KAt] at p
  obtain ⟨c,its,rfl,t,r⟩:=p
  have T:=zbO t
  obtain ⟨o,ho,_,m,hd⟩:=t
  have hdep:D.deps a<=n:=by simp only [D.dep] at hn;omega
  unfold pyHash
  first | unfold pyHashByItsType | skip
  first | refine wpAny_bind (wpAny_cRoomFor_or (.inr (show A.units<cLine by omega)) ?_) | skip
  refine wpAny_bind (wpAny_specialOf T F.slot_tuple_hash.lookup ?_)
  show wpAny _ _ (if (some (Value.builtin "tuple.__hash__")==some Value.none)=true then _ else _) Q E _
  rw [if_neg (by rw [beq_builtin_none];exact Bool.false_ne_true)]
  refine wpAny_bind (wpAny_specialOf T F.slot_tuple_hash.lookup ?_)
  show wpAny _ _ (callSpecialIfBoundUnlessNone? (.ref c) "__hash__" _ >>= _) Q E _
  refine wpAny_bind (wpAny_callSpecialIfBoundUnlessNone?_slot T F.slot_tuple_hash (wpAny_call_entry F.slot_tuple_hash T F.entry_tuple_hash ?_ (F.args_tuple_hash_1 _)))
  show wpAny _ A.in1 (Builtin.Tuple.tupleItemsOf (.ref c) >>= _) _ _ _
  refine wpAny_bind (wpAny_tupleItemsOf ho hd (wpAny_bind ?_))
  rw [<-Array.forIn_toList]
  refine wpAny_forIn_list _ (λrest (b:Array Int) s1=>∃ done left,a=done++left/\KAts s.heap left rest/\b.toList=kHashs w done/\s1={ s with toks:=s.toks+kDrawss done }) _ ?_ ?_ _ _ ⟨[],a,rfl,r,rfl,rfl⟩
  ·rintro v rest b s1 ⟨done,left,rfl,hl,hb,rfl⟩
   cases left with
   | nil=>simp only [KAts] at hl;cases hl
   | cons k ks=>
    simp only [KAts] at hl
    obtain ⟨v',rest',ez,k1,k2⟩:=hl
    cases ez
    have hk:k.dep<=n:=by
     have:=zhR (xs:=done++k::ks) (x:=k) (i:=done.length) (by simp)
     omega
    refine wpAny_bind (ziB n k A.in1 _ v _ hk k1 (by show A.units+1+n<cLine;omega) ?_)
    have fin:∃ d2 l2,done++k::ks=d2++l2/\KAts s.heap l2 rest/\(b.push (zkV w k)).toList=kHashs w d2/\({ s with toks:=s.toks+kDrawss done+zgX k }:Shared)={ s with toks:=s.toks+kDrawss d2 }:=
     ⟨done++[k],ks,by simp,k2,by simp [hb,zep,kHashs],by simp [zdL,kDrawss,Nat.add_assoc]⟩
    first | exact wpAny_pure fin | exact wpAny_bind (wpAny_pure (wpAny_pure fin))
  ·rintro b s1 ⟨done,left,rfl,hl,hb,rfl⟩
   cases left with
   | cons k ks=>simp only [KAts] at hl;obtain ⟨_,_,ez,_⟩:=hl;cases ez
   | nil=>
    rw [List.append_nil] at q
    show wpAny _ _ (retInt (Builtin.Tuple.tupleHashOf b.toList)) _ _ _
    rw [hb]
    refine wpAny_ret_mkInt ?_
    have q2:Q (reduceHash (Builtin.Tuple.tupleHashOf (kHashs w done))) { s with toks:=s.toks+(kDrawss done+1) }:=by
     simp only [zkV,zgX] at q;exact q
    clear q
    unfold reduceHash at q2
    generalize Builtin.Tuple.tupleHashOf (kHashs w done)=z at q2 ⊢
    show wpAny _ _ (if (decide (-(2:Int) ^ 63<=z)&&decide (z<2 ^ 63))=true then _ else _) Q E _
    by_cases hr:(decide (-(2:Int) ^ 63<=z)&&decide (z<2 ^ 63))=true
    ·rw [if_pos hr] at q2 ⊢
     exact wpAny_pure (by simpa [Nat.add_assoc] using q2)
    ·rw [if_neg hr] at q2 ⊢
     exact wpAny_bind (wpAny_rule (wpAny_pure (by simpa [Nat.add_assoc] using q2)))
 | _,.non,_,_,_,_,_,p,_,_=>by simp only [KAt] at p
 | _,.bl _,_,_,_,_,_,p,_,_=>by simp only [KAt] at p
 | _,.lst _,_,_,_,_,_,p,_,_=>by simp only [KAt] at p
theorem zog:∀ (n:Nat) (x:D) (A:Around) (s:Shared) (u:Value) (Q:Bool->Shared->Prop),x.dep<=n->KAt s.heap x u->Q true s->wpAny (model prog w) A (eqIsQuiet n u) Q E s
 | n,.int a,A,s,u,Q,hn,p,q=>by
  simp only [KAt] at p
  obtain ⟨t,rfl⟩:=p
  rw [eqIsQuiet_byValue n rfl]
  exact wpAny_pure q
 | n,.str a,A,s,u,Q,hn,p,q=>by
  simp only [KAt] at p
  obtain ⟨t,rfl⟩:=p
  rw [eqIsQuiet_byValue n rfl]
  exact wpAny_pure q
 | 0,.tup a,A,s,u,Q,hn,p,q=>by simp only [D.dep] at hn;omega
 | n + 1,.tup a,A,s,u,Q,hn,p,q=>by
  simp only [KAt] at p
  obtain ⟨c,its,rfl,t,r⟩:=p
  have T:=zbO t
  obtain ⟨o,ho,_,m,hd⟩:=t
  have hdep:D.deps a<=n:=by simp only [D.dep] at hn;omega
  unfold eqIsQuiet
  refine wpAny_bind (wpAny_specialOf T F.slot_tuple_eq.lookup ?_)
  show wpAny _ _ (isInstance (.ref c) (.type "tuple") >>= _) _ _ _
  refine wpAny_bind (wpAny_isInstance T isSubtype_tuple_tuple ?_)
  simp only [Bool.not_true,Bool.false_eq_true,if_false]
  refine wpAny_bind (wpAny_seqItems ho hd (wpAny_bind ?_))
  show wpAny _ _ (forIn its _ _) _ _ _
  rw [<-Array.forIn_toList]
  refine wpAny_forIn_list _ (λrest r s1=>r.1=none/\s1=s/\∃ left,D.deps left<=n/\KAts s.heap left rest) _ ?_ ?_ _ _ ⟨rfl,rfl,a,hdep,r⟩
  ·rintro v rest r s1 ⟨hr,rfl,left,hl,hk⟩
   cases left with
   | nil=>simp only [KAts] at hk;cases hk
   | cons k ks=>
    simp only [KAts] at hk
    obtain ⟨v',rest',ez,k1,k2⟩:=hk
    cases ez
    simp only [D.deps] at hl
    refine wpAny_bind (zog n k A _ v _ (by omega) k1 ?_)
    simp only [Bool.not_true,Bool.false_eq_true,if_false]
    exact wpAny_pure ⟨rfl,rfl,ks,by omega,k2⟩
  ·rintro ⟨r1,r2⟩ s1 ⟨hr,rfl,_⟩
   simp only at hr
   subst hr
   exact wpAny_pure q
 | _,.non,_,_,_,_,_,p,_=>by simp only [KAt] at p
 | _,.bl _,_,_,_,_,_,p,_=>by simp only [KAt] at p
 | _,.lst _,_,_,_,_,_,p,_=>by simp only [KAt] at p
end
noncomputable instance:DecidableEq D:=λx y=>if h:x.same y=true then isTrue (D.same_eq x y h) else isFalse λe=>h (e▸D.same_refl x)
theorem zb4 (x y:D):x.same y=decide (x=y):=by
 by_cases h:x=y
 ·subst h;rw [D.same_refl,decide_eq_true rfl]
 ·rw [zfc h,decide_eq_false h]
theorem zmo (ho:h.get? d=some o) (hd:o.data=.dict es ep) (hs:Heap.SameBut d h h') (a:Addr) (its:Array Value) (t:h.IsTuple a its):h'.IsTuple a its:=by
 obtain ⟨o',e,c,n,dt⟩:=t
 have ne:a≠d:=by
  rintro rfl
  rw [ho] at e;cases e
  rw [hd] at dt;cases dt
 exact ⟨o',(hs.2 a ne).trans e,c,n,dt⟩
noncomputable def dKind (prog:Program) (w:World):HeapKind prog w D where
 is:=λh x a=>x.dep<=8/\KAt h x (.ref a)
 hash:=zkV w
 draws:=zgX
 room:=λA=>A.units+8<cLine
 inj:=λhx hy=>KAt.inj _ _ _ hx.2 hy.2
 keeps:=λx ho hd hs=>⟨x.1,KAt.keep (zmo ho hd hs) _ _ x.2⟩
 pyHash:=λhu hk q=>ziB 8 _ _ _ _ _ hk.1 hk.2 hu q
 eqBool:=λhu hx hy q=>kEq 8 _ _ _ _ _ hx.1 hx.2 hy.2 hu _ _ _ _ (by rw [zb4];exact q)
 quiet:=λhk q=>zog 8 _ _ _ _ _ hk.1 hk.2 q
end IT
namespace L2
open PySem PySem.Spec PyProof.Rows
noncomputable abbrev Key:=Sum Int Str
noncomputable def zrn:Key->Value->Bool
 | .inl k,v=>Value.isInt k v
 | .inr x,v=>Value.isStrOf x v
noncomputable def keyH (w:World):Key->Int
 | .inl k=>hashInt k
 | .inr x=>hashStr w x
theorem zaB:∀ {k:Key} {v:Value},zrn k v=true->(∃ i t,k=Sum.inl i/\v=Value.int i t)\/(∃ x t,k=Sum.inr x/\v=Value.str x t)
 | .inl i,v,h=>by
  obtain ⟨t,e⟩:=Value.isInt_shape (k:=i) (v:=v) h
  exact .inl ⟨i,t,rfl,e⟩
 | .inr x,v,h=>by
  obtain ⟨t,e⟩:=Value.isStrOf_shape (x:=x) (v:=v) h
  exact .inr ⟨x,t,rfl,e⟩
theorem zrs (a b:Int):decide ((Sum.inl a:Key)=Sum.inl b)=(a==b):=by
 by_cases e:a=b
 ·subst e;simp
 ·have h:¬ (Sum.inl a:Key)=Sum.inl b:=λq=>e (Sum.inl.inj q)
  rw [decide_eq_false h]
  exact (beq_eq_false_iff_ne.mpr e).symm
theorem zrl (a b:Str):decide ((Sum.inr a:Key)=Sum.inr b)=decide (a=b):=by
 by_cases e:a=b
 ·subst e;simp
 ·have h:¬ (Sum.inr a:Key)=Sum.inr b:=λq=>e (Sum.inr.inj q)
  rw [decide_eq_false h,decide_eq_false e]
theorem zrN (a:Int) (b:Str):decide ((Sum.inl a:Key)=Sum.inr b)=false:=decide_eq_false (λq=>nomatch q)
theorem zs0 (a:Str) (b:Int):decide ((Sum.inr a:Key)=Sum.inl b)=false:=decide_eq_false (λq=>nomatch q)
noncomputable def zlj (prog:Program) (w:World):PySem.KeyKind prog w Key where
 is:=zrn
 hash:=keyH w
 inj:=λv a b ha hb=>by
  rcases zaB ha with ⟨i,t,rfl,rfl⟩ | ⟨x,t,rfl,rfl⟩
  ·rcases zaB hb with ⟨j,u,rfl,e⟩ | ⟨y,u,rfl,e⟩
   ·injection e with e1 _;rw [e1]
   ·exact nomatch e
  ·rcases zaB hb with ⟨j,u,rfl,e⟩ | ⟨y,u,rfl,e⟩
   ·exact nomatch e
   ·injection e with e1 _;rw [e1]
 byValue:=λk v h=>by
  rcases zaB h with ⟨i,t,rfl,rfl⟩ | ⟨x,t,rfl,rfl⟩<;>rfl
 pyHash:=λhv h=>by
  rcases zaB hv with ⟨i,t,rfl,rfl⟩ | ⟨x,t,rfl,rfl⟩
  ·exact wpAny_pyHash_int h
  ·exact wpAny_pyHash_str h
 eqBool:=λhu hv h=>by
  rcases zaB hu with ⟨i,t,rfl,rfl⟩ | ⟨x,t,rfl,rfl⟩
  ·rcases zaB hv with ⟨j,u,rfl,rfl⟩ | ⟨y,u,rfl,rfl⟩
   ·rw [zrs] at h;exact wpAny_eqBool_int h
   ·rw [zrN] at h;exact SeqAt.EqAt.int_str i t y u _ _ _ _ h
  ·rcases zaB hv with ⟨j,u,rfl,rfl⟩ | ⟨y,u,rfl,rfl⟩
   ·rw [zs0] at h;exact SeqAt.EqAt.str_int x t j u _ _ _ _ h
   ·rw [zrl] at h;exact wpAny_eqBool_str h
 «strs»:=λk x t v h=>by
  rcases zaB h with ⟨i,u,rfl,e⟩ | ⟨y,u,rfl,e⟩
  ·exact nomatch e
  ·injection e with e1 _
   subst e1
   cases v<;>rfl
inductive V where
 | non | bl (b:Bool) | int (i:Int) | str (x:Str) | byt (b:Array UInt8) | flt (b:UInt64) | ref (a:Addr) | ty (n:String)
 deriving DecidableEq
noncomputable def RelV:V->Value->Prop
 | .non,u=>u=Value.none
 | .bl b,u=>u=Value.bool b
 | .int i,u=>∃ t,u=Value.int i t
 | .str x,u=>∃ t,u=Value.str x t
 | .byt b,u=>∃ t,u=Value.bytes b t
 | .flt b,u=>∃ t,u=Value.float b t
 | .ref a,u=>u=Value.ref a
 | .ty n,u=>u=Value.type n
noncomputable abbrev Vals:List V->List Value->Prop:=Paired RelV
theorem Vals.length {xs:List V} {us:List Value} (r:Vals xs us):xs.length=us.length:=Paired.length r
theorem Vals.get {xs:List V} {us:List Value} {i:Nat} {x:V} (h:Vals xs us) (e:xs[i]?=some x):∃ u,us[i]?=some u/\RelV x u:=by
 induction h generalizing i with
 | nil=>cases e
 | cons r t ih=>cases i with
  | zero=>cases e;exact ⟨_,rfl,r⟩
  | succ i=>exact ih (i:=i) e
theorem Vals.set {x:V} {u:Value} (r:RelV x u):∀ {xs:List V} {us:List Value} (i:Nat),Vals xs us->Vals (xs.set i x) (us.set i u)
 | _,_,_,.nil=>.nil
 | _,_,0,.cons _ t=>.cons r t
 | _,_,i+1,.cons q t=>.cons q (Vals.set r i t)
theorem Vals.append {xs ys:List V} {us ws:List Value} (h:Vals xs us) (s:Vals ys ws):Vals (xs++ys) (us++ws):=by
 induction h with
 | nil=>exact s
 | cons r t ih=>exact .cons r ih
theorem Vals.take:∀ {xs:List V} {us:List Value} (n:Nat),Vals xs us->Vals (xs.take n) (us.take n)
 | _,_,0,_=>.nil
 | _,_,_+1,.nil=>.nil
 | _,_,n+1,.cons r t=>.cons r (Vals.take n t)
theorem Vals.drop:∀ {xs:List V} {us:List Value} (n:Nat),Vals xs us->Vals (xs.drop n) (us.drop n)
 | _,_,0,r=>r
 | _,_,_+1,.nil=>.nil
 | _,_,n+1,.cons _ t=>Vals.drop n t
noncomputable def RelO:Option V->Option Value->Prop
 | some v,some u=>RelV v u
 | none,none=>True
 | _,_=>False
noncomputable def KV {κ:Type}:List (κ×V)->List (κ×Value)->Prop:=Paired λ(p:κ×V) (q:κ×Value)=>p.1=q.1/\RelV p.2 q.2
noncomputable def kV:Key->V
 | .inl i=>.int i
 | .inr x=>.str x
inductive HO where
 | lst (xs:List V)
 | tup (xs:List V)
 | dK (kvs:List (Key×V)) | dT (kvs:List (IT.D×Addr×V))
 | set (S:Int->Bool) (n:Nat)
 | ins (C dx:Addr) (fs:List (Str×V))
 | own (x:Addr)
 | xd (fs:List (Str×V))
 | met (f x:Addr)
 | rng (lo hi:Int)
 | frz (o:Obj) (u:HO)
 | tbl (ps:Array Value)
 | ext (φ:Heap->Prop)
noncomputable abbrev Hp:=Addr->Option HO
noncomputable def upd (H:Hp) (a:Addr) (o:HO):Hp:=λb=>if b=a then some o else H b
theorem zaj {H:Hp} {a:Addr} {o:HO}:upd H a o a=some o:=by unfold upd;rw [if_pos rfl]
theorem zak {H:Hp} {a b:Addr} {o:HO} (h:b≠a):upd H a o b=H b:=by unfold upd;rw [if_neg h]
theorem zap {H:Hp} {a b:Addr} {o:HO} (h:H a=some o) (h':H b=none):a≠b:=by
 intro e;subst e;rw [h] at h';cases h'
section
variable (P:Program) (w:World)
noncomputable def zcw (h:Heap) (a:Addr) (items:Array Value):Prop:=IsTup h a items/\∀ o,h.get? a=some o->o.dict=none
theorem zcw.new (h:Heap) (items:Array Value):zcw (h.push { cls:=.type "tuple",data:=.seq items }) h.objs.size items:=⟨IsTup.new h items,λo e=>by rw [Heap.get?_push_size _ rfl] at e;cases e;rfl⟩
noncomputable def zba (H:Hp) (h:Heap) (a:Addr):HO->Prop
 | .lst xs=>xs.length<=sizeLine/\∃ (its:List Value) (n:Nat),Vals xs its/\h.get? a=some { cls:=.type "list",data:=.seq its.toArray n }
 | .tup xs=>xs.length<=sizeLine/\∃ its:List Value,Vals xs its/\zcw h a its.toArray
 | .dK kvs=>kvs.length<=sizeLine/\(a==sysModules)=false/\∃ vs,KV kvs vs/\h.DictOf (zlj P w) a vs
 | .dT kvs=>kvs.length<=sizeLine/\(a==sysModules)=false/\∃ xs:List (IT.D×Addr×Value),Paired (λ(p:IT.D×Addr×V) (q:IT.D×Addr×Value)=>p.1=q.1/\p.2.1=q.2.1/\RelV p.2.2 q.2.2) kvs xs ∧
   ∃ o es ep,h.get? a=some o/\o.ExactDict/\o.data=.dict es ep/\es.toList=xs.map (entryOfKey (IT.dKind P w))/\(xs.map (·.1)).Nodup
 | .set S n=>h.SetOf (intKind P w) a S n
 | .ins C dx fs=>H dx=some (.own a)/\fs.length<=1000/\dx≠a/\h.get? a=some (PySem.W.instObj C dx) ∧
   ∃ mA,h.Ns1 dx mA/\(∀ f,RelO (fs.lookup f) (mA f))/\PySem.Within mA (fs.map (·.1))
 | .own _=>∃ o,h.get? a=some o
 | .xd fs=>∃ mA,h.Ns1 a mA/\∀ f,RelO (fs.lookup f) (mA f)
 | .rng lo hi=>∃ t u v,h.get? a=some { cls:=.type "range",data:=.fields #[.int lo t,.int hi u,.int 1 v] }
 | .frz o u=>h.get? a=some o/\zba H h a u
 | .tbl ps=>h.get? a=some { cls:=.none,data:=.fields ps }
 | .met f x=>h.get? a=some (PySem.W.methodObj (.ref f) (.ref x))
 | .ext φ=>φ h/\(∃ o,h.get? a=some o)/\∀ h1 h2:Heap,φ h1->(∀ o,h1.get? a=some o->h2.get? a=some o)->φ h2
noncomputable def HOk (H:Hp) (h:Heap):Prop:=∀ a o,H a=some o->zba P w H h a o
end
section
variable {P:Program} {w:World} {H H':Hp} {h h':Heap} {a:Addr} {o:HO}
theorem zba.lt (x:zba P w H h a o):a<h.objs.size:=by
 cases o with
 | lst xs=>obtain ⟨_,_,_,_,e⟩:=x;exact Heap.lt_size e
 | tup xs=>obtain ⟨_,_,_,p⟩:=x;exact p.1.lt
 | dK kvs=>obtain ⟨_,_,_,_,o,_,_,e,_⟩:=x;exact Heap.lt_size e
 | dT kvs=>obtain ⟨_,_,_,_,o,_,_,e,_⟩:=x;exact Heap.lt_size e
 | set S n=>obtain ⟨o,_,_,_,e,_⟩:=x;exact Heap.lt_size e
 | ins C dx fs=>obtain ⟨_,_,_,e,_⟩:=x;exact Heap.lt_size e
 | own y=>obtain ⟨_,e⟩:=x;exact Heap.lt_size e
 | xd fs=>obtain ⟨_,⟨_,_,_,e,_⟩,_⟩:=x;exact Heap.lt_size e
 | rng lo hi=>obtain ⟨_,_,_,e⟩:=x;exact Heap.lt_size e
 | frz ob u=>obtain ⟨e,_⟩:=x;exact Heap.lt_size e
 | tbl ps=>exact Heap.lt_size (show h.get? a=some _ from x)
 | met f y=>exact Heap.lt_size (show h.get? a=some _ from x)
 | ext φ=>obtain ⟨_,⟨_,e⟩,_⟩:=x;exact Heap.lt_size e
theorem Paired.mapP {α β:Type} {F G:α->β->Prop} {l₁:List α} {l₂:List β} (h:Paired F l₁ l₂) (f:∀ a b,F a b->G a b):Paired G l₁ l₂:=by
 induction h with
 | nil=>exact .nil
 | cons r t ih=>exact .cons (f _ _ r) ih
theorem zba.stay (x:zba P w H h a o) (k:∀ b u,(b=a\/H b=some (.own a))->h.get? b=some u->h'.get? b=some u)
  (ho:∀ b,H b=some (.own a)->H' b=some (.own a)) (ht:∀ b xs,H b=some (.tup xs)->H' b=some (.tup xs)):zba P w H' h' a o:=by
 induction o with
 | lst xs=>obtain ⟨z,its,n,r,e⟩:=x;exact ⟨z,its,n,r,k _ _ (.inl rfl) e⟩
 | tup xs=>obtain ⟨z,its,r,⟨ob,e,c⟩,dd⟩:=x;exact ⟨z,its,r,⟨ob,k _ _ (.inl rfl) e,c⟩,λo2 e2=>by rw [k _ _ (.inl rfl) e] at e2;cases e2;exact dd _ e⟩
 | dK kvs=>obtain ⟨z,y,vs,r,ob,es,ep,e,c⟩:=x;exact ⟨z,y,vs,r,ob,es,ep,k _ _ (.inl rfl) e,c⟩
 | dT kvs=>
  obtain ⟨z,y,xs,r,ob,es,ep,e,c⟩:=x
  exact ⟨z,y,xs,r,ob,es,ep,k _ _ (.inl rfl) e,c⟩
 | set S n=>obtain ⟨ob,es,ep,t,e,c⟩:=x;exact ⟨ob,es,ep,t,k _ _ (.inl rfl) e,c⟩
 | ins C dx fs=>
  obtain ⟨d,z,ne,e,mA,⟨od,es,ep,e2,c⟩,r⟩:=x
  exact ⟨ho _ d,z,ne,k _ _ (.inl rfl) e,mA,⟨od,es,ep,k _ _ (.inr d) e2,c⟩,r⟩
 | own y=>obtain ⟨ob,e⟩:=x;exact ⟨ob,k _ _ (.inl rfl) e⟩
 | xd fs=>obtain ⟨mA,⟨od,es,ep,e,c⟩,r⟩:=x;exact ⟨mA,⟨od,es,ep,k _ _ (.inl rfl) e,c⟩,r⟩
 | rng lo hi=>obtain ⟨t,u,v,e⟩:=x;exact ⟨t,u,v,k _ _ (.inl rfl) e⟩
 | frz ob u ih=>obtain ⟨e,q⟩:=x;exact ⟨k _ _ (.inl rfl) e,ih q⟩
 | tbl ps=>
  have e:h.get? a=some { cls:=.none,data:=.fields ps }:=x
  show h'.get? a=some { cls:=.none,data:=.fields ps }
  exact k a _ (.inl rfl) e
 | met f y=>
  have e:h.get? a=some (PySem.W.methodObj (.ref f) (.ref y)):=x
  show h'.get? a=some (PySem.W.methodObj (.ref f) (.ref y))
  exact k a _ (.inl rfl) e
 | ext φ=>obtain ⟨p,⟨o,e⟩,st⟩:=x;exact ⟨st _ _ p λo q=>k _ _ (.inl rfl) q,⟨o,k _ _ (.inl rfl) e⟩,st⟩
theorem HOk.lt (x:HOk P w H h) (e:H a=some o):a<h.objs.size:=(x a o e).lt
theorem HOk.fresh (x:HOk P w H h) (e:h.objs.size<=a):H a=none:=by
 cases q:H a with
 | none=>rfl
 | some u=>exact absurd (Nat.lt_of_lt_of_le (x.lt q) e) (Nat.lt_irrefl _)
theorem HOk.kept (x:HOk P w H h) (k:∀ b u,h.get? b=some u->h'.get? b=some u):HOk P w H h':=λa o e=>
 (x a o e).stay (λb u _ q=>k b u q) (λ_ q=>q) λ_ _ q=>q
theorem HOk.laid (x:HOk P w H h) (k:∀ b u,h.get? b=some u->h'.get? b=some u) (hp:h.objs.size<=a) (new:zba P w (upd H a o) h' a o):HOk P w (upd H a o) h':=λb u e=>by
 have hn:=x.fresh hp
 by_cases hb:b=a
 ·subst hb;rw [zaj] at e;cases e;exact new
 ·rw [zak hb] at e
  exact (x b u e).stay (λc v _ q=>k c v q) (λc q=>by rw [zak (zap q hn)];exact q) λc xs q=>by rw [zak (zap q hn)];exact q
end
noncomputable def Rd (H:Hp) (a:Addr) (u:HO):Prop:=H a=some u\/∃ o,H a=some (.frz o u)
theorem Rd.ok {P:Program} {w:World} {H:Hp} {h:Heap} {a:Addr} {u:HO} (r:Rd H a u) (x:HOk P w H h):zba P w H h a u:=by
 rcases r with r | ⟨o,r⟩
 ·exact x a u r
 ·obtain ⟨_,q⟩:=x a _ r
  exact q
noncomputable def Mut:Option HO->Prop
 | some (.lst _)=>True
 | some (.dK _)=>True
 | some (.dT _)=>True
 | some (.set _ _)=>True
 | some (.ins _ _ _)=>True
 | some (.ext _)=>True
 | _=>False
section
variable {P:Program} {w:World} {H:Hp} {h h':Heap} {x e:Addr} {o':HO}
theorem HOk.write (ok:HOk P w H h) (mu:Mut (H x)) (he:e=x\/H e=some (.own x)) (k:∀ b u,b≠e->h.get? b=some u->h'.get? b=some u) (heo:∃ u,h'.get? e=some u)
  (new:zba P w (upd H x o') h' x o'):HOk P w (upd H x o') h':=λb u q=>by
 have nown:∀ c y,H c=some (.own y)->c≠x:=λc y r z=>by subst z;rw [r] at mu;exact mu
 have ntup:∀ c xs,H c=some (.tup xs)->c≠x:=λc xs r z=>by subst z;rw [r] at mu;exact mu
 by_cases hb:b=x
 ·subst hb;rw [zaj] at q;cases q;exact new
 ·rw [zak hb] at q
  by_cases hbe:b=e
  ·have q':H b=some (.own x):=by
    rcases he with z | z
    ·exact absurd (hbe.trans z) hb
    ·rw [hbe];exact z
   rw [q] at q';cases q'
   obtain ⟨v,hv⟩:=heo
   exact ⟨v,by rw [hbe];exact hv⟩
  ·refine (ok b u q).stay (λc v hc r=>k c v ?_ r) (λc r=>by rw [zak (nown c b r)];exact r) λc xs r=>by rw [zak (ntup c xs r)];exact r
   rcases hc with rfl | hc
   ·exact hbe
   ·rintro rfl
    rcases he with z | z
    ·exact nown c b hc z
    ·rw [hc] at z;cases z;exact hb rfl
end
structure Un (fs ex:List Addr) (H H':Hp) (h h':Heap):Prop where
 keep:∀ b o,h.get? b=some o->H b=none->b ∉ fs->b ∉ ex->h'.get? b=some o
 slot:∀ b o,h.get? b=some o->H b=none->b∈fs->b ∉ ex->∃ sl,h'.get? b=some { o with slots:=sl }
 free:∀ b o,h.get? b=some o->H b=none->b ∉ ex->H' b=none
 there:∀ b o,h.get? b=some o->b ∉ ex->∃ o',h'.get? b=some o'
 tups:∀ b xs,H b=some (.tup xs)->H' b=some (.tup xs)
 frzs:∀ b o u,H b=some (.frz o u)->H' b=some (.frz o u)
 tbls:∀ b ps,H b=some (.tbl ps)->∃ more,H' b=some (.tbl (ps++more))
section
variable {fs fs' ex ex':List Addr} {H H1 H2:Hp} {h h1 h2 h':Heap} {a x e:Addr} {o:HO}
theorem Un.any (u:Un fs ex H H1 h h1) {b:Addr} {ob:Obj} (q:h.get? b=some ob) (n:H b=none) (hx:b ∉ ex):∃ sl,h1.get? b=some { ob with slots:=sl }:=by
 by_cases hb:b∈fs
 ·exact u.slot b ob q n hb hx
 ·exact ⟨ob.slots,u.keep b ob q n hb hx⟩
theorem Un.kept (k:∀ b u,h.get? b=some u->h'.get? b=some u):Un fs ex H H h h':=
 ⟨λb ob q _ _ _=>k b ob q,λb ob q _ _ _=>⟨ob.slots,k b ob q⟩,λ_ _ _ n _=>n,λb ob q _=>⟨ob,k b ob q⟩,λ_ _ q=>q,λ_ _ _ q=>q,λ_ ps q=>⟨#[],by rw [q];simp⟩⟩
theorem Un.refl:Un fs ex H H h h:=Un.kept λ_ _ q=>q
theorem Un.laid (k:∀ b u,h.get? b=some u->h'.get? b=some u) (hp:h.objs.size<=a) (hn:H a=none):Un fs ex H (upd H a o) h h' where
 keep:=λb u q _ _ _=>k b u q
 slot:=λb u q _ _ _=>⟨u.slots,k b u q⟩
 free:=λb u q n _=>by rw [zak (Nat.ne_of_lt (Nat.lt_of_lt_of_le (Heap.lt_size q) hp))];exact n
 there:=λb u q _=>⟨u,k b u q⟩
 tups:=λb xs q=>by rw [zak (zap q hn)];exact q
 frzs:=λb u xs q=>by rw [zak (zap q hn)];exact q
 tbls:=λb ps q=>⟨#[],by rw [zak (zap q hn),q];simp⟩
theorem Un.write (mu:Mut (H x)) (he:e=x\/H e=some (.own x)) (k:∀ b u,b≠e->h.get? b=some u->h'.get? b=some u) (heo:∃ u,h'.get? e=some u):Un fs ex H (upd H x o) h h':=by
 have hx:∀ b,H b=none->b≠x:=λb n z=>by subst z;rw [n] at mu;exact mu
 have hb:∀ b,H b=none->b≠e:=λb n z=>by
  subst z
  rcases he with r | r
  ·exact hx b n r
  ·rw [n] at r;cases r
 have hm:∀ b u,H b=some u->¬ Mut (some u)->b≠x:=λb u q nm z=>by subst z;rw [q] at mu;exact nm mu
 refine ⟨λb u q n _ _=>k b u (hb b n) q,λb u q n _ _=>⟨u.slots,k b u (hb b n) q⟩,λb u q n _=>by rw [zak (hx b n)];exact n,λb u q _=>?_,
  fun b xs q=>by rw [zak (hm b _ q λz=>z)];exact q,λb u xs q=>by rw [zak (hm b _ q λz=>z)];exact q,λb ps q=>⟨#[],by rw [zak (hm b _ q λz=>z),q];simp⟩⟩
 by_cases hbe:b=e
 ·subst hbe;exact heo
 ·exact ⟨u,k b u hbe q⟩
end
noncomputable def trk (h:Heap) (H:Hp):List Addr:=(List.range h.objs.size).filter λa=>(H a).isSome
noncomputable def hidT (h:Heap) (H:Hp):Heap:=PySem.W.hideAll h (trk h H)
theorem zkc (h:Heap) (H:Hp):(hidT h H).objs.size=h.objs.size:=PySem.W.hideAll_size _ _
theorem znE {h:Heap} {H:Hp} {b:Addr} {o:Obj} (e:h.get? b=some o) (n:H b=none):(hidT h H).get? b=some o:=
 PySem.W.hideAll_get _ e λhm=>by
  have q:(H b).isSome=true:=(List.mem_filter.mp hm).2
  rw [n] at q;simp at q
theorem zpq {h:Heap} {H:Hp} {b:Addr} {o:Obj} (e:(hidT h H).get? b=some o):h.get? b=some o/\H b=none:=by
 have e':h.get? b=some o:=PySem.W.of_hideAll (trk h H) e
 refine ⟨e',?_⟩
 cases q:H b with
 | none=>rfl
 | some x=>
  have hm:b∈trk h H:=List.mem_filter.mpr ⟨List.mem_range.mpr (Heap.lt_size e'),by simp [q]⟩
  have z:(hidT h H).get? b=none:=PySem.W.hideAll_none (trk h H) hm
  rw [z] at e;cases e
noncomputable def zpp (g h:Heap) (L:Addr):List (Addr×Obj):=(List.range h.objs.size).filterMap λa=>if a=L\/(g.get? a).isSome=true then none else (h.get? a).map λo=>(a,o)
noncomputable def rest (g h:Heap) (L d:Addr):List (Addr×Obj):=(zpp g h L).filter λp=>decide (p.1≠d)
structure Mod (K:PySem.W.Frag) (mg:Str->Option Value) (base:Heap):Prop where
 kin:K.In base
 glob:base.Ns mainGlobals mg
 blt:∃ mb,base.Ns builtinsNs mb/\∀ x:Str,x ≠ "__name__"->mb x=bootBuiltins x
 nolimit:base.NoLimit
structure Cx where
 prog:Program
 w:World
 K:PySem.W.Frag
 mg:Str->Option Value
 base:Heap
 A:Around
 N:List Str
 s₀:Shared
 H₀:Hp
 env:Env
 outer:List Env
 stack:List Env
 ex:List Addr
 fn:Str->Bool
 calm:Bool
 pn:List (Addr×Obj)
 xe:Value->Shared->Prop
noncomputable def frs (l:List Env):List Addr:=l.filterMap (·.frame)
noncomputable abbrev Cx.fs (X:Cx):List Addr:=frs X.outer
noncomputable def Vis (sc:Scope) (x:Str):Prop:=sc.names.lookup x=some .local\/sc.names.lookup x=some .cell\/sc.names.lookup x=some .free
noncomputable def Loc (sc:Scope) (x:Str):Prop:=sc.names.lookup x=some .local\/sc.names.lookup x=some .cell
noncomputable def Look (env:Env) (h:Heap) (m:Str->Option Value) (x:Str) (u:Value):Prop:=
 (env.kindOf x=some .local/\m x=some u)\/((env.kindOf x=some .cell\/env.kindOf x=some .free)/\∃ c,env.cells.lookup x=some c/\h.IsCell c (some u))
structure Cx.Ok (X:Cx):Prop where
 mod:Mod X.K X.mg X.base
 kind:X.env.scope.kind=.function
 glob:X.env.globals=mainGlobals
 blt:X.env.builtins=builtinsNs
 above:X.s₀.heap.objs.size<=X.env.locals
 inj:∀ x y c,X.env.cells.lookup x=some c->X.env.cells.lookup y=some c->x=y
 has:∀ x,(X.env.kindOf x=some .cell\/X.env.kindOf x=some .free)->∃ c,X.env.cells.lookup x=some c
 cab:∀ x c,X.fn x=true->X.env.cells.lookup x=some c->X.s₀.heap.objs.size<=c
 hd:X.calm=true->X.A.handled=none
 frames:X.A.frames=some X.stack
 stk:X.stack=X.outer\/(X.stack=X.env::X.outer/\X.env.frame=some X.env.locals)
 exf:∀ b∈X.ex,b≠X.env.locals/\∀ x c,X.env.cells.lookup x=some c->c≠b
 bs:∀ b o,X.base.get? b=some o->X.s₀.heap.get? b=some o/\X.H₀ b=none
 bsz:X.base.objs.size<=X.s₀.heap.objs.size
 noex:∀ b o,X.base.get? b=some o->b ∉ X.ex
 exfs:∀ b∈X.ex,b ∉ X.fs
 funs:X.s₀.heap.FunFrames X.base X.outer
 frf:∀ b∈X.fs,X.H₀ b=none
structure Inv (X:Cx) (pins:List (Addr×Obj)) (σ:List (Option V)) (H:Hp) (s:Shared):Prop where
 ok:X.Ok
 os:s.os=X.s₀.os
 bare:AllBare s.gens
 base:Un X.fs X.ex X.H₀ H X.s₀.heap s.heap
 loc:∃ m,s.heap.Ns X.env.locals m/\∀ (i:Nat) (x:Str) (v:V),X.N[i]?=some x->σ[i]?=some (some v)->Vis X.env.scope x->∃ u,RelV v u/\Look X.env s.heap m x u
 cell:∀ x c,X.env.cells.lookup x=some c->∃ v,s.heap.IsCell c v
 free:H X.env.locals=none
 freeC:∀ x c,X.env.cells.lookup x=some c->H c=none
 pin:∀ p∈X.pn++pins,s.heap.get? p.1=some p.2/\H p.1=none/\p.1≠X.env.locals/\p.1 ∉ X.fs/\∀ v,p.2.data≠.cell v
 hok:HOk X.prog X.w H s.heap
 len:σ.length=X.N.length
section
variable {X:Cx} {pins:List (Addr×Obj)} {σ:List (Option V)} {H H':Hp} {s:Shared} {h':Heap}
theorem Cx.Ok.nofr (ok:X.Ok) {b:Addr} {o:Obj} (e:X.base.get? b=some o):b ∉ X.fs:=λhb=>by
 have:=(ok.funs.mem hb).1
 rw [e] at this;cases this
theorem Inv.bs (I:Inv X pins σ H s):∀ b o,X.base.get? b=some o->s.heap.get? b=some o/\H b=none:=λb o e=>
 ⟨I.base.keep b o (I.ok.bs b o e).1 (I.ok.bs b o e).2 (I.ok.nofr e) (I.ok.noex b o e),I.base.free b o (I.ok.bs b o e).1 (I.ok.bs b o e).2 (I.ok.noex b o e)⟩
theorem Inv.bk (I:Inv X pins σ H s):∀ b o,X.base.get? b=some o->s.heap.get? b=some o:=λb o e=>(I.bs b o e).1
theorem Inv.mod (I:Inv X pins σ H s):Mod X.K X.mg X.base:=I.ok.mod
theorem Inv.kIn (I:Inv X pins σ H s):X.K.In s.heap:=I.ok.mod.kin.keeps I.bk
theorem Inv.lt (I:Inv X pins σ H s):X.env.locals<s.heap.objs.size:=let ⟨_,hn,_⟩:=I.loc;hn.lt
theorem Inv.sz (I:Inv X pins σ H s):X.s₀.heap.objs.size<=s.heap.objs.size:=Nat.le_trans I.ok.above (Nat.le_of_lt I.lt)
theorem Inv.nofs (I:Inv X pins σ H s) {a:Addr} (h:s.heap.objs.size<=a):a ∉ X.fs:=λhb=>by
 obtain ⟨_,o,ho,_⟩:=I.ok.funs.mem hb
 exact absurd (Nat.lt_of_lt_of_le (Heap.lt_size ho) (Nat.le_trans I.sz h)) (Nat.lt_irrefl _)
theorem Inv.cne (I:Inv X pins σ H s):∀ x c,X.env.cells.lookup x=some c->c≠X.env.locals:=λx c e z=>by
 obtain ⟨v,o,ho,hd⟩:=I.cell x c e
 obtain ⟨m,⟨o',es,ep,ho',hd',_⟩,_⟩:=I.loc
 rw [z,ho'] at ho;cases ho;rw [hd'] at hd;cases hd
theorem Inv.funs (I:Inv X pins σ H s):s.heap.FunFrames X.base X.outer:=by
 have all:∀ (l:List Env),(∀ b∈frs l,b∈X.fs)->X.s₀.heap.FunFrames X.base l->s.heap.FunFrames X.base l:=by
  intro l
  induction l with
  | nil=>intro _ _;trivial
  | cons env r ih=>
   intro hs hl
   obtain ⟨hk,⟨L,o,hf,hn,ho,hd⟩,hr⟩:=hl
   have hL:L∈X.fs:=hs L (by unfold frs;rw [List.filterMap_cons,hf];exact List.mem_cons_self)
   obtain ⟨sl,e⟩:=I.base.slot L o ho (I.ok.frf L hL) hL λz=>I.ok.exfs L z hL
   exact ⟨hk,⟨L,_,hf,hn,e,hd⟩,ih (λb hb=>hs b (by unfold frs;rw [List.filterMap_cons,hf];exact List.mem_cons_of_mem _ hb)) hr⟩
 exact all X.outer (λ_ hb=>hb) I.ok.funs
theorem Inv.stack (I:Inv X pins σ H s):s.heap.FunFrames X.base X.stack:=by
 rcases I.ok.stk with e | ⟨e,hf⟩
 ·rw [e];exact I.funs
 ·rw [e]
  obtain ⟨m,hn,_⟩:=I.loc
  refine .cons (by rw [I.ok.kind];decide) hf hn ?_ I.funs
  exact Heap.get?_none_of_le (Nat.le_trans I.ok.bsz I.ok.above)
theorem Inv.stkSub (I:Inv X pins σ H s):∀ b∈frs X.stack,b∈X.env.locals::X.fs:=λb hb=>by
 rcases I.ok.stk with e | ⟨e,hf⟩
 ·rw [e] at hb;exact List.mem_cons_of_mem _ hb
 ·rw [e] at hb
  unfold frs at hb
  rw [List.filterMap_cons,hf] at hb
  exact hb
theorem Inv.stkFree (I:Inv X pins σ H s):∀ b∈frs X.stack,H b=none:=λb hb=>by
 rcases List.mem_cons.mp (I.stkSub b hb) with e | hb
 ·rw [e];exact I.free
 ·obtain ⟨_,o,ho,_⟩:=I.ok.funs.mem hb
  exact I.base.free b o ho (I.ok.frf b hb) λz=>I.ok.exfs b z hb
theorem Inv.step {g':Array GenState} {t':Nat} {d':Drawn} {ch:List Addr} (I:Inv X pins σ H s)
  (hch:∀ b∈ch,(b∈X.ex\/X.s₀.heap.objs.size<=b)/\b≠X.env.locals/\(∀ x c,X.env.cells.lookup x=some c->c≠b)/\∀ p∈X.pn++pins,p.1≠b)
  (keep:∀ b o,b≠X.env.locals->b ∉ X.fs->b ∉ ch->s.heap.get? b=some o->H b=none->h'.get? b=some o)
  (slot:∀ b o,b≠X.env.locals->b∈X.fs->b ∉ ch->s.heap.get? b=some o->H b=none->∃ sl,h'.get? b=some { o with slots:=sl }) (free:∀ b o,b ∉ ch->s.heap.get? b=some o->H b=none->H' b=none)
  (there:∀ b o,b ∉ ch->s.heap.get? b=some o->∃ o',h'.get? b=some o')
  (tups:∀ b xs,H b=some (.tup xs)->H' b=some (.tup xs)) (frzs:∀ b o u,H b=some (.frz o u)->H' b=some (.frz o u)) (tbls:∀ b ps,H b=some (.tbl ps)->∃ more,H' b=some (.tbl (ps++more)))
  (ns:∀ m,s.heap.Ns X.env.locals m->h'.Ns X.env.locals m) (hok:HOk X.prog X.w H' h') (hg:AllBare g') :
  Inv X pins σ H' { s with heap:=h',gens:=g',drawn:=d',toks:=t' }:=by
 have neL:∀ b o,X.s₀.heap.get? b=some o->b≠X.env.locals:=λb o e=>Nat.ne_of_lt (Nat.lt_of_lt_of_le (Heap.lt_size e) I.ok.above)
 have neC:∀ b o,X.s₀.heap.get? b=some o->b ∉ X.ex->b ∉ ch:=λb o e hx hb=>by
  rcases (hch b hb).1 with z | z
  ·exact hx z
  ·exact absurd (Nat.lt_of_lt_of_le (Heap.lt_size e) z) (Nat.lt_irrefl _)
 have cellK:∀ x c,X.env.cells.lookup x=some c->∀ v,s.heap.IsCell c v->h'.IsCell c v:=λx c e v ⟨o,ho,hd⟩=>by
  have nch:c ∉ ch:=λz=>(hch c z).2.2.1 x c e rfl
  by_cases hc:c∈X.fs
  ·obtain ⟨sl,q⟩:=slot c o (I.cne x c e) hc nch ho (I.freeC x c e)
   exact ⟨_,q,hd⟩
  ·exact ⟨o,keep c o (I.cne x c e) hc nch ho (I.freeC x c e),hd⟩
 refine ⟨I.ok,I.os,hg,⟨λb o e n hb hx=>?_,λb o e n hb hx=>?_,λb o e n hx=>?_,λb o e hx=>?_,λb xs e=>tups b xs (I.base.tups b xs e),λb o xs e=>frzs b o xs (I.base.frzs b o xs e),λb ps e=>?_⟩,?_,λx c e=>?_,?_,λx c e=>?_,λp hp=>?_,hok,I.len⟩
 ·exact keep b o (neL b o e) hb (neC b o e hx) (I.base.keep b o e n hb hx) (I.base.free b o e n hx)
 ·obtain ⟨sl,e1⟩:=I.base.slot b o e n hb hx
  obtain ⟨sl',e2⟩:=slot b _ (neL b o e) hb (neC b o e hx) e1 (I.base.free b o e n hx)
  exact ⟨sl',e2⟩
 ·obtain ⟨o',e1⟩:=I.base.there b o e hx
  exact free b o' (neC b o e hx) e1 (I.base.free b o e n hx)
 ·obtain ⟨o',e1⟩:=I.base.there b o e hx
  exact there b o' (neC b o e hx) e1
 ·obtain ⟨m1,e1⟩:=I.base.tbls b ps e
  obtain ⟨m2,e2⟩:=tbls b _ e1
  exact ⟨m1++m2,by rw [e2,Array.append_assoc]⟩
 ·obtain ⟨m,hn,hl⟩:=I.loc
  refine ⟨m,ns m hn,λi x v e1 e2 e3=>?_⟩
  obtain ⟨u,r,l⟩:=hl i x v e1 e2 e3
  refine ⟨u,r,?_⟩
  rcases l with l | ⟨k,c,e,z⟩
  ·exact .inl l
  ·exact .inr ⟨k,c,e,cellK x c e _ z⟩
 ·obtain ⟨v,z⟩:=I.cell x c e
  exact ⟨v,cellK x c e v z⟩
 ·obtain ⟨m,⟨o,_,_,ho,_⟩,_⟩:=I.loc
  exact free _ o (λz=>(hch _ z).2.1 rfl) ho I.free
 ·obtain ⟨v,o,ho,hd⟩:=I.cell x c e
  exact free c o (λz=>(hch c z).2.2.1 x c e rfl) ho (I.freeC x c e)
 ·obtain ⟨e,n,ne,nf,d⟩:=I.pin p hp
  have nch:p.1 ∉ ch:=λz=>(hch p.1 z).2.2.2 p hp rfl
  exact ⟨keep p.1 p.2 ne nf nch e n,free p.1 p.2 nch e n,ne,nf,d⟩
theorem Inv.un {t':Nat} (I:Inv X pins σ H s) (u:Un X.fs [] H H' s.heap h') (hok:HOk X.prog X.w H' h'):Inv X pins σ H' { s with heap:=h',toks:=t' }:=by
 obtain ⟨m,⟨o,es,ep,ho,r⟩,_⟩:=id I.loc
 obtain ⟨sl,hL⟩:=u.any ho I.free (by simp)
 exact I.step (g':=s.gens) (d':=s.drawn) (ch:=[]) (λ_ z=>nomatch z) (λb o _ hb _ e n=>u.keep b o e n hb (by simp)) (λb o _ hb _ e n=>u.slot b o e n hb (by simp)) (λb o _ e n=>u.free b o e n (by simp)) (λb o _ e=>u.there b o e (by simp)) u.tups u.frzs u.tbls (λm' hm=>by
  obtain ⟨o',es',ep',ho',r'⟩:=hm
  rw [ho] at ho';cases ho'
  exact ⟨_,es',ep',hL,r'⟩) hok I.bare
theorem Inv.call {g':Array GenState} {t':Nat} {d':Drawn} {ch:List Addr} (I:Inv X pins σ H s) (u:Un (frs X.stack) ch H H' s.heap h') (hok:HOk X.prog X.w H' h') (hg:AllBare g')
  (hch:∀ b∈ch,(b∈X.ex\/X.s₀.heap.objs.size<=b)/\b≠X.env.locals/\(∀ x c,X.env.cells.lookup x=some c->c≠b)/\∀ p∈X.pn++pins,p.1≠b) :
  Inv X pins σ H' { s with heap:=h',gens:=g',drawn:=d',toks:=t' }:=by
 obtain ⟨m,⟨o,es,ep,ho,r⟩,_⟩:=id I.loc
 obtain ⟨sl,hL⟩:=u.any ho I.free λz=>(hch _ z).2.1 rfl
 exact I.step (ch:=ch) hch (λb o hL hb hc e n=>u.keep b o e n (λz=>(List.mem_cons.mp (I.stkSub b z)).elim hL hb) hc) (λb o _ _ hc e n=>u.any e n hc) (λb o hc e n=>u.free b o e n hc) (λb o hc e=>u.there b o e hc) u.tups u.frzs u.tbls (λm' hm=>by
  obtain ⟨o',es',ep',ho',r'⟩:=hm
  rw [ho] at ho';cases ho'
  exact ⟨_,es',ep',hL,r'⟩) hok hg
theorem Inv.turned {t':Nat} {it:Addr} (I:Inv X pins σ H s) (k:∀ b o,b≠it->s.heap.get? b=some o->h'.get? b=some o) (hn:H it=none) (hL:it≠X.env.locals)
  (h1:it∈X.ex\/X.s₀.heap.objs.size<=it) (h2:∀ x c,X.env.cells.lookup x=some c->c≠it) (h3:∀ p∈X.pn++pins,p.1≠it):Inv X pins σ H { s with heap:=h',toks:=t' }:=by
 have nit:∀ b u,H b=some u->b≠it:=λb u e z=>by rw [z,hn] at e;cases e
 refine I.step (g':=s.gens) (d':=s.drawn) (ch:=[it]) (λb hb=>?_) (λb o _ _ hc e _=>k b o (λz=>hc (by simp [z])) e) (λb o _ _ hc e _=>⟨o.slots,k b o (λz=>hc (by simp [z])) e⟩) (λ_ _ _ _ n=>n)
  (λb o hc e=>⟨o,k b o (λz=>hc (by simp [z])) e⟩) (λ_ _ e=>e) (λ_ _ _ e=>e) (λb ps e=>⟨#[],by rw [e];simp⟩) (λm hm=>?_) (λb u e=>?_) I.bare
 ·have e:b=it:=by simpa using hb
  subst e
  exact ⟨h1,hL,h2,h3⟩
 ·obtain ⟨o,es,ep,ho,r⟩:=hm
  exact ⟨o,es,ep,k _ o (Ne.symm hL) ho,r⟩
 ·refine (I.hok b u e).stay (λc v hc q=>k c v ?_ q) (λ_ q=>q) λ_ _ q=>q
  rcases hc with z | z
  ·rw [z];exact nit b u e
  ·exact nit c _ z
theorem Inv.tok (I:Inv X pins σ H s) (t:Nat):Inv X pins σ H { s with toks:=t }:=I.un (h':=s.heap) (t':=t) Un.refl I.hok
theorem Inv.kept {t':Nat} (I:Inv X pins σ H s) (k:∀ b u,s.heap.get? b=some u->h'.get? b=some u):Inv X pins σ H { s with heap:=h',toks:=t' }:=I.un (Un.kept k) (I.hok.kept k)
theorem Inv.laid {a:Addr} {o:HO} {t':Nat} (I:Inv X pins σ H s) (k:∀ b u,s.heap.get? b=some u->h'.get? b=some u) (hp:s.heap.objs.size<=a) (new:zba X.prog X.w (upd H a o) h' a o) :
  Inv X pins σ (upd H a o) { s with heap:=h',toks:=t' }:=I.un (Un.laid k hp (I.hok.fresh hp)) (I.hok.laid k hp new)
theorem Inv.write {x e:Addr} {o:HO} {t':Nat} (I:Inv X pins σ H s) (mu:Mut (H x)) (he:e=x\/H e=some (.own x)) (k:∀ b u,b≠e->s.heap.get? b=some u->h'.get? b=some u) (heo:∃ u,h'.get? e=some u)
  (new:zba X.prog X.w (upd H x o) h' x o):Inv X pins σ (upd H x o) { s with heap:=h',toks:=t' }:=I.un (Un.write mu he k heo) (I.hok.write mu he k heo new)
theorem Inv.pins_of {pins':List (Addr×Obj)} (I:Inv X pins σ H s) (h:∀ p∈pins',s.heap.get? p.1=some p.2/\H p.1=none/\p.1≠X.env.locals/\p.1 ∉ X.fs/\∀ v,p.2.data≠.cell v):Inv X pins' σ H s:=
 ⟨I.ok,I.os,I.bare,I.base,I.loc,I.cell,I.free,I.freeC,λp hp=>(List.mem_append.mp hp).elim (λz=>I.pin p (List.mem_append_left _ z)) (h p),I.hok,I.len⟩
theorem zig {N:List Str} (hN:N.Nodup) {i j:Nat} {x:Str} (a:N[i]?=some x) (b:N[j]?=some x):i=j:=by
 obtain ⟨h1,e1⟩:=List.getElem?_eq_some_iff.mp a
 obtain ⟨h2,e2⟩:=List.getElem?_eq_some_iff.mp b
 exact (List.getElem_inj hN).mp (e1.trans e2.symm)
theorem zmv {M:Model} {A:Around} {E:Value->Shared->Prop} {i:Nat} {x:Str} {v:V} {u:Value} {Q:Unit->Shared->Prop} (I:Inv X pins σ H s) (hN:X.N.Nodup) (hi:X.N[i]?=some x) (hx:Loc X.env.scope x) (r:RelV v u)
    (h:∀ s',Inv X pins (σ.set i (some v)) H s'->(∃ a,Heap.SameBut a s.heap s'.heap/\(a=X.env.locals\/X.env.cells.lookup x=some a))->Q () s') (hf:X.fn x=true\/X.env.scope.names.lookup x=some .local:=by first | exact .inl rfl | exact .inr rfl | assumption):wpAny M A (storeName X.env x u) Q E s:=by
  obtain ⟨m,hn,hl⟩:=id I.loc
  have hcls:(X.env.scope.kind==.class||(X.env.scope.kind==.module&&X.env.locals != X.env.globals))=false:=by rw [I.ok.kind];rfl
  have hiσ:i<σ.length:=by rw [I.len];exact (List.getElem?_eq_some_iff.mp hi).1
  have cne:=I.cne
  have tracked:∀ {a:Addr} {h':Heap},(∃ o,s.heap.get? a=some o/\H a=none)->Heap.SameBut a s.heap h'->HOk X.prog X.w H h':=λ{a h'} ha hs b ob e=>by
    obtain ⟨_,_,hfree⟩:=ha
    refine (I.hok b ob e).stay (λc w' hc q=>(hs.2 c ?_).trans q) (λ_ q=>q) λ_ _ q=>q
    rintro rfl
    rcases hc with rfl | hc
    · rw [hfree] at e;cases e
    · rw [hfree] at hc;cases hc
  rcases hx with hk | hk
  · refine wpAny_storeName_local hk hn (λh' hn' hs=>?_) hcls
    obtain ⟨oL,_,_,hoL,_⟩:=id hn
    refine h _ ⟨I.ok,I.os,I.bare,⟨λb o e n hb hx=>?_,λb o e n hb hx=>?_,I.base.free,λb o e hx=>?_,I.base.tups,I.base.frzs,I.base.tbls⟩,⟨_,hn',λj y v' e1 e2 e3=>?_⟩,λy c e=>?_,I.free,I.freeC,λp hp=>?_,tracked ⟨oL,hoL,I.free⟩ hs,by simpa using I.len⟩ ⟨_,hs,.inl rfl⟩
    · exact (hs.2 b (Nat.ne_of_lt (Nat.lt_of_lt_of_le (Heap.lt_size e) I.ok.above))).trans (I.base.keep b o e n hb hx)
    · obtain ⟨sl,e1⟩:=I.base.slot b o e n hb hx
      exact ⟨sl,(hs.2 b (Nat.ne_of_lt (Nat.lt_of_lt_of_le (Heap.lt_size e) I.ok.above))).trans e1⟩
    · obtain ⟨o',e1⟩:=I.base.there b o e hx
      exact ⟨o',(hs.2 b (Nat.ne_of_lt (Nat.lt_of_lt_of_le (Heap.lt_size e) I.ok.above))).trans e1⟩
    · by_cases hj:j=i
      · subst hj
        rw [hi] at e1;cases e1
        rw [List.getElem?_set_self hiσ] at e2
        cases e2
        exact ⟨u,r,.inl ⟨hk,by simp⟩⟩
      · rw [List.getElem?_set_ne (Ne.symm hj)] at e2
        obtain ⟨u',r',q⟩:=hl j y v' e1 e2 e3
        refine ⟨u',r',?_⟩
        rcases q with ⟨k,e⟩ | ⟨k,c,e,z⟩
        · refine .inl ⟨k,?_⟩
          have:y≠x:=λe=>hj (zig hN e1 (e▸hi))
          simp [this,e]
        · exact .inr ⟨k,c,e,z.sameBut hs (cne y c e)⟩
    · obtain ⟨w',z⟩:=I.cell y c e
      exact ⟨w',z.sameBut hs (cne y c e)⟩
    · obtain ⟨e,n,ne,nf,d⟩:=I.pin p hp
      exact ⟨(hs.2 p.1 ne).trans e,n,ne,nf,d⟩
  · have hfn:X.fn x=true:=by
      rcases hf with z | z
      · exact z
      · rw [z] at hk;cases hk
    obtain ⟨c,hc⟩:=I.ok.has x (.inl hk)
    obtain ⟨w',z⟩:=I.cell x c hc
    refine wpAny_storeName_cell I.ok.kind hk hc z (λh' hc' hs=>?_)
    obtain ⟨oc,hoc,hocd⟩:=id z
    refine h { s with heap:=h' } ⟨I.ok,I.os,I.bare,⟨λb o e n hb hx=>?_,λb o e n hb hx=>?_,I.base.free,λb o e hx=>?_,I.base.tups,I.base.frzs,I.base.tbls⟩,⟨m,hn.sameBut hs (Ne.symm (cne x c hc)),λj y v' e1 e2 e3=>?_⟩,λy c' e=>?_,I.free,I.freeC,λp hp=>?_,tracked ⟨oc,hoc,I.freeC x c hc⟩ hs,by simpa using I.len⟩ ⟨c,hs,.inr hc⟩
    · exact (hs.2 b (Nat.ne_of_lt (Nat.lt_of_lt_of_le (Heap.lt_size e) (I.ok.cab x c hfn hc)))).trans (I.base.keep b o e n hb hx)
    · obtain ⟨sl,e1⟩:=I.base.slot b o e n hb hx
      exact ⟨sl,(hs.2 b (Nat.ne_of_lt (Nat.lt_of_lt_of_le (Heap.lt_size e) (I.ok.cab x c hfn hc)))).trans e1⟩
    · obtain ⟨o',e1⟩:=I.base.there b o e hx
      exact ⟨o',(hs.2 b (Nat.ne_of_lt (Nat.lt_of_lt_of_le (Heap.lt_size e) (I.ok.cab x c hfn hc)))).trans e1⟩
    · by_cases hj:j=i
      · subst hj
        rw [hi] at e1;cases e1
        rw [List.getElem?_set_self hiσ] at e2
        cases e2
        exact ⟨u,r,.inr ⟨.inl hk,c,hc,hc'⟩⟩
      · rw [List.getElem?_set_ne (Ne.symm hj)] at e2
        obtain ⟨u',r',q⟩:=hl j y v' e1 e2 e3
        refine ⟨u',r',?_⟩
        rcases q with q | ⟨k,c',e,z'⟩
        · exact .inl q
        · refine .inr ⟨k,c',e,z'.sameBut hs ?_⟩
          rintro rfl
          exact hj (zig hN e1 (I.ok.inj _ _ _ e hc▸hi))
    · by_cases hcc:c'=c
      · subst hcc;exact ⟨_,hc'⟩
      · obtain ⟨w2,z2⟩:=I.cell y c' e
        exact ⟨w2,z2.sameBut hs hcc⟩
    · obtain ⟨e,n,ne,nf,d⟩:=I.pin p hp
      refine ⟨(hs.2 p.1 ?_).trans e,n,ne,nf,d⟩
      intro q
      rw [q,hoc] at e
      have q':oc=p.2:=Option.some.inj e
      exact d w' (by rw [<-q'];exact hocd)
theorem zm2 {M:Model} {A:Around} {E:Value->Shared->Prop} {i:Nat} {x:Str} {v:V} {u:Value} {Q:Unit->Shared->Prop} (I:Inv X pins σ H s) (hN:X.N.Nodup) (hi:X.N[i]?=some x) (hx:Loc X.env.scope x) (r:RelV v u)
  (h:∀ s',Inv X pins (σ.set i (some v)) H s'->Q () s') (hf:X.fn x=true\/X.env.scope.names.lookup x=some .local:=by first | exact .inl rfl | exact .inr rfl | assumption):wpAny M A (storeName X.env x u) Q E s:=
 zmv I hN hi hx r (λs' I' _=>h s' I') hf
theorem Inv.call' {s':Shared} {ch:List Addr} (I:Inv X pins σ H s) (ho:s'.os=s.os) (u:Un (frs X.stack) ch H H' s.heap s'.heap) (hok:HOk X.prog X.w H' s'.heap) (hg:AllBare s'.gens)
  (hch:∀ b∈ch,(b∈X.ex\/X.s₀.heap.objs.size<=b)/\b≠X.env.locals/\(∀ x c,X.env.cells.lookup x=some c->c≠b)/\∀ p∈X.pn++pins,p.1≠b):Inv X pins σ H' s':=by
 obtain ⟨h',g',d',t',o'⟩:=s'
 have e:o'=s.os:=ho
 subst e
 exact I.call (g':=g') (t':=t') (d':=d') u hok hg hch
end
noncomputable abbrev XK:=Value->Option Addr->Hp->Prop
noncomputable abbrev St:=List (Option V)
noncomputable abbrev VK:=V->Hp->Prop
noncomputable abbrev TE:=St->Hp->VK->Prop
noncomputable abbrev TT:=St->Hp->(Bool->Hp->Prop)->Prop
noncomputable abbrev TA:=St->Hp->(List V->Hp->Prop)->Prop
structure Ends where
 nx:St->Hp->Prop
 rt:VK
 bk:St->Hp->Prop:=λ_ _=>False
 ct:St->Hp->Prop:=λ_ _=>False
noncomputable abbrev TS:=Ends->St->Hp->Prop
inductive EP (X:Cx) (pins:List (Addr×Obj)) (σ:St) (Q:VK) (u:Value) (s':Shared):Prop where
 | mk (v:V) (H':Hp) (I:Inv X pins σ H' s') (r:RelV v u) (q:Q v H')
inductive TP (X:Cx) (pins:List (Addr×Obj)) (σ:St) (Q:Bool->Hp->Prop) (b:Bool) (s':Shared):Prop where
 | mk (H':Hp) (I:Inv X pins σ H' s') (q:Q b H')
inductive AP (X:Cx) (pins:List (Addr×Obj)) (σ:St) (Q:List V->Hp->Prop) (us:List Value) (s':Shared):Prop where
 | mk (vs:List V) (H':Hp) (I:Inv X pins σ H' s') (r:Vals vs us) (q:Q vs H')
noncomputable def SP (X:Cx) (pins:List (Addr×Obj)) (D:Ends) (f:Flow) (s':Shared):Prop:=
 match f with
 | .next=>∃ σ' H',Inv X pins σ' H' s'/\D.nx σ' H'
 | .brk=>∃ σ' H',Inv X pins σ' H' s'/\D.bk σ' H'
 | .cont=>∃ σ' H',Inv X pins σ' H' s'/\D.ct σ' H'
 | .ret u=>∃ v σ' H',Inv X pins σ' H' s'/\RelV v u/\D.rt v H'
noncomputable def PE (X:Cx) (e:Expr) (t:TE):Prop:=
 ∀ (pins:List (Addr×Obj)) (s:Shared) (σ:St) (H:Hp) (Q:VK),Inv X pins σ H s->t σ H Q->wpAny (model X.prog X.w) X.A (eval e X.env) (EP X pins σ Q) X.xe s
noncomputable def PT (X:Cx) (e:Expr) (t:TT):Prop:=
 ∀ (pins:List (Addr×Obj)) (s:Shared) (σ:St) (H:Hp) (Q:Bool->Hp->Prop),Inv X pins σ H s->t σ H Q->wpAny (model X.prog X.w) X.A (isTrue e X.env (eval e X.env)) (TP X pins σ Q) X.xe s
noncomputable def PW (X:Cx) (e:Expr) (t:TT):Prop:=
 ∀ (whole:Sem Value) (pins:List (Addr×Obj)) (s:Shared) (σ:St) (H:Hp) (Q:Bool->Hp->Prop),Inv X pins σ H s->t σ H Q->wpAny (model X.prog X.w) X.A (isTrue e X.env whole) (TP X pins σ Q) X.xe s
theorem PW.pt {X:Cx} {e:Expr} {t:TT} (h:PW X e t):PT X e t:=h _
noncomputable def PA (X:Cx) (es:List Expr) (t:TA):Prop:=
 ∀ (pos:Pos) (pins:List (Addr×Obj)) (s:Shared) (σ:St) (H:Hp) (Q:List V->Hp->Prop),Inv X pins σ H s->t σ H Q->wpAny (model X.prog X.w) X.A (spliced (backTo pos (starEach es X.env))) (AP X pins σ Q) X.xe s
noncomputable def PS (X:Cx) (st:Stmt) (t:TS):Prop:=
 ∀ (pins:List (Addr×Obj)) (s:Shared) (σ:St) (H:Hp) (D:Ends),Inv X pins σ H s->t D σ H->wpAny (model X.prog X.w) X.A (exec st X.env) (SP X pins D) X.xe s
noncomputable def PSs (X:Cx) (st:List Stmt) (t:TS):Prop:=
 ∀ (pins:List (Addr×Obj)) (s:Shared) (σ:St) (H:Hp) (D:Ends),Inv X pins σ H s->t D σ H->wpAny (model X.prog X.w) X.A (execs st X.env) (SP X pins D) X.xe s
theorem thn {α:Type} {t:Sem α} {Q Q':α->Shared->Prop} {M:Model} {A:Around} {E:Value->Shared->Prop} {s:Shared} (h:wpAny M A t Q E s) (hQ:∀ a s,Q a s->Q' a s):wpAny M A t Q' E s:=wpAny_mono h hQ λ_ _ x=>x
section
variable {X:Cx}
noncomputable def tVar (i:Nat):TE:=λσ H Q=>∃ v,σ[i]?=some (some v)/\Q v H
noncomputable def tC (v:V):TE:=λ_ H Q=>Q v H
theorem zr8 {i:Nat} {x:Str} {pos:Pos} (hN:X.N[i]?=some x) (hv:Vis X.env.scope x) (hd:(x==("__debug__":Str))=false:=by decide) (hcd:(x==("__classdict__":Str))=false:=by decide):PE X (.Name x pos) (tVar i):=by
 intro pins s σ H Q I h
 obtain ⟨v,e,h⟩:=h
 obtain ⟨m,hn,hl⟩:=I.loc
 obtain ⟨u,r,l⟩:=hl i x v hN e hv
 have fin:EP X pins σ Q u s:=⟨v,H,I,r,h⟩
 rcases l with ⟨hk,hm⟩ | ⟨hk,c,hc,hcell⟩
 ·exact wpAny_Name (wpAny_loadName_local I.ok.kind hk hn hm fin) hd
 ·rcases hk with hk | hk
  ·exact wpAny_Name (wpAny_loadName_cell I.ok.kind hk hc hcell fin) hd
  ·exact wpAny_Name (wpAny_loadName_free I.ok.kind hk hc hcell fin hcd) hd
theorem zoy {i j pos}:PE X (.Constant (.int i) j pos) (tC (.int i)):=λ_ _ _ H _ I h=>wpAny_Constant_int ⟨.int i,H,I.tok _,⟨_,rfl⟩,h⟩
theorem ztA {b j pos}:PE X (.Constant (.bool b) j pos) (tC (.bl b)):=λ_ _ _ H _ I h=>Constant_bool ⟨.bl b,H,I,rfl,h⟩
theorem zr2 {j pos}:PE X (.Constant .none j pos) (tC .non):=λ_ _ _ H _ I h=>Constant_none ⟨.non,H,I,rfl,h⟩
theorem zqN {x j pos}:PE X (.Constant (.str x) j pos) (tC (.str x)):=λ_ _ _ H _ I h=>Calls.Constant_str ⟨.str x,H,I.tok _,⟨_,rfl⟩,h⟩
noncomputable def Gl (X:Cx) (x:Str):Prop:=X.env.kindOf x=some .globalImplicit
theorem zhM {E:Value->Shared->Prop} {pins:List (Addr×Obj)} {s:Shared} {σ:St} {H:Hp} {x:Str} {u:Value} {pos:Pos} {Q:Value->Shared->Prop} (I:Inv X pins σ H s) (hg:Gl X x) (hm:X.mg x=some u) (h:Q u s)
  (hd:(x==("__debug__":Str))=false:=by decide):wpAny (model X.prog X.w) X.A (eval (.Name x pos) X.env) Q E s:=
 Calls.Name_function_global I.ok.kind hg (Calls.loadGlobal_global (by rw [I.ok.glob];exact I.mod.glob.keeps I.bk) hm h) hd
theorem zeS {E:Value->Shared->Prop} {pins:List (Addr×Obj)} {s:Shared} {σ:St} {H:Hp} {x:Str} {u:Value} {pos:Pos} {Q:Value->Shared->Prop} (I:Inv X pins σ H s) (hg:Gl X x) (hm:X.mg x=none) (hv:bootBuiltins x=some u) (h:Q u s)
  (hn:x ≠ "__name__":=by decide) (hd:(x==("__debug__":Str))=false:=by decide):wpAny (model X.prog X.w) X.A (eval (.Name x pos) X.env) Q E s:=by
 obtain ⟨mb,h1,h2⟩:=I.mod.blt
 exact Calls.Name_function_global I.ok.kind hg (Calls.loadGlobal_builtin (by rw [I.ok.glob];exact I.mod.glob.keeps I.bk) hm (by rw [I.ok.blt];exact h1.keeps I.bk) ((h2 x hn).trans hv) h) hd
theorem zkl {x:Str} {v:V} {u:Value} {pos:Pos} (hg:Gl X x) (hm:X.mg x=some u) (r:RelV v u) (hd:(x==("__debug__":Str))=false:=by decide):PE X (.Name x pos) (tC v):=
 fun _ _ _ H _ I h=>zhM I hg hm ⟨v,H,I,r,h⟩ hd
theorem zpT {x:Str} {v:V} {u:Value} {pos:Pos} (hg:Gl X x) (hm:X.mg x=none) (hv:bootBuiltins x=some u) (r:RelV v u) (hn:x ≠ "__name__":=by decide) (hd:(x==("__debug__":Str))=false:=by decide):PE X (.Name x pos) (tC v):=
 fun _ _ _ H _ I h=>zeS I hg hm hv ⟨v,H,I,r,h⟩ hn hd
noncomputable def t2I (ta tb:TE) (k:Int->Int->Hp->Prop):St->Hp->Prop:=λσ H=>ta σ H λx H1=>tb σ H1 λy H2=>∃ i j,x=.int i/\y=.int j/\k i j H2
variable {a b:Expr} {ta tb:TE} {pos:Pos}
noncomputable def tCmp (p:Int->Int->Bool) (ta tb:TE):TE:=λσ H Q=>t2I ta tb (λi j H2=>Q (.bl (p i j)) H2) σ H
noncomputable abbrev tGe:TE->TE->TE:=tCmp λi j=>decide (j<=i)
variable {tA tB':TT} {rest:List Expr}
noncomputable def tAnd (t u:TT):TT:=λσ H Q=>t σ H λc H1=>if c=true then u σ H1 Q else Q false H1
noncomputable def tOr (t u:TT):TT:=λσ H Q=>t σ H λc H1=>if c=true then Q true H1 else u σ H1 Q
noncomputable def tNot (t:TT):TT:=λσ H Q=>t σ H λc H1=>Q (!c) H1
theorem zo0 (ha:PT X a tA):PW X (.BoolOp .And [a] pos) tA:=by
 intro wh pins s σ H Q I h
 refine isTrue_and (thn (ha pins s σ H Q I h) λc s1 e=>?_)
 cases c with
 | true=>exact isTrue_and_nil e
 | false=>exact e
theorem zr5 (ha:PT X a tA):PW X (.BoolOp .Or [a] pos) tA:=by
 intro wh pins s σ H Q I h
 refine isTrue_or (thn (ha pins s σ H Q I h) λc s1 e=>?_)
 cases c with
 | false=>exact isTrue_or_nil e
 | true=>exact e
theorem zry (ha:PT X a tA) (hb:PW X (.BoolOp .And (b::rest) pos) tB'):PW X (.BoolOp .And (a::b::rest) pos) (tAnd tA tB'):=by
 intro wh pins s σ H Q I h
 refine isTrue_and (thn (ha pins s σ H _ I h) λc s1 qW=>?_)
 obtain ⟨H1,I1,q1⟩:=qW
 cases c with
 | true=>exact hb wh pins s1 σ H1 Q I1 q1
 | false=>exact ⟨H1,I1,q1⟩
theorem zt8 (ha:PT X a tA) (hb:PW X (.BoolOp .Or (b::rest) pos) tB'):PW X (.BoolOp .Or (a::b::rest) pos) (tOr tA tB'):=by
 intro wh pins s σ H Q I h
 refine isTrue_or (thn (ha pins s σ H _ I h) λc s1 qW=>?_)
 obtain ⟨H1,I1,q1⟩:=qW
 cases c with
 | true=>exact ⟨H1,I1,q1⟩
 | false=>exact hb wh pins s1 σ H1 Q I1 q1
theorem zrg (ha:PT X a tA):PT X (.UnaryOp .Not a pos) (tNot tA):=by
 intro pins s σ H Q I h
 exact isTrue_not (thn (ha pins s σ H (λc H1=>Q (!c) H1) I h) λ_ _ ⟨H1,I1,q1⟩=>⟨H1,I1,q1⟩)
noncomputable def ztY (ta tb:TE):TE:=λσ H Q=>ta σ H λx H1=>∃ c,x=.bl c/\if c=true then tb σ H1 Q else Q (.bl false) H1
noncomputable def tOrV (ta tb:TE):TE:=λσ H Q=>ta σ H λx H1=>∃ c,x=.bl c/\if c=true then Q (.bl true) H1 else tb σ H1 Q
theorem zn9 {op} {t:TE} (h:PE X a t):PE X (.BoolOp op [a] pos) t:=λpins s σ H Q I hw=>BoolOp_one (h pins s σ H Q I hw)
theorem zrR (ha:PE X a ta) (hb:PE X (.BoolOp .And (b::rest) pos) tb):PE X (.BoolOp .And (a::b::rest) pos) (ztY ta tb):=by
 intro pins s σ H Q I h
 refine BoolOp_and (thn (ha pins s σ H _ I h) λv s1 qW=>?_)
 obtain ⟨x,H1,I1,r1,q1⟩:=qW
 obtain ⟨c,rfl,q1⟩:=q1
 cases r1
 refine wpAny_truthy_bool ?_
 cases c with
 | true=>exact hb pins s1 σ H1 Q I1 q1
 | false=>exact ⟨.bl false,H1,I1,rfl,q1⟩
theorem zto (ha:PE X a ta) (hb:PE X (.BoolOp .Or (b::rest) pos) tb):PE X (.BoolOp .Or (a::b::rest) pos) (tOrV ta tb):=by
 intro pins s σ H Q I h
 refine BoolOp_or (thn (ha pins s σ H _ I h) λv s1 qW=>?_)
 obtain ⟨x,H1,I1,r1,q1⟩:=qW
 obtain ⟨c,rfl,q1⟩:=q1
 cases r1
 refine wpAny_truthy_bool ?_
 cases c with
 | false=>exact hb pins s1 σ H1 Q I1 q1
 | true=>exact ⟨.bl true,H1,I1,rfl,q1⟩
noncomputable def tIf (t:TT) (ta tb:TE):TE:=λσ H Q=>t σ H λc H1=>if c=true then ta σ H1 Q else tb σ H1 Q
theorem znQ {c:Expr} (hc:PT X c tA) (ha:PE X a ta) (hb:PE X b tb):PE X (.IfExp c a b pos) (tIf tA ta tb):=by
 intro pins s σ H Q I h
 refine wpAny_IfExp (thn (hc pins s σ H _ I h) λd s1 qW=>?_)
 obtain ⟨H1,I1,q1⟩:=qW
 cases d with
 | true=>exact ha pins s1 σ H1 Q I1 q1
 | false=>exact hb pins s1 σ H1 Q I1 q1
end
noncomputable def SqL (K:PySem.W.Frag) (H:Hp) (a:Addr) (xs:List V):Prop:=
 Rd H a (.lst xs) ∨
  ∃ (o:Obj) (its:Array Value) (n:Nat),K.lookup a=some o/\o.cls=.type "list"/\o.dict=none/\o.data=.seq its n/\its.size<=sizeLine/\Vals xs its.toList
noncomputable def SqT (K:PySem.W.Frag) (H:Hp) (a:Addr) (xs:List V):Prop:=
 Rd H a (.tup xs) ∨
  ∃ (o:Obj) (its:Array Value) (n:Nat),K.lookup a=some o/\o.cls=.type "tuple"/\o.dict=none/\o.data=.seq its n/\its.size<=sizeLine/\Vals xs its.toList
noncomputable def absV:Value->Option V
 | .none=>some .non
 | .bool b=>some (.bl b)
 | .int i _=>some (.int i)
 | .str x _=>some (.str x)
 | .bytes b _=>some (.byt b)
 | .float b _=>some (.flt b)
 | .ref a=>some (.ref a)
 | .type n=>some (.ty n)
 | _=>none
theorem RelV.abs {x:V} {u:Value} (r:RelV x u):absV u=some x:=by
 cases x with
 | non=>cases r;rfl
 | bl _=>cases r;rfl
 | int _=>obtain ⟨t,rfl⟩:=r;rfl
 | str _=>obtain ⟨t,rfl⟩:=r;rfl
 | byt _=>obtain ⟨t,rfl⟩:=r;rfl
 | flt _=>obtain ⟨t,rfl⟩:=r;rfl
 | ref _=>cases r;rfl
 | ty _=>cases r;rfl
theorem RelV.inj {x y:V} {u:Value} (r:RelV x u) (q:RelV y u):x=y:=Option.some.inj (r.abs.symm.trans q.abs)
theorem Vals.inj {xs ys:List V} {us:List Value} (h:Vals xs us) (q:Vals ys us):xs=ys:=by
 induction h generalizing ys with
 | nil=>cases q;rfl
 | cons r t ih=>cases q with
  | cons r' t'=>rw [r.inj r',ih t']
section
variable {X:Cx} {pins:List (Addr×Obj)} {σ:St} {H:Hp} {s:Shared} {a:Addr} {xs ys:List V}
theorem SqT.of {K:PySem.W.Frag} (h:H a=some (.tup xs)):SqT K H a xs:=.inl (.inl h)
theorem Inv.list (I:Inv X pins σ H s) (h:SqL X.K H a xs):∃ its:List Value,Vals xs its/\PlainL s.heap a its.toArray/\xs.length<=sizeLine:=by
 rcases h with h | ⟨o,its,n,hk,hc,hd,hs,hz,r⟩
 ·obtain ⟨z,its,n,r,e⟩:=h.ok I.hok
  exact ⟨its,r,⟨_,n,e,rfl,rfl,rfl⟩,z⟩
 ·refine ⟨its.toList,r,⟨o,n,I.kIn a o hk,hc,hd,by simpa using hs⟩,?_⟩
  have e:=r.length
  simp only [Array.length_toList] at e
  omega
theorem Inv.tuple (I:Inv X pins σ H s) (h:SqT X.K H a xs):∃ its:List Value,Vals xs its/\IsTup s.heap a its.toArray/\xs.length<=sizeLine:=by
 rcases h with h | ⟨o,its,n,hk,hc,_,hs,hz,r⟩
 ·obtain ⟨z,its,r,p⟩:=h.ok I.hok
  exact ⟨its,r,p.1,z⟩
 ·refine ⟨its.toList,r,⟨o,I.kIn a o hk,hc,n,by simpa using hs⟩,?_⟩
  have e:=r.length
  simp only [Array.length_toList] at e
  omega
theorem Inv.tupleB (I:Inv X pins σ H s) (h:SqT X.K H a xs):∀ o,s.heap.get? a=some o->o.dict=none:=by
 rcases h with h | ⟨o,its,n,hk,hc,hd,hs,hz,r⟩
 ·obtain ⟨z,its,r,p⟩:=h.ok I.hok
  exact p.2
 ·intro o2 e2
  rw [I.kIn a o hk] at e2
  cases e2
  exact hd
theorem Inv.list_inj (I:Inv X pins σ H s) (h:SqL X.K H a xs) (h':SqL X.K H a ys):xs=ys:=by
 obtain ⟨its,r,⟨o,n,e,_,_,d⟩,_⟩:=I.list h
 obtain ⟨its',r',⟨o',n',e',_,_,d'⟩,_⟩:=I.list h'
 rw [e] at e';cases e'
 rw [d] at d'
 injection d' with d1 _
 have:its=its':=by simpa using congrArg Array.toList d1
 subst this
 exact r.inj r'
theorem Inv.tuple_inj (I:Inv X pins σ H s) (h:SqT X.K H a xs) (h':SqT X.K H a ys):xs=ys:=by
 obtain ⟨its,r,⟨o,e,_,n,d⟩,_⟩:=I.tuple h
 obtain ⟨its',r',⟨o',e',_,n',d'⟩,_⟩:=I.tuple h'
 rw [e] at e';cases e'
 rw [d] at d'
 injection d' with d1 _
 have:its=its':=by simpa using congrArg Array.toList d1
 subst this
 exact r.inj r'
end
noncomputable abbrev Cx.wish (X:Cx) (E:Value->Shared->Prop):Cx:={ X with xe:=E }
noncomputable abbrev Cx.nox (X:Cx):Cx:=X.wish λ_ _=>False
theorem Cx.Ok.wish {X:Cx} (ok:X.Ok) (E:Value->Shared->Prop):(X.wish E).Ok:=
 ⟨ok.mod,ok.kind,ok.glob,ok.blt,ok.above,ok.inj,ok.has,ok.cab,ok.hd,ok.frames,ok.stk,ok.exf,ok.bs,ok.bsz,ok.noex,ok.exfs,ok.funs,ok.frf⟩
theorem Cx.Ok.unwish {X:Cx} {E:Value->Shared->Prop} (ok:(X.wish E).Ok):X.Ok:=
 ⟨ok.mod,ok.kind,ok.glob,ok.blt,ok.above,ok.inj,ok.has,ok.cab,ok.hd,ok.frames,ok.stk,ok.exf,ok.bs,ok.bsz,ok.noex,ok.exfs,ok.funs,ok.frf⟩
section
variable {X:Cx} {pins:List (Addr×Obj)} {σ:St} {H:Hp} {s:Shared} {E:Value->Shared->Prop}
theorem Inv.wish (I:Inv X pins σ H s) (E:Value->Shared->Prop):Inv (X.wish E) pins σ H s:=⟨I.ok.wish E,I.os,I.bare,I.base,I.loc,I.cell,I.free,I.freeC,I.pin,I.hok,I.len⟩
theorem Inv.unwish (I:Inv (X.wish E) pins σ H s):Inv X pins σ H s:=⟨I.ok.unwish,I.os,I.bare,I.base,I.loc,I.cell,I.free,I.freeC,I.pin,I.hok,I.len⟩
theorem SP.unwish {D:Ends} {f:Flow} {s':Shared} (h:SP (X.wish E) pins D f s'):SP X pins D f s':=by
 cases f with
 | next=>obtain ⟨σ',H',I,q⟩:=h;exact ⟨σ',H',I.unwish,q⟩
 | brk=>obtain ⟨σ',H',I,q⟩:=h;exact ⟨σ',H',I.unwish,q⟩
 | cont=>obtain ⟨σ',H',I,q⟩:=h;exact ⟨σ',H',I.unwish,q⟩
 | ret u=>obtain ⟨v,σ',H',I,r,q⟩:=h;exact ⟨v,σ',H',I.unwish,r,q⟩
theorem PSs.nox {st:List Stmt} {t:TS} (h:PSs X.nox st t):PSs X st t:=λpins s σ H D I hw=>
 wpAny_mono (h pins s σ H D (I.wish _) hw) (λ_ _ q=>q.unwish) λ_ _ z=>False.elim z
end
section
variable {X:Cx} {st:Stmt} {rest:List Stmt} {t u:TS} {e:Expr} {te:TE} {pos:Pos}
noncomputable def ztm:TS:=λD σ H=>D.nx σ H
noncomputable def tSeq (t u:TS):TS:=λD σ H=>t { D with nx:=u D } σ H
theorem zo6:PSs X [] ztm:=λ_ _ σ H _ I h=>wpAny_execs_nil ⟨σ,H,I,h⟩
theorem zn3 (h1:PS X st t) (h2:PSs X rest u):PSs X (st::rest) (tSeq t u):=by
 intro pins s σ H D I h
 refine wpAny_execs_cons (thn (h1 pins s σ H { D with nx:=u D } I h) λf s1 q=>?_)
 cases f with
 | next=>
  obtain ⟨σ',H',I',q⟩:=q
  exact h2 pins s1 σ' H' D I' q
 | ret v=>exact q
 | brk=>exact q
 | cont=>exact q
theorem Inv.quiet {pins:List (Addr×Obj)} {σ:St} {H:Hp} {s:Shared} (I:Inv X pins σ H s):interactive X.env=false:=by simp [interactive,I.ok.kind]
noncomputable def ztN (te:TE):TS:=λD σ H=>te σ H λ_ H1=>D.nx σ H1
theorem zqC (he:PE X e te) (hs:swapsWith e none pos.line X.env=pure false:=by rfl):PS X (.Expr e pos) (ztN te):=by
 intro pins s σ H D I h
 exact wpAny_Expr_any (thn (he pins s σ H _ I h) λv s1 ⟨x,H1,I1,r1,q1⟩=>⟨σ,H1,I1,q1⟩) I.quiet hs
noncomputable def tRet (te:TE):TS:=λD σ H=>te σ H D.rt
theorem zqW (he:PE X e te):PS X (.Return (some e) pos) (tRet te):=by
 intro pins s σ H D I h
 exact wpAny_Return_some (thn (he pins s σ H _ I h) λv s1 ⟨x,H1,I1,r1,q1⟩=>⟨x,σ,H1,I1,r1,q1⟩)
noncomputable def tIfS (c:TT) (t u:TS):TS:=λD σ H=>c σ H λb H1=>if b=true then t D σ H1 else u D σ H1
theorem zs5 {c:Expr} {a b:List Stmt} {tc:TT} (hc:PT X c tc) (ha:PSs X a t) (hb:PSs X b u):PS X (.If c a b pos) (tIfS tc t u):=by
 intro pins s σ H D I h
 refine wpAny_If (thn (hc pins s σ H _ I h) λd s1 qW=>?_)
 obtain ⟨H1,I1,q1⟩:=qW
 cases d with
 | true=>exact ha pins s1 σ H1 D I1 q1
 | false=>exact hb pins s1 σ H1 D I1 q1
end
noncomputable abbrev TG:=V->St->Hp->(St->Hp->Prop)->Prop
noncomputable abbrev TGs:=List V->St->Hp->(St->Hp->Prop)->Prop
noncomputable def PG (X:Cx) (target:Expr) (t:TG):Prop:=
 ∀ (pins:List (Addr×Obj)) (s:Shared) (σ:St) (H:Hp) (v:V) (u:Value) (Q:St->Hp->Prop),Inv X pins σ H s->RelV v u->t v σ H Q →
  wpAny (model X.prog X.w) X.A (assign target X.env u) (λ_ s'=>∃ σ' H',Inv X pins σ' H' s'/\Q σ' H') X.xe s
noncomputable def PGs (X:Cx) (ts:List Expr) (t:TGs):Prop:=
 ∀ (pins:List (Addr×Obj)) (s:Shared) (σ:St) (H:Hp) (vs:List V) (us:List Value) (Q:St->Hp->Prop),Inv X pins σ H s->Vals vs us->t vs σ H Q →
  wpAny (model X.prog X.w) X.A (assignInOrder ((assignEach ts X.env).map (·.2)) us) (λ_ s'=>∃ σ' H',Inv X pins σ' H' s'/\Q σ' H') X.xe s
noncomputable abbrev TSet:=V->V->V->Hp->(Hp->Prop)->Prop
noncomputable def PSet (X:Cx) (t:TSet):Prop:=
 ∀ (pins:List (Addr×Obj)) (s:Shared) (σ:St) (H:Hp) (o i v:V) (ov iv u:Value) (Q:Hp->Prop),Inv X pins σ H s->RelV o ov->RelV i iv->RelV v u->t o i v H Q →
  wpAny (model X.prog X.w) X.A (setItem ov iv u) (λ_ s'=>∃ H',Inv X pins σ H' s'/\Q H') X.xe s
section
variable {X:Cx} {pos:Pos}
noncomputable def zmP (i:Nat):TG:=λv σ H Q=>Q (σ.set i (some v)) H
theorem zlh {i:Nat} {x:Str} (hN:X.N.Nodup) (hi:X.N[i]?=some x) (hx:Loc X.env.scope x) (hf:X.fn x=true\/X.env.scope.names.lookup x=some .local:=by first | exact .inl rfl | exact .inr rfl | assumption):PG X (.Name x pos) (zmP i):=by
 intro pins s σ H v u Q I r h
 exact wpAny_assign_Name (zm2 I hN hi hx r (λs' I'=>⟨_,H,I',h⟩) hf)
noncomputable def gNil:TGs:=λvs σ H Q=>vs=[]/\Q σ H
noncomputable def zta (t:TG) (u:TGs):TGs:=λvs σ H Q=>∃ v r,vs=v::r/\t v σ H λσ' H'=>u r σ' H' Q
theorem zkG:PGs X [] gNil:=by
 intro pins s σ H vs us Q I r h
 obtain ⟨e,h⟩:=h
 subst e
 cases r
 exact assignInOrder_nil ⟨σ,H,I,h⟩
theorem zfG {e:Expr} {es:List Expr} {t:TG} {u:TGs} (h1:PG X e t) (h2:PGs X es u)
  (hs:(assignEach (e::es) X.env).map (·.2)=assign e X.env::(assignEach es X.env).map (·.2):=by rfl):PGs X (e::es) (zta t u):=by
 intro pins s σ H vs us Q I r h
 obtain ⟨v,vr,e1,h⟩:=h
 subst e1
 cases r with
 | cons r rr=>
  rw [hs]
  refine assignInOrder_cons (thn (h1 pins s σ H _ _ _ I r h) λ_ s1 qW=>?_)
  obtain ⟨σ1,H1,I1,q1⟩:=qW
  exact h2 pins s1 σ1 H1 _ _ Q I1 rr q1
noncomputable def gTup (K:PySem.W.Frag) (n:Nat) (t:TGs):TG:=λv σ H Q=>∃ a xs,v=.ref a/\SqT K H a xs/\xs.length=n/\t xs σ H Q
theorem zoz {es:List Expr} {k:Nat} {t:TGs} {n:Nat} (hc:X.calm=true) (h:PGs X es t)
  (hn:(assignEach es X.env).length=n:=by rfl) (hst:(assignEach es X.env).findIdx? (·.1)=none:=by rfl):PG X (.Tuple es k pos) (gTup X.K n t):=by
 intro pins s σ H v u Q I r hw
 obtain ⟨a,xs,e1,hq,hl,hw⟩:=hw
 subst e1
 cases r
 obtain ⟨its,rv,ht,hz⟩:=I.tuple hq
 refine assign_Tuple_tuple (I.ok.hd hc) ht (by simp [hn,<-hl,rv.length]) hst λh' hx=>?_
 have I1:Inv X pins σ H { s with heap:=h' }:=I.kept (t':=s.toks) λb o e=>hx b o (Nat.ne_of_lt (Heap.lt_size e)) e
 exact h pins _ σ H xs _ Q I1 (by simpa using rv) hw
noncomputable def gSub (to ti:TE) (t:TSet):TG:=λv σ H Q=>to σ H λo H1=>ti σ H1 λi H2=>t o i v H2 λH3=>Q σ H3
theorem zrS {o i:Expr} {to ti:TE} {t:TSet} (ho:PE X o to) (hi:PE X i ti) (hs:PSet X t)
  (ha:∀ v,assign (.Subscript o i pos) X.env v=(do
   let ov<-holding [v] (eval o X.env)
   let iv<-holding [v,ov] (eval i X.env)
   standAt pos
   holding [v,ov,iv] (setItem ov iv v)
   release [v,ov,iv] []):=by intro _;rfl):PG X (.Subscript o i pos) (gSub to ti t):=by
 intro pins s σ H v u Q I r h
 rw [ha]
 refine wpAny_bind (wpAny_holding (thn (ho pins s σ H _ I h) λov s1 qW=>?_))
 obtain ⟨x,H1,I1,r1,q1⟩:=qW
 refine wpAny_bind (wpAny_holding (thn (hi pins s1 σ H1 _ I1 q1) λiv s2 qW=>?_))
 obtain ⟨y,H2,I2,r2,q2⟩:=qW
 refine wpAny_bind (wpAny_standAt (wpAny_bind (wpAny_holding (thn (hs pins s2 σ H2 x y v ov iv u _ I2 r1 r2 r q2) λ_ s3 qW=>?_))))
 obtain ⟨H3,I3,q3⟩:=qW
 exact wpAny_release ⟨σ,H3,I3,q3⟩
noncomputable def tAsg (te:TE) (g:TG):TS:=λD σ H=>te σ H λx H1=>g x σ H1 D.nx
theorem zoC {tg e:Expr} {te:TE} {g:TG} (he:PE X e te) (hg:PG X tg g) (hs:swapsWithSole [tg] e pos.line X.env=pure false:=by rfl) (hw:swappedStores [tg] e X.env=pure none:=by rfl)
  (h1:(assignEach [tg] X.env).map (·.2)=[assign tg X.env]:=by rfl):PS X (.Assign [tg] e pos) (tAsg te g):=by
 intro pins s σ H D I h
 refine wpAny_Assign_stores (thn (he pins s σ H _ I h) λv s1 qW=>?_) hs hw
 obtain ⟨x,H1,I1,r1,q1⟩:=qW
 rw [h1]
 exact thn (hg pins s1 σ H1 x v _ I1 r1 q1) λ_ s2 q=>q
end
section
variable {X:Cx} {pos:Pos}
end
structure It where
 go:Nat->Hp->Prop
 yld:Nat->Hp->V->Hp->Prop
 stop:Nat->Hp->Prop
noncomputable def FpOk (X:Cx) (pins:List (Addr×Obj)) (H:Hp) (b:Addr):Prop:=
 H b=none/\b≠X.env.locals/\b ∉ X.fs/\(b∈X.ex\/X.s₀.heap.objs.size<=b)/\(∀ x c,X.env.cells.lookup x=some c->c≠b)/\∀ p∈X.pn++pins,p.1≠b
theorem Inv.fpOk {X:Cx} {pins:List (Addr×Obj)} {σ:St} {H H':Hp} {s:Shared} {b:Addr} (I:Inv X pins σ H s) (hb:s.heap.objs.size<=b) (hn:H' b=none):FpOk X pins H' b:=by
 refine ⟨hn,Nat.ne_of_gt (Nat.lt_of_lt_of_le I.lt hb),I.nofs hb,.inr (Nat.le_trans I.sz hb),λx c e z=>?_,λp hp z=>?_⟩
 ·obtain ⟨v,q⟩:=I.cell x c e
  exact absurd (Nat.lt_of_lt_of_le q.lt (by rw [z];exact hb)) (Nat.lt_irrefl _)
 ·exact absurd (Nat.lt_of_lt_of_le (Heap.lt_size (I.pin p hp).1) (by rw [z];exact hb)) (Nat.lt_irrefl _)
structure Turn (P:Program) (w:World) (K:PySem.W.Frag) (tg:Expr) (J:It) (fp:List Addr) (it:Addr) (tn:Nat->Heap->Prop):Prop where
 mem:it∈fp
 obj:∀ i h,tn i h->∀ b∈fp,∃ o,h.get? b=some o/\∀ v,o.data≠.cell v
 keep:∀ i h h',tn i h->(∀ b∈fp,∀ o,h.get? b=some o->h'.get? b=some o)->tn i h'
 item:∀ (X:Cx),X.prog=P->X.w=w->X.K=K->X.calm=true->∀ (i:Nat) (pins:List (Addr×Obj)) (s:Shared) (σ:St) (H:Hp) (E:Value->Shared->Prop),Inv X pins σ H s->(∀ b∈fp,FpOk X pins H b)->tn i s.heap->J.go i H →
  wpAny (model P w) X.A (pyNext (.ref it)) (λr s1=>∃ u,r=some u ∧
   wpAny (model P w) X.A (letOwnedTupleGo tg (.ref it) u) (λ_ s2=>∃ x H',Inv X pins σ H' s2/\RelV x u/\J.yld i H x H'/\tn (i+1) s2.heap/\∀ b∈fp,H' b=none) E s1) E s
 done:∀ (X:Cx),X.prog=P->X.w=w->X.K=K->X.calm=true->∀ (i:Nat) (pins:List (Addr×Obj)) (s:Shared) (σ:St) (H:Hp) (E:Value->Shared->Prop),Inv X pins σ H s->(∀ b∈fp,FpOk X pins H b)->tn i s.heap->J.stop i H →
  wpAny (model P w) X.A (pyNext (.ref it)) (λr s1=>r=none/\Inv X pins σ H s1) E s
 self:∀ (A:Around) (i:Nat) (s:Shared) (Q:Value->Shared->Prop) (E:Value->Shared->Prop),tn i s.heap->Q (.ref it) s->wpAny (model P w) A (pyIter (.ref it)) Q E s
noncomputable abbrev TI:=St->Hp->(It->Hp->Prop)->Prop
noncomputable def PIE (X:Cx) (pins:List (Addr×Obj)) (σ:St) (tg:Expr) (R:It->Hp->Prop) (itv:Value) (s2:Shared):Prop:=
 ∃ (it:Addr) (fp:List Addr) (tn:Nat->Heap->Prop) (J:It) (H':Hp),itv=.ref it/\Inv X pins σ H' s2/\Turn X.prog X.w X.K tg J fp it tn/\tn 0 s2.heap/\(∀ b∈fp,FpOk X pins H' b)/\R J H'
noncomputable def PI (X:Cx) (tg iter:Expr) (wi:TI):Prop:=
 ∀ (pins:List (Addr×Obj)) (s:Shared) (σ:St) (H:Hp) (R:It->Hp->Prop),Inv X pins σ H s->wi σ H R →
  wpAny (model X.prog X.w) X.A (eval iter X.env) (λv s1=>wpAny (model X.prog X.w) X.A (pyIter v) (PIE X pins σ tg R) X.xe s1) X.xe s
theorem zmQ {M:Model} {A:Around} {E:Value->Shared->Prop} {s:Shared} {tg:Expr} {it:Addr} {u:Value} {o:Obj} {n:String} {vs:Array Value} {Q:Unit->Shared->Prop} (ho:s.heap.get? it=some o) (hc:o.cls=.type n) (hd:o.data=.fields vs)
    (hn:["enumerate", "zip", "dict_itemiterator", "dict_reverseitemiterator", "odict_iterator", "itertools.zip_longest", "itertools.pairwise"].contains n=false) (hQ:Q () s):wpAny M A (letOwnedTupleGo tg (.ref it) u) Q E s:=by
  unfold letOwnedTupleGo
  cases tg <;> first
    | exact wpAny_pure hQ
    | (cases u<;>first
        | exact wpAny_pure hQ
        | (refine wpAny_bind (wpAny_load ho ?_)
           rw [hc,hd]
           show wpAny M A (if (["enumerate", "zip", "dict_itemiterator", "dict_reverseitemiterator", "odict_iterator", "itertools.zip_longest", "itertools.pairwise"].contains n&&vs[0]?==some (rawInt _))=true then _ else _) Q E s
           rw [if_neg (by intro h;rw [hn,Bool.false_and] at h;cases h)]
           exact wpAny_pure hQ))
noncomputable def Itl (K:PySem.W.Frag) (a:Addr):It:=
 ⟨λi H=>∃ xs x,SqL K H a xs/\xs[i]?=some x,λi H x H'=>H'=H/\∀ xs,SqL K H a xs->xs[i]?=some x,λi H=>∃ xs,SqL K H a xs/\xs.length<=i⟩
noncomputable def Itt (K:PySem.W.Frag) (a:Addr):It:=
 ⟨λi H=>∃ xs x,SqT K H a xs/\xs[i]?=some x,λi H x H'=>H'=H/\∀ xs,SqT K H a xs->xs[i]?=some x,λi H=>∃ xs,SqT K H a xs/\xs.length<=i⟩
noncomputable def Itr (lo:Int) (n:Nat):It:=⟨λi _=>i<n,λi H x H'=>H'=H/\x=.int (lo+i),λi _=>n<=i⟩
theorem zl8 {P:Program} {w:World} {K:PySem.W.Frag} {tg:Expr} (a it:Addr):Turn P w K tg (Itl K a) [it] it (λi h=>h.IsListIter it a i) where
 mem:=by simp
 obj:=λi h st b hb=>by
  have e:b=it:=by simpa using hb
  subst e
  obtain ⟨o,e,c,d⟩:=st
  exact ⟨o,e,λv z=>by rw [d] at z;cases z⟩
 keep:=λi h h' st k=>st.at λo e=>k it (by simp) o e
 item:=by
  intro X hP hw hK hc i pins s σ H E I hf st hg
  subst hP hw hK
  obtain ⟨xs,x,hq,hx⟩:=hg
  obtain ⟨its,rv,p,hz⟩:=I.list hq
  obtain ⟨u,hu,ru⟩:=rv.get hx
  obtain ⟨f0,f1,f2,f3,f4,f5⟩:=hf it (by simp)
  refine wpAny_pyNext_list_item st p.isList (x:=u) (by simpa using hu) λh' st' sb=>?_
  have I1:Inv X pins σ H { s with heap:=h' }:=I.turned (t':=s.toks) (λb o hb e=>(sb.2 b hb).trans e) f0 f1 f3 f4 f5
  obtain ⟨o,e,c,d⟩:=id st'
  exact ⟨u,rfl,zmQ (s:={ s with heap:=h' }) e c d (by decide) ⟨x,H,I1,ru,⟨rfl,λys hy=>by rw [I.list_inj hy hq];exact hx⟩,st',λb hb=>(hf b hb).1⟩⟩
 done:=by
  intro X hP hw hK hc i pins s σ H E I hf st hg
  subst hP hw hK
  obtain ⟨xs,hq,hx⟩:=hg
  obtain ⟨its,rv,p,hz⟩:=I.list hq
  obtain ⟨f0,f1,f2,f3,f4,f5⟩:=hf it (by simp)
  have hl:=rv.length
  exact wpAny_pyNext_list_end (I.ok.hd hc) st p.isList (by simp;omega) λh' eb=>⟨rfl,I.turned (t':=s.toks) (λb o hb e=>eb b o hb e) f0 f1 f3 f4 f5⟩
 self:=λ_ _ _ _ _ st h=>wpAny_pyIter_listiter st h
theorem zjl {P:Program} {w:World} {K:PySem.W.Frag} {tg:Expr} (a it:Addr):Turn P w K tg (Itt K a) [it] it (λi h=>h.IsTupleIter it a i) where
 mem:=by simp
 obj:=λi h st b hb=>by
  have e:b=it:=by simpa using hb
  subst e
  obtain ⟨o,e,c,d⟩:=st
  exact ⟨o,e,λv z=>by rw [d] at z;cases z⟩
 keep:=λi h h' st k=>st.at λo e=>k it (by simp) o e
 item:=by
  intro X hP hw hK hc i pins s σ H E I hf st hg
  subst hP hw hK
  obtain ⟨xs,x,hq,hx⟩:=hg
  obtain ⟨its,rv,p,hz⟩:=I.tuple hq
  obtain ⟨u,hu,ru⟩:=rv.get hx
  obtain ⟨f0,f1,f2,f3,f4,f5⟩:=hf it (by simp)
  refine wpAny_pyNext_tuple_item st (show s.heap.IsTuple a its.toArray from p) (x:=u) (by simpa using hu) λh' st' sb=>?_
  have I1:Inv X pins σ H { s with heap:=h' }:=I.turned (t':=s.toks) (λb o hb e=>(sb.2 b hb).trans e) f0 f1 f3 f4 f5
  obtain ⟨o,e,c,d⟩:=id st'
  exact ⟨u,rfl,zmQ (s:={ s with heap:=h' }) e c d (by decide) ⟨x,H,I1,ru,⟨rfl,λys hy=>by rw [I.tuple_inj hy hq];exact hx⟩,st',λb hb=>(hf b hb).1⟩⟩
 done:=by
  intro X hP hw hK hc i pins s σ H E I hf st hg
  subst hP hw hK
  obtain ⟨xs,hq,hx⟩:=hg
  obtain ⟨its,rv,p,hz⟩:=I.tuple hq
  obtain ⟨f0,f1,f2,f3,f4,f5⟩:=hf it (by simp)
  have hl:=rv.length
  exact wpAny_pyNext_tuple_end (I.ok.hd hc) st (show s.heap.IsTuple a its.toArray from p) (by simp;omega) λh' eb=>⟨rfl,I.turned (t':=s.toks) (λb o hb e=>eb b o hb e) f0 f1 f3 f4 f5⟩
 self:=λ_ _ _ _ _ st h=>wpAny_pyIter_tupleiter st h
theorem zjF {P:Program} {w:World} {K:PySem.W.Frag} {tg:Expr} (it:Addr) (lo:Int) (n:Nat):Turn P w K tg (Itr lo n) [it] it (λi h=>IsRangeIter h it (lo+(i:Nat)*1) ((n:Int)-(i:Nat)) 1) where
 mem:=by simp
 obj:=λi h st b hb=>by
  have e:b=it:=by simpa using hb
  subst e
  exact ⟨_,st,λv z=>by
   have z':Data.fields _=Data.cell v:=z
   cases z'⟩
 keep:=λi h h' st k=>k it (by simp) _ st
 item:=by
  intro X hP hw hK hc i pins s σ H E I hf st hg
  subst hP hw hK
  obtain ⟨f0,f1,f2,f3,f4,f5⟩:=hf it (by simp)
  have W:=Walks.range (prog:=X.prog) (w:=X.w) (I.ok.hd hc) it lo 1 n
  refine W.item i s _ _ hg st λv h' tk hv st' kk=>?_
  obtain ⟨t,rfl⟩:=hv
  have I1:Inv X pins σ H { s with heap:=h',toks:=tk }:=I.turned (λb o hb e=>kk b o (by simpa using hb) e) f0 f1 f3 f4 f5
  refine ⟨_,rfl,zmQ (s:={ s with heap:=h',toks:=tk }) (n:="range_iterator") st' rfl rfl (by decide) ⟨.int (lo+i),H,I1,⟨t,?_⟩,⟨rfl,rfl⟩,st',λb hb=>(hf b hb).1⟩⟩
  rw [Int.mul_one]
 done:=by
  intro X hP hw hK hc i pins s σ H E I hf st hg
  subst hP hw hK
  obtain ⟨f0,f1,f2,f3,f4,f5⟩:=hf it (by simp)
  exact wpAny_pyNext_range_end (I.ok.hd hc) st (by have:n<=i:=hg;omega) λh' eb=>⟨rfl,I.turned (t':=s.toks) (λb o hb e=>eb b o hb e) f0 f1 f3 f4 f5⟩
 self:=λ_ _ _ _ _ st h=>wpAny_pyIter_rangeiter st h
section
variable {X:Cx} {tg:Expr}
theorem ziJ {pins:List (Addr×Obj)} {σ:St} {H:Hp} {s:Shared} {R:It->Hp->Prop} {E:Value->Shared->Prop} {lo hi:Int} {t u v:Tok} {tk:Nat} (I:Inv X pins σ H s) (h1:-(2 ^ 62)<=lo) (h2:lo<2 ^ 62) (h3:-(2 ^ 62)<=hi) (h4:hi<2 ^ 62)
  (q:R (Itr lo (hi-lo).toNat) H):wpAny (model X.prog X.w) X.A (pyIter (.ref s.heap.objs.size)) (PIE X pins σ tg R) E { s with heap:=s.heap.push { cls:=.type "range",data:=.fields #[.int lo t,.int hi u,.int 1 v] },toks:=tk }:=by
 refine wpAny_pyIter_range (IsRange.new ..) (small_one h1 h2 h3 h4) ?_
 have I1:Inv X pins σ H { s with heap:=s.heap.push { cls:=.type "range",data:=.fields #[.int lo t,.int hi u,.int 1 v] },toks:=tk }:=I.kept λb o e=>Heap.get?_push_of_some _ e
 refine ⟨(s.heap.push { cls:=.type "range",data:=.fields #[.int lo t,.int hi u,.int 1 v] }).objs.size,[(s.heap.push { cls:=.type "range",data:=.fields #[.int lo t,.int hi u,.int 1 v] }).objs.size],_,_,H,rfl,
  I1.kept (t':=tk) λb o e=>Heap.get?_push_of_some _ e,zjF _ lo (hi-lo).toNat,?_,λb hb=>?_,q⟩
 ·have e1:lo+((0:Nat):Int)*1=lo:=by simp
  have e2:(((hi-lo).toNat:Nat):Int)-((0:Nat):Int)=Builtin.Range.rangeSize lo hi 1:=by rw [rangeSize_one];split<;>omega
  show IsRangeIter _ _ (lo+((0:Nat):Int)*1) ((((hi-lo).toNat:Nat):Int)-((0:Nat):Int)) 1
  rw [e1,e2]
  exact Heap.get?_push_size _ rfl
 ·have e:b=(s.heap.push { cls:=.type "range",data:=.fields #[.int lo t,.int hi u,.int 1 v] }).objs.size:=by simpa using hb
  subst e
  exact I1.fpOk (Nat.le_refl _) (I1.hok.fresh (Nat.le_refl _))
noncomputable def ztT (ta:TA):TI:=λσ H R=>ta σ H λvs H1=>∃ j:Int,vs=[.int j]/\-(2 ^ 62)<=j/\j<2 ^ 62/\R (Itr 0 j.toNat) H1
noncomputable def ztf (ta:TA):TI:=λσ H R=>ta σ H λvs H1=>∃ i j:Int,vs=[.int i,.int j]/\(-(2 ^ 62)<=i/\i<2 ^ 62/\-(2 ^ 62)<=j/\j<2 ^ 62)/\R (Itr i (j-i).toNat) H1
theorem zmt {a:Expr} {ta:TA} {p pos:Pos} (hg:Gl X "range") (hm:X.mg "range"=none) (ha:PA X [a] ta) (hs:starEach [a] X.env=[(false,eval a X.env)]:=by rfl):PI X tg (.Call (.Name "range" p) [a] [] pos) (ztT ta):=by
 intro pins s σ H R I h
 refine Call_ (zeS I hg hm boot_range (PyProof.Rows.callWith_type1 (thn (ha pos pins s σ H _ I h) λus s1 qW=>?_) hs rfl))
 obtain ⟨vs,H1,I1,r1,q1⟩:=qW
 obtain ⟨j,e,q1,q2,q⟩:=q1
 subst e
 cases r1 with
 | cons r rr=>
  cases rr
  obtain ⟨t,rfl⟩:=r
  exact call_range_1 (ziJ I1 (by omega) (by omega) q1 q2 (by simpa using q))
theorem zkI {a b:Expr} {ta:TA} {p pos:Pos} (hg:Gl X "range") (hm:X.mg "range"=none) (ha:PA X [a,b] ta) (hs:starEach [a,b] X.env=[(false,eval a X.env),(false,eval b X.env)]:=by rfl) (hs2:starEach [b] X.env=[(false,eval b X.env)]:=by rfl) :
  PI X tg (.Call (.Name "range" p) [a,b] [] pos) (ztf ta):=by
 intro pins s σ H R I h
 refine Call_ (zeS I hg hm boot_range (PyProof.Rows.callWith_type1 (thn (ha pos pins s σ H _ I h) λus s1 qW=>?_) (by rw [hs,hs2]) (by rw [hs2];rfl)))
 obtain ⟨vs,H1,I1,r1,q1⟩:=qW
 obtain ⟨i,j,e,⟨q1,q2,q3,q4⟩,q⟩:=q1
 subst e
 cases r1 with
 | cons r rr=>
  cases rr with
  | cons r' rr=>
   cases rr
   obtain ⟨t,rfl⟩:=r
   obtain ⟨t',rfl⟩:=r'
   exact call_range_2 (ziJ I1 q1 q2 q3 q4 q)
noncomputable def tFor (wi:TI) (g:TG) (tb:TS):TS:=λD σ H=>wi σ H λJ H1=>∃ W:Nat->Nat->St->Hp->Prop,(∃ m,W 0 m σ H1)/\∀ i m σ H,W i m σ H →
 (J.stop i H/\D.nx σ H)\/(J.go i H/\∃ N:St->Hp->Prop,(∀ σ' H',N σ' H'->∃ m',m'<m/\W (i+1) m' σ' H')/\∀ x H',J.yld i H x H'->g x σ H' λσ2 H2=>tb { D with nx:=N,ct:=N,bk:=D.nx } σ2 H2)
noncomputable def zgf (fp:List Addr) (h:Heap):List (Addr×Obj):=fp.filterMap λb=>(h.get? b).map λo=>(b,o)
theorem zbL {fp:List Addr} {h:Heap} {b:Addr} {o:Obj} (hb:b∈fp) (e:h.get? b=some o):(b,o)∈zgf fp h:=List.mem_filterMap.mpr ⟨b,hb,by rw [e];rfl⟩
theorem zkU {fp:List Addr} {h:Heap} {p:Addr×Obj} (hp:p∈zgf fp h):p.1∈fp/\h.get? p.1=some p.2:=by
 obtain ⟨b,hb,e⟩:=List.mem_filterMap.mp hp
 cases q:h.get? b with
 | none=>rw [q] at e;cases e
 | some o=>
  rw [q] at e
  have e':(b,o)=p:=Option.some.inj e
  subst e'
  exact ⟨hb,q⟩
theorem Inv.pinned {pins:List (Addr×Obj)} {σ:St} {H:Hp} {s:Shared} {fp:List Addr} (I:Inv X pins σ H s) (hf:∀ b∈fp,FpOk X pins H b) (ho:∀ b∈fp,∃ o,s.heap.get? b=some o/\∀ v,o.data≠.cell v):Inv X (pins++zgf fp s.heap) σ H s:=
 I.pins_of λp hp=>(List.mem_append.mp hp).elim (λz=>I.pin p (List.mem_append_right _ z)) λz=>by
  obtain ⟨hb,e⟩:=zkU z
  obtain ⟨f0,f1,f2,_⟩:=hf p.1 hb
  obtain ⟨o,e',d⟩:=ho p.1 hb
  rw [e] at e';cases e'
  exact ⟨e,f0,f1,f2,d⟩
theorem Inv.unpinned {pins pl:List (Addr×Obj)} {σ:St} {H:Hp} {s:Shared} (I:Inv X (pins++pl) σ H s):Inv X pins σ H s:=I.pins_of λp hp=>I.pin p (List.mem_append_right _ (List.mem_append_left _ hp))
theorem zqZ {iter:Expr} {body:List Stmt} {wi:TI} {g:TG} {tb:TS} {pos:Pos} (hp:PassesOwn (model X.prog X.w) X.A X.env X.xe) (hc:X.calm=true) (hi:PI X tg iter wi) (hg:PG X tg g) (hb:PSs X body tb)
  (hs:∀ x,foldedSetIterable iter X.env x=pure x:=by intro _;rfl):PS X (.For tg iter body [] pos) (tFor wi g tb):=by
 intro pins s σ H D I h
 refine wpAny_For (thn (hi pins s σ H _ I h) λv s1 h1=>thn h1 λitv s2 h2=>?_) hs
 obtain ⟨it,fp,tn,J,H2,e,I2,T,st2,f2,W,⟨m0,w0⟩,turn⟩:=h2
 subst e
 have stat:∀ {H':Hp},(∀ b∈fp,H' b=none)->∀ b∈fp,FpOk X pins H' b:=λhn b hb=>⟨hn b hb,(f2 b hb).2⟩
 refine codeAny_forLoop_any (λn s'=>∃ i σ' H',Inv X pins σ' H' s'/\tn i s'.heap/\(∀ b∈fp,H' b=none)/\W i n σ' H') ?_ m0 ⟨0,σ,H2,I2,st2,λb hb=>(f2 b hb).1,w0⟩
 rintro n s3 ⟨i,σ3,H3,I3,st3,fr3,w3⟩
 rcases turn i n σ3 H3 w3 with ⟨stop,qn⟩ | ⟨go,N,hN,step⟩
 ·refine wpAny_passesOwn hp (thn (T.done X rfl rfl rfl hc i pins s3 σ3 H3 X.xe I3 (stat fr3) st3 stop) λr s4 qW=>?_)
  obtain ⟨hr,I4⟩:=qW
  subst hr
  exact wpAny_execs_nil ⟨σ3,H3,I4,qn⟩
 ·refine wpAny_passesOwn hp (thn (T.item X rfl rfl rfl hc i pins s3 σ3 H3 X.xe I3 (stat fr3) st3 go) λr s4 qW=>?_)
  obtain ⟨u,hr,h4⟩:=qW
  subst hr
  refine wpAny_passesOwn hp (thn h4 λ_ s5 qW=>?_)
  obtain ⟨x,H5,I5,r5,y5,st5,fr5⟩:=qW
  have I5':=I5.pinned (stat fr5) (T.obj _ _ st5)
  refine wpAny_passesOwn hp (thn (hg _ s5 σ3 H5 x u _ I5' r5 (step x H5 y5)) λ_ s6 qW=>?_)
  obtain ⟨σ6,H6,I6,q6⟩:=qW
  refine wpAny_passesOwn hp (thn (hb _ s6 σ6 H6 _ I6 q6) λf s7 q7=>?_)
  have again:∀ {σ7:St} {H7:Hp},Inv X (pins++zgf fp s5.heap) σ7 H7 s7->N σ7 H7->∃ m,m<n/\∃ i σ' H',Inv X pins σ' H' s7/\tn i s7.heap/\(∀ b∈fp,H' b=none)/\W i m σ' H':=λ{σ7 H7} I7 n7=>by
   obtain ⟨m',hm,w7⟩:=hN σ7 H7 n7
   refine ⟨m',hm,i+1,σ7,H7,I7.unpinned,T.keep _ _ _ st5 λb hb o e=>(I7.pin (b,o) (List.mem_append_right _ (List.mem_append_right _ (zbL hb e)))).1,λb hb=>?_,w7⟩
   obtain ⟨o,e,d⟩:=T.obj _ _ st5 b hb
   exact (I7.pin (b,o) (List.mem_append_right _ (List.mem_append_right _ (zbL hb e)))).2.1
  cases f with
  | next=>obtain ⟨σ7,H7,I7,n7⟩:=q7;exact again I7 n7
  | cont=>obtain ⟨σ7,H7,I7,n7⟩:=q7;exact again I7 n7
  | brk=>obtain ⟨σ7,H7,I7,q7⟩:=q7;exact ⟨σ7,H7,I7.unpinned,q7⟩
  | ret v=>obtain ⟨x7,σ7,H7,I7,r7,q7⟩:=q7;exact ⟨x7,σ7,H7,I7.unpinned,r7,q7⟩
end
noncomputable abbrev R2:=V->V->Hp->VK->Prop
noncomputable def OpR (X:Cx) (f:Value->Value->Sem Value) (r:R2):Prop:=
 ∀ (pins:List (Addr×Obj)) (s:Shared) (σ:St) (H:Hp) (x y:V) (v u:Value) (Q:VK),Inv X pins σ H s->RelV x v->RelV y u->r x y H Q →
  wpAny (model X.prog X.w) X.A (f v u) (EP X pins σ Q) X.xe s
noncomputable def UnR (X:Cx) (f:Value->Sem Value) (r:V->Hp->VK->Prop):Prop:=
 ∀ (pins:List (Addr×Obj)) (s:Shared) (σ:St) (H:Hp) (x:V) (v:Value) (Q:VK),Inv X pins σ H s->RelV x v->r x H Q →
  wpAny (model X.prog X.w) X.A (f v) (EP X pins σ Q) X.xe s
noncomputable def zgw (X:Cx) (f:Value) (r:List V->Hp->VK->Prop):Prop:=
 ∀ (pins:List (Addr×Obj)) (s:Shared) (σ:St) (H:Hp) (xs:List V) (us:List Value) (Q:VK),Inv X pins σ H s->Vals xs us->r xs H Q →
  wpAny (model X.prog X.w) X.A (call f us) (EP X pins σ Q) X.xe s
noncomputable def TruR (X:Cx) (r:V->Hp->(Bool->Hp->Prop)->Prop):Prop:=
 ∀ (pins:List (Addr×Obj)) (s:Shared) (σ:St) (H:Hp) (x:V) (v:Value) (Q:Bool->Hp->Prop),Inv X pins σ H s->RelV x v->r x H Q →
  wpAny (model X.prog X.w) X.A (truthy v) (TP X pins σ Q) X.xe s
noncomputable def tOp (r:R2) (ta tb:TE):TE:=λσ H Q=>ta σ H λx H1=>tb σ H1 λy H2=>r x y H2 Q
noncomputable def tUn (r:V->Hp->VK->Prop) (ta:TE):TE:=λσ H Q=>ta σ H λx H1=>r x H1 Q
noncomputable def rI (C:Int->Int->Prop) (g:Int->Int->V):R2:=λx y H Q=>∃ i j,x=.int i/\y=.int j/\C i j/\Q (g i j) H
noncomputable def rI0 (g:Int->Int->V):R2:=λx y H Q=>∃ i j,x=.int i/\y=.int j/\Q (g i j) H
noncomputable def rU (g:Int->V):V->Hp->VK->Prop:=λx H Q=>∃ i,x=.int i/\Q (g i) H
section
variable {X:Cx} {a b c:Expr} {ta tb tc:TE} {pos:Pos}
theorem binT (ha:PE X a ta) (hb:PE X b tb) {pins:List (Addr×Obj)} {s:Shared} {σ:St} {H:Hp} {R:V->V->Hp->Prop} (I:Inv X pins σ H s)
  (h:ta σ H λx H1=>tb σ H1 λy H2=>R x y H2) {Q:Value->Shared->Prop} {f:Value->Value->Sem Value}
  (hf:∀ v u s2 x y H2,Inv X pins σ H2 s2->RelV x v->RelV y u->R x y H2->wpAny (model X.prog X.w) X.A (f v u) Q X.xe s2) :
  wpAny (model X.prog X.w) X.A (eval a X.env) (λv s₁=>wpAny (model X.prog X.w) X.A (eval b X.env) (λu s₂=>wpAny (model X.prog X.w) X.A (f v u) Q X.xe s₂) X.xe s₁) X.xe s:=by
 refine thn (ha pins s σ H _ I h) λv s1 qW=>?_
 obtain ⟨x,H1,I1,r1,q1⟩:=qW
 refine thn (hb pins s1 σ H1 _ I1 q1) λu s2 qW=>?_
 obtain ⟨y,H2,I2,r2,q2⟩:=qW
 exact hf v u s2 x y H2 I2 r1 r2 q2
theorem ztB {op:Operator} {r:R2} (ho:OpR X (binaryOp op) r) (ha:PE X a ta) (hb:PE X b tb):PE X (.BinOp a op b pos) (tOp r ta tb):=by
 intro pins s σ H Q I h
 exact wpAny_BinOp (binT ha hb I h λv u s2 x y H2 I2 rx ry q=>ho pins s2 σ H2 x y v u Q I2 rx ry q)
theorem zsV {op:UnaryOp} {r:V->Hp->VK->Prop} (ho:UnR X (unaryOp op) r) (ha:PE X a ta):PE X (.UnaryOp op a pos) (tUn r ta):=by
 intro pins s σ H Q I h
 exact UnaryOp_ (thn (ha pins s σ H _ I h) λv s1 ⟨x,H1,I1,r1,q1⟩=>ho pins s1 σ H1 x v Q I1 r1 q1)
theorem opI {f:Value->Value->Sem Value} {C:Int->Int->Prop} {g:Int->Int->Int}
  (rule:∀ (i j:Int) (t u:Tok) (s:Shared) (Q:Value->Shared->Prop) (E:Value->Shared->Prop),C i j->Q (.int (g i j) s.toks) { s with toks:=s.toks+1 }->wpAny (model X.prog X.w) X.A (f (.int i t) (.int j u)) Q E s) :
  OpR X f (rI C λi j=>.int (g i j)):=by
 intro pins s σ H x y v u Q I rx ry h
 obtain ⟨i,j,rfl,rfl,hc,q⟩:=h
 obtain ⟨t,rfl⟩:=rx
 obtain ⟨t',rfl⟩:=ry
 exact rule i j t t' s _ _ hc ⟨.int (g i j),H,I.tok _,⟨_,rfl⟩,q⟩
theorem opI0 {f:Value->Value->Sem Value} {g:Int->Int->Int}
  (rule:∀ (i j:Int) (t u:Tok) (s:Shared) (Q:Value->Shared->Prop) (E:Value->Shared->Prop),Q (.int (g i j) s.toks) { s with toks:=s.toks+1 }->wpAny (model X.prog X.w) X.A (f (.int i t) (.int j u)) Q E s) :
  OpR X f (rI0 λi j=>.int (g i j)):=by
 intro pins s σ H x y v u Q I rx ry h
 obtain ⟨i,j,rfl,rfl,q⟩:=h
 obtain ⟨t,rfl⟩:=rx
 obtain ⟨t',rfl⟩:=ry
 exact rule i j t t' s _ _ ⟨.int (g i j),H,I.tok _,⟨_,rfl⟩,q⟩
theorem opB0 {f:Value->Value->Sem Value} {g:Int->Int->Bool}
  (rule:∀ (i j:Int) (t u:Tok) (s:Shared) (Q:Value->Shared->Prop) (E:Value->Shared->Prop),Q (.bool (g i j)) s->wpAny (model X.prog X.w) X.A (f (.int i t) (.int j u)) Q E s) :
  OpR X f (rI0 λi j=>.bl (g i j)):=by
 intro pins s σ H x y v u Q I rx ry h
 obtain ⟨i,j,rfl,rfl,q⟩:=h
 obtain ⟨t,rfl⟩:=rx
 obtain ⟨t',rfl⟩:=ry
 exact rule i j t t' s _ _ ⟨.bl (g i j),H,I,rfl,q⟩
noncomputable def CMul (i j:Int):Prop:=(-(2 ^ 64)<i/\i<2 ^ 64)\/(-(2 ^ 64)<j/\j<2 ^ 64)
theorem CMul.ok {i j:Int} (h:CMul i j):IntMulOk i j:=by
 rcases h with ⟨h1,h2⟩ | ⟨h1,h2⟩
 ·exact .of_left (intBits_le_64 h1 h2)
 ·exact .of_right (intBits_le_64 h1 h2)
theorem zqS:OpR X (binaryOp .Add) (rI0 λi j=>.int (i+j)):=opI0 λ_ _ _ _ _ _ _ q=>add_int q
theorem zrY:OpR X (binaryOp .Sub) (rI0 λi j=>.int (i-j)):=opI0 λ_ _ _ _ _ _ _ q=>sub_int q
theorem zsd:OpR X (binaryOp .Mult) (rI CMul λi j=>.int (i*j)):=opI λ_ _ _ _ _ _ _ hc q=>mul_int q hc.ok
theorem zst:OpR X (binaryOp .Mod) (rI (λ_ j=>0<j) λi j=>.int (i % j)):=opI λi j _ _ _ _ _ hc q=>by
 have h1:(0:Int)<j:=hc
 exact mod_int' (by omega) (by rw [Int.fmod_eq_emod_of_nonneg i (by omega)];exact q)
theorem zro:OpR X (binaryOp .BitAnd) (rI0 λi j=>.int (Builtin.bitAnd i j)):=opI0 λ_ _ _ _ _ _ _ q=>and_int q
theorem unI {f:Value->Sem Value} {g:Int->Int}
  (rule:∀ (i:Int) (t:Tok) (s:Shared) (Q:Value->Shared->Prop) (E:Value->Shared->Prop),Q (.int (g i) s.toks) { s with toks:=s.toks+1 }->wpAny (model X.prog X.w) X.A (f (.int i t)) Q E s) :
  UnR X f (rU λi=>.int (g i)):=by
 intro pins s σ H x v Q I rx h
 obtain ⟨i,rfl,q⟩:=h
 obtain ⟨t,rfl⟩:=rx
 exact rule i t s _ _ ⟨.int (g i),H,I.tok _,⟨_,rfl⟩,q⟩
theorem zoG:UnR X (unaryOp .USub) (rU λi=>.int (-i)):=unI λ_ _ _ _ _ q=>neg_int q
end
section
variable {X:Cx} {a b c:Expr} {ta tb tc:TE} {pos:Pos}
theorem zou {pins:List (Addr×Obj)} {σ:St} {H:Hp} {s:Shared} {Q:VK} {k k':Bool} (I:Inv X pins σ H s) (q:Q (.bl k) H) (e:k=k'):EP X pins σ Q (.bool k') s:=by
 subst e
 exact ⟨.bl k,H,I,rfl,q⟩
theorem ztL:OpR X (compareOp .Lt) (rI0 λi j=>.bl (decide (i<j))):=opB0 λ_ _ _ _ _ _ _ q=>lt_int q
theorem zt5:OpR X (compareOp .Gt) (rI0 λi j=>.bl (decide (j<i))):=opB0 λ_ _ _ _ _ _ _ q=>gt_int q
theorem zt1:OpR X (compareOp .GtE) (rI0 λi j=>.bl (decide (j<=i))):=opB0 λ_ _ _ _ _ _ _ q=>ge_int q
theorem zsc:OpR X (compareOp .Is) (λx y H Q=>y=.non/\Q (.bl (decide (x=.non))) H):=by
 intro pins s σ H x y v u Q I rx ry h
 obtain ⟨rfl,q⟩:=h
 cases ry
 refine is_none_gen (zou I q ?_)
 cases x<;>first
  | (cases rx;rfl)
  | (obtain ⟨t,rfl⟩:=rx;rfl)
theorem zpB:OpR X (compareOp .IsNot) (λx y H Q=>y=.non/\Q (.bl (!decide (x=.non))) H):=by
 intro pins s σ H x y v u Q I rx ry h
 obtain ⟨rfl,q⟩:=h
 cases ry
 refine isnot_none_gen (zou I q ?_)
 cases x<;>first
  | (cases rx;rfl)
  | (obtain ⟨t,rfl⟩:=rx;rfl)
theorem zqk {op:CmpOp} {r:R2} (ho:OpR X (compareOp op) r) (ha:PE X a ta) (hb:PE X b tb) (hm:behindInMarks op b=false):PE X (.Compare a [op] [b] pos) (tOp r ta tb):=by
 intro pins s σ H Q I h
 exact wpAny_Compare1 (binT ha hb I h λv u s2 x y H2 I2 rx ry q=>ho pins s2 σ H2 x y v u Q I2 rx ry q) hm
noncomputable def ztI (t:TE):TT:=λσ H Q=>t σ H λx H'=>∃ k,x=.bl k/\Q k H'
theorem zpN {op:CmpOp} {r:R2} (ho:OpR X (compareOp op) r) (ha:PE X a ta) (hb:PE X b tb) (hm:behindInMarks op b=false):PT X (.Compare a [op] [b] pos) (ztI (tOp r ta tb)):=by
 intro pins s σ H Q I h
 refine wpAny_isTrue_Compare1 (thn (ha pins s σ H _ I h) λv s1 ⟨x,H1,I1,r1,q1⟩=>thn (hb pins s1 σ H1 _ I1 q1) λu s2 ⟨y,H2,I2,r2,q2⟩=>
  thn (ho pins s2 σ H2 x y v u _ I2 r1 r2 q2) λc s3 ⟨z,H3,I3,r3,k,e,q3⟩=>?_) hm
 subst e
 cases r3
 exact wpAny_truthy_bool ⟨H3,I3,q3⟩
noncomputable def TruV (K:PySem.W.Frag) (x:V) (H:Hp) (k:Bool):Prop:=
 match x with
 | .non=>k=false
 | .bl b=>k=b
 | .int i=>k=(i != 0)
 | .str y=>y.length<=sizeLine/\k=((y.length:Int) != 0)
 | .byt y=>y.size<=sizeLine/\k=((y.size:Int) != 0)
 | .ref p=>(∃ xs,SqL K H p xs/\k=!xs.isEmpty)\/(∃ xs,SqT K H p xs/\k=!xs.isEmpty)\/∃ kvs,H p=some (.dK kvs)/\k=!kvs.isEmpty
 | _=>False
theorem zjj {κ:Type} {kvs:List (κ×V)} {vs:List (κ×Value)} (r:KV kvs vs):(!vs.isEmpty)=!kvs.isEmpty:=by
 cases r<;>rfl
theorem zbN {xs:List V} {its:List Value} (r:Vals xs its):(!its.toArray.isEmpty)=!xs.isEmpty:=by
 cases r<;>simp
theorem zhb:(sizeLine:Nat)<2 ^ 63:=by rw [sizeLine_eq];decide
theorem zrX:TruR X (λx H Q=>∃ k,TruV X.K x H k/\Q k H):=by
 intro pins s σ H x v Q I rx h
 obtain ⟨k,e,q⟩:=h
 have hl:=zhb
 have hs:sizeLine=16777216:=sizeLine_eq
 cases x with
 | non=>
  cases rx
  have e':k=false:=e
  subst e'
  exact truthy_none ⟨H,I,q⟩
 | bl b=>
  cases rx
  have e':k=b:=e
  subst e'
  exact wpAny_truthy_bool ⟨H,I,q⟩
 | int i=>
  obtain ⟨t,rfl⟩:=rx
  have e':k=(i != 0):=e
  subst e'
  exact PySem.P.truthy_int ⟨H,I,q⟩
 | str y=>
  obtain ⟨t,rfl⟩:=rx
  obtain ⟨hy,e'⟩:y.length<=sizeLine/\k=((y.length:Int) != 0):=e
  subst e'
  exact PySem.P.truthy_str (by omega) ⟨H,I.tok _,q⟩
 | byt y=>
  obtain ⟨t,rfl⟩:=rx
  obtain ⟨hy,e'⟩:y.size<=sizeLine/\k=((y.size:Int) != 0):=e
  subst e'
  exact PySem.W.truthy_bytes (by omega) ⟨H,I.tok _,q⟩
 | ref p=>
  cases rx
  have e':(∃ xs,SqL X.K H p xs/\k=!xs.isEmpty)\/(∃ xs,SqT X.K H p xs/\k=!xs.isEmpty)\/∃ kvs,H p=some (.dK kvs)/\k=!kvs.isEmpty:=e
  rcases e' with ⟨xs,hx,e'⟩ | ⟨xs,hx,e'⟩ | ⟨kvs,hx,e'⟩
  ·subst e'
   obtain ⟨its,r,pl,hz⟩:=I.list hx
   have hlen:=r.length
   exact wpAny_truthy_list pl.isList (by simp only [List.size_toArray];omega) ⟨H,I.tok _,by rw [zbN r];exact q⟩
  ·subst e'
   obtain ⟨its,r,pl,hz⟩:=I.tuple hx
   have hlen:=r.length
   exact truthy_tuple pl (by simp only [List.size_toArray];omega) ⟨H,I.tok _,by rw [zbN r];exact q⟩
  ·subst e'
   obtain ⟨hz,hS,vs,r,m⟩:kvs.length<=sizeLine/\(p==sysModules)=false/\∃ vs,KV kvs vs/\s.heap.DictOf (zlj X.prog X.w) p vs:=I.hok p _ hx
   have hlen:kvs.length=vs.length:=Paired.length r
   exact wpAny_truthy_dict hS m (by omega) ⟨H,I.tok _,by rw [zjj r];exact q⟩
 | _=>exact (show False from e).elim
theorem zmz (ha:PE X a ta) (he:∀ whole,isTrue a X.env whole=(do let v<-whole;standAt a.pos;holding [v] (truthy v))) :
  PT X a (λσ H Q=>ta σ H λx H'=>∃ k,TruV X.K x H' k/\Q k H'):=by
 intro pins s σ H Q I h
 exact isTrue_plain (thn (ha pins s σ H _ I h) λv s1 ⟨x,H1,I1,r1,q1⟩=>zrX pins s1 σ H1 x v Q I1 r1 q1) (he _)
theorem zlN {x:V} {us:List Value} (r:Vals [x] us):∃ u,us=[u]/\RelV x u:=by
 cases r with
 | cons r1 r2=>cases r2;exact ⟨_,rfl,r1⟩
theorem ztq {x y:V} {us:List Value} (r:Vals [x,y] us):∃ u w',us=[u,w']/\RelV x u/\RelV y w':=by
 cases r with
 | cons r1 r2=>
  cases r2 with
  | cons r3 r4=>cases r4;exact ⟨_,_,rfl,r1,r3⟩
noncomputable def LenV (K:PySem.W.Frag) (x:V) (H:Hp) (n:Nat):Prop:=
 match x with
 | .str y=>y.length<=sizeLine/\n=y.length
 | .byt y=>y.size<=sizeLine/\n=y.size
 | .ref p=>(∃ xs,SqL K H p xs/\n=xs.length)\/∃ xs,SqT K H p xs/\n=xs.length
 | _=>False
theorem zfq:zgw X (.builtin "len") (λxs H Q=>∃ x n,xs=[x]/\LenV X.K x H n/\Q (.int n) H):=by
 intro pins s σ H xs us Q I r h
 obtain ⟨x,n,rfl,e,q⟩:=h
 obtain ⟨u,rfl,rx⟩:=zlN r
 have hl:=zhb
 have hs:sizeLine=16777216:=sizeLine_eq
 cases x with
 | str y=>
  obtain ⟨t,rfl⟩:=rx
  obtain ⟨hy,e'⟩:y.length<=sizeLine/\n=y.length:=e
  subst e'
  exact len_str (by omega) ⟨.int _,H,I.tok _,⟨_,rfl⟩,q⟩
 | byt y=>
  obtain ⟨t,rfl⟩:=rx
  obtain ⟨hy,e'⟩:y.size<=sizeLine/\n=y.size:=e
  subst e'
  exact PySem.W.len_bytes (by omega) ⟨.int _,H,I.tok _,⟨_,rfl⟩,q⟩
 | ref p=>
  cases rx
  have e':(∃ xs,SqL X.K H p xs/\n=xs.length)\/∃ xs,SqT X.K H p xs/\n=xs.length:=e
  rcases e' with ⟨xs,hx,e'⟩ | ⟨xs,hx,e'⟩
  ·subst e'
   obtain ⟨its,r',pl,hz⟩:=I.list hx
   have hlen:=r'.length
   exact Calls.call_len_list pl.isList (by simp only [List.size_toArray];omega) ⟨.int xs.length,H,I.tok _,⟨_,by simp only [List.size_toArray];rw [hlen]⟩,q⟩
  ·subst e'
   obtain ⟨its,r',pl,hz⟩:=I.tuple hx
   have hlen:=r'.length
   exact len_tuple pl (by simp only [List.size_toArray];omega) ⟨.int xs.length,H,I.tok _,⟨_,by simp only [List.size_toArray];rw [hlen]⟩,q⟩
 | _=>exact (show False from e).elim
end
structure ObjM (h:Heap) (x dx C:Addr) (mA:Str->Option Value):Prop where
 obj:h.get? x=some (PySem.W.instObj C dx)
 ns:h.Ns1 dx mA
 ne:dx≠x
theorem zj4 {h:Heap} {dx:Addr} {mA:Str->Option Value} (n:h.Ns1 dx mA):∃ od,h.get? dx=some od/\∀ name,PySem.W.lookIn name od=some (mA name):=by
 obtain ⟨o,es,ep,ho,hd,hk,_,hm⟩:=n
 refine ⟨o,ho,λname=>?_⟩
 have e:=hm name
 unfold nsFind findBy at e
 rw [<-Array.find?_toList] at e
 unfold PySem.W.lookIn
 rw [hd]
 dsimp only
 split
 ·rename_i y q
  rw [q] at e
  exact congrArg some e
 ·rename_i q
  rw [q] at e
  have a:es.toList.any (·.refKey)=false:=by
   rw [List.any_eq_false]
   intro y hy
   obtain ⟨z,t,hkey⟩:=hk y (Array.mem_toList_iff.mp hy)
   simp [DictEntry.refKey,hkey]
  have a':¬ es.toList.any (·.refKey)=true:=by rw [a];exact Bool.false_ne_true
  rw [if_neg a']
  exact congrArg some e
theorem ObjM.look {h:Heap} {x dx C:Addr} {mA:Str->Option Value} (I:ObjM h x dx C mA):∃ od,PySem.W.InstAt h x (PySem.W.instObj C dx) C (some od)/\∀ name,PySem.W.lookIn name od=some (mA name):=
 let ⟨od,ho,hl⟩:=zj4 I.ns
 ⟨od,⟨I.obj,rfl,rfl,ho⟩,hl⟩
section
variable {prog:Program} {w:World} {A:Around} {E:Value->Shared->Prop} {s:Shared} {K:PySem.W.Frag} {x dx C f:Addr} {mA:Str->Option Value} {name:Str} {v:Value}
theorem zpe {expr:Bool} {Q:Value->Shared->Prop} (X:K.In s.heap) (I:ObjM s.heap x dx C mA) (hg:PySem.W.plainGet K C name=true) (hh:PySem.W.hasDictIn K C=true)
  (ha:PySem.W.findIn K (.ref C) name=some none) (hv:mA name=some v) (hv':PySem.W.handedIn v=true) (h:Q v { s with toks:=s.toks+1 }) :
  wpAny (model prog w) A (getAttr (.ref x) name expr) Q E s:=by
 obtain ⟨od,J,hl⟩:=I.look
 exact PySem.W.get_value X J (PySem.W.plainGet_of hg).1 (PySem.W.findObj_own hh ha rfl (by rw [hl,hv])) hv' h
theorem znm {pl:Sem Bool} {Q:Value×List Value->Shared->Prop} (X:K.In s.heap) (I:ObjM s.heap x dx C mA) (hg:PySem.W.plainGet K C name=true)
  (hf:PySem.W.findIn K (.ref C) name=some (some (.ref f))) (ht:PySem.W.isFn K (.ref f)=true) (hv:mA name=none) (h:Q (.ref f,[.ref x]) s) :
  wpAny (model prog w) A (getMethod (.ref x) name pl) Q E s:=by
 obtain ⟨od,J,hl⟩:=I.look
 exact PySem.W.method_fn X J (PySem.W.plainGet_of hg).1 (PySem.W.plainGet_of hg).2 hf (beq_iff_eq.mp ht) (by show (PySem.W.lookIn name od).map (·.isSome)=some false;rw [hl,hv];rfl) h
theorem zpu {ns:List Str} {Q:Unit->Shared->Prop} (X:K.In s.heap) (I:ObjM s.heap x dx C mA)
  (hs:PySem.W.findIn K (.ref C) "__setattr__"=some (some (.builtin "object.__setattr__"))) (hp:PySem.W.plainOver K C=true) (ht:PySem.W.takerIn K C name=some none) (hh:PySem.W.hasDictIn K C=true)
  (hw:PySem.Within mA ns) (hsz:ns.length<=sizeLine)
  (h:∀ h',ObjM h' x dx C (λy=>if y=name then some v else mA y)->Heap.SameBut dx s.heap h'->Q () { s with heap:=h',toks:=s.toks+2 }) :
  wpAny (model prog w) A (setAttr (.ref x) name v) Q E s:=by
 obtain ⟨od,J,hl⟩:=I.look
 refine PySem.W.set_plain X J hs (PySem.W.osa_open (s:={ s with toks:=s.toks+1 }) (r:=none) X J hp ht λb=>?_)
 obtain ⟨cd,hc,hd'⟩:=PySem.W.any_some hh
 have hx:s.heap.get? x=some ⟨.ref C,some dx,.plain,#[]⟩:=I.obj
 refine wpAny_bind (wpAny_pure (wpAny_bind (wpAny_bind (wpAny_loadPart hx (wpAny_bind (PySem.W.Looks.here (s:={ s with toks:=s.toks+1 }) (PySem.W.looks_clsIn X hc) ?_))))))
 rw [hd']
 refine wpAny_pure (a:=some dx) (wpAny_bind (wpAny_pure (wpAny_bind ?_)))
 refine wpAny_nsSet1 (s:={ s with toks:=s.toks+1 }) I.ns λh' hn2 hs2=>?_
 obtain ⟨oD,esD,epD,hoD,hdD,hcD⟩:=hn2.count (PySem.Within.cons name v hw)
 refine wpAny_bind (wpAny_lookBehind hoD (by rw [hdD];exact pastItsLine_dict (Nat.le_trans hcD (by rw [List.length_cons];omega))) ?_)
 exact wpAny_pure (h _ ⟨(hs2.2 _ (Ne.symm I.ne)).trans I.obj,hn2,I.ne⟩ hs2)
theorem zna {R:Result->Shared->Prop} {vs:List Value} {kw:List (Str×Value)} (X:K.In s.heap) (hm:PySem.W.makesIn K C=true)
  (hi:PySem.W.findIn K (.ref C) "__init__"=some (some (.ref f))) (hf:PySem.W.typeIn K (.ref f)=some (.type "function"))
  (h:codeAny (model prog w) (A.under (.builtin "type.__call__" ⟨.ref C::vs,kw⟩)) (.call (.ref f) ⟨.ref (s.heap.objs.size+1)::vs,kw⟩) (PySem.W.InitBack (s.heap.objs.size+1) R)
   { s with heap:=(s.heap.push PySem.W.emptyDict).push (PySem.W.instObj C s.heap.objs.size) }) :
  codeAny (model prog w) A (.call (.ref C) ⟨vs,kw⟩) R s:=by
 obtain ⟨hh,g,d,t,os⟩:=s
 exact PySem.W.make_core (PySem.W.makes_of X hm) (PySem.W.looks_findIn X hi) (λself=>PySem.W.bind_fn X self hf) (.inl rfl) h
end
noncomputable def putF (f:Str) (v:V):List (Str×V)->List (Str×V)
  | []=>[(f,v)]
  | (g,x)::r=>if g=f then (g,v)::r else (g,x)::putF f v r
theorem zd9 (f g:Str) (v:V):∀ fs:List (Str×V),(putF f v fs).lookup g=if g=f then some v else fs.lookup g
  | [] => by
    show List.lookup g [(f,v)]=_
    by_cases h:g=f
    · have hb:(g==f)=true:=beq_iff_eq.mpr h
      simp only [List.lookup,hb,if_pos h]
    · have hb:(g==f)=false:=beq_eq_false_iff_ne.mpr h
      simp only [List.lookup,hb,if_neg h]
  | (k, x)::r=>by
    have ih:=zd9 f g v r
    rw [show putF f v ((k,x)::r)=(if k=f then (k,v)::r else (k,x)::putF f v r) from rfl]
    by_cases hk:k=f
    · rw [if_pos hk]
      by_cases h:g=k
      · have hb:(g==k)=true:=beq_iff_eq.mpr h
        simp only [List.lookup,hb,if_pos (h.trans hk)]
      · have hb:(g==k)=false:=beq_eq_false_iff_ne.mpr h
        simp only [List.lookup,hb,if_neg (λe:g=f=>h (e.trans hk.symm))]
    · rw [if_neg hk]
      by_cases h:g=k
      · have hb:(g==k)=true:=beq_iff_eq.mpr h
        simp only [List.lookup,hb,if_neg (λe:g=f=>hk (h.symm.trans e))]
      · have hb:(g==k)=false:=beq_eq_false_iff_ne.mpr h
        simp only [List.lookup,hb]
        exact ih
theorem zd1 (f:Str) (v:V):∀ fs:List (Str×V),f∈(putF f v fs).map (·.1)/\∀ g,g∈fs.map (·.1)->g∈(putF f v fs).map (·.1)
  | []=>⟨by simp [putF],λg h=>by simp at h⟩
  | (k, x)::r=>by
    obtain ⟨i1,i2⟩:=zd1 f v r
    rw [show putF f v ((k,x)::r)=(if k=f then (k,v)::r else (k,x)::putF f v r) from rfl]
    by_cases hk:k=f
    · rw [if_pos hk]
      subst hk
      exact ⟨by simp,λg h=>by simpa using h⟩
    · rw [if_neg hk]
      refine ⟨?_,λg h=>?_⟩
      · rw [List.map_cons]
        exact List.mem_cons_of_mem _ i1
      · rw [List.map_cons] at h ⊢
        rcases List.mem_cons.mp h with e | e
        · exact List.mem_cons.mpr (.inl e)
        · exact List.mem_cons_of_mem _ (i2 g e)
theorem zec (f:Str) (v:V):∀ fs:List (Str×V),(putF f v fs).length<=fs.length+1
  | []=>by simp [putF]
  | (k,x)::r=>by
    have ih:=zec f v r
    rw [show putF f v ((k,x)::r)=(if k=f then (k,v)::r else (k,x)::putF f v r) from rfl]
    by_cases hk:k=f
    · rw [if_pos hk,List.length_cons,List.length_cons];omega
    · rw [if_neg hk,List.length_cons,List.length_cons];omega
theorem RelO.some_of {v:V} {o:Option Value} (r:RelO (some v) o):∃ u,o=some u/\RelV v u:=by
 cases o with
 | none=>exact (show False from r).elim
 | some u=>exact ⟨u,rfl,r⟩
theorem RelO.none_of {o:Option Value} (r:RelO none o):o=none:=by
 cases o with
 | none=>rfl
 | some u=>exact (show False from r).elim
theorem zmg {v:V} {u:Value} (r:RelV v u):PySem.W.handedIn u=true:=by
 cases v with
 | non=>cases (show u=Value.none from r);rfl
 | bl b=>cases (show u=Value.bool b from r);rfl
 | int i=>obtain ⟨t,e⟩:=(show ∃ t,u=Value.int i t from r);cases e;rfl
 | str x=>obtain ⟨t,e⟩:=(show ∃ t,u=Value.str x t from r);cases e;rfl
 | byt b=>obtain ⟨t,e⟩:=(show ∃ t,u=Value.bytes b t from r);cases e;rfl
 | flt b=>obtain ⟨t,e⟩:=(show ∃ t,u=Value.float b t from r);cases e;rfl
 | ref a=>cases (show u=Value.ref a from r);rfl
 | ty n=>cases (show u=Value.type n from r);rfl
section
variable {P:Program} {w:World} {H H':Hp} {h h':Heap} {a C dx:Addr} {fs fs':List (Str×V)}
theorem zho (hok:HOk P w H h) (e:H a=some (.ins C dx fs)):∃ mA,ObjM h a dx C mA/\(∀ f,RelO (fs.lookup f) (mA f))/\PySem.Within mA (fs.map (·.1))/\fs.length<=1000/\H dx=some (.own a):=by
 obtain ⟨d,z,ne,ob,mA,n,r,q⟩:=(show zba P w H h a (.ins C dx fs) from hok a _ e)
 exact ⟨mA,⟨ob,n,ne⟩,r,q,z,d⟩
end
structure Cls (K:PySem.W.Frag) (C:Addr):Prop where
 pg:PySem.W.plainGet K C Str.empty=true
 hd:PySem.W.hasDictIn K C=true
 po:PySem.W.plainOver K C=true
 sa:PySem.W.findIn K (.ref C) "__setattr__"=some (some (.builtin "object.__setattr__"))
theorem Cls.get {K:PySem.W.Frag} {C:Addr} (c:Cls K C) (f:Str):PySem.W.plainGet K C f=true:=c.pg
noncomputable def zbu (K:PySem.W.Frag) (C:Addr) (f:Str):Prop:=PySem.W.findIn K (.ref C) f=some none
theorem zbu.taker {K:PySem.W.Frag} {C:Addr} {f:Str} (n:zbu K C f):PySem.W.takerIn K C f=some none:=by
 unfold PySem.W.takerIn
 rw [show PySem.W.findIn K (.ref C) f=some none from n]
 rfl
structure Meth (K:PySem.W.Frag) (C:Addr) (m:Str) (f:Addr):Prop where
 at_:PySem.W.findIn K (.ref C) m=some (some (.ref f))
 fn:PySem.W.isFn K (.ref f)=true
 kp:PySem.W.keepIn K (.ref f)=true
section
variable {X:Cx} {pins:List (Addr×Obj)} {σ:St} {H:Hp} {s:Shared} {a C dx:Addr} {fs:List (Str×V)} {f:Str} {v:V} {A:Around} {E:Value->Shared->Prop}
theorem zjH {b:Bool} {Q:Value->Shared->Prop} (I:Inv X pins σ H s) (e:H a=some (.ins C dx fs)) (c:Cls X.K C) (n:zbu X.K C f) (l:fs.lookup f=some v)
  (h:∀ u s',Inv X pins σ H s'->RelV v u->Q u s'):wpAny (model X.prog X.w) A (getAttr (.ref a) f b) Q E s:=by
 obtain ⟨mA,O,r,_,_,_⟩:=zho I.hok e
 obtain ⟨u,hu,ru⟩:=RelO.some_of (v:=v) (o:=mA f) (by rw [<-l];exact r f)
 exact zpe I.kIn O (c.get f) c.hd n hu (zmg ru) (h u _ (I.tok _) ru)
theorem zeA {m:Str} {g:Addr} {pl:Sem Bool} {Q:Value×List Value->Shared->Prop} (I:Inv X pins σ H s) (e:H a=some (.ins C dx fs)) (c:Cls X.K C) (k:Meth X.K C m g) (l:fs.lookup m=none)
  (h:Q (.ref g,[.ref a]) s):wpAny (model X.prog X.w) A (getMethod (.ref a) m pl) Q E s:=by
 obtain ⟨mA,O,r,_,_,_⟩:=zho I.hok e
 have hn:mA m=none:=RelO.none_of (by rw [<-l];exact r m)
 exact znm I.kIn O (c.get m) k.at_ k.fn hn h
theorem zjq {y:V} {u:Value} {Q:Unit->Shared->Prop} (I:Inv X pins σ H s) (e:H a=some (.ins C dx fs)) (c:Cls X.K C) (n:zbu X.K C f) (hl:fs.length<1000) (ry:RelV y u)
  (h:∀ s',Inv X pins σ (upd H a (.ins C dx (putF f y fs))) s'->Q () s'):wpAny (model X.prog X.w) A (setAttr (.ref a) f u) Q E s:=by
 obtain ⟨mA,O,r,wi,_,ho⟩:=zho I.hok e
 have hz:(fs.map (·.1)).length<=sizeLine:=by rw [List.length_map,sizeLine_eq];omega
 refine zpu I.kIn O c.sa c.po n.taker c.hd wi hz λh' O' sb=>h _ ?_
 have hd:∃ o,h'.get? dx=some o:=let ⟨o,_,_,e',_⟩:=O'.ns;⟨o,e'⟩
 refine I.write (x:=a) (e:=dx) (by rw [e];exact True.intro) (.inr ho) (λb q hb z=>(sb.2 b hb).trans z) hd ?_
 refine ⟨by rw [zak O.ne];exact ho,?_,O.ne,O'.obj,_,O'.ns,λg=>?_,λg hg=>?_⟩
 ·have:=zec f y fs;omega
 ·show RelO ((putF f y fs).lookup g) (if g=f then some u else mA g)
  rw [zd9]
  by_cases q:g=f
  ·rw [if_pos q,if_pos q];exact ry
  ·rw [if_neg q,if_neg q];exact r g
 ·by_cases q:g=f
  ·rw [q];exact (zd1 f y fs).1
  ·refine (zd1 f y fs).2 g (wi g λz=>hg ?_)
   show (if g=f then some u else mA g)=none
   rw [if_neg q];exact z
theorem Inv.made (I:Inv X pins σ H s):Inv X pins σ (upd (upd H s.heap.objs.size (.own (s.heap.objs.size+1))) (s.heap.objs.size+1) (.ins C s.heap.objs.size []))
  { s with heap:=(s.heap.push PySem.W.emptyDict).push (PySem.W.instObj C s.heap.objs.size) }:=by
 have e1:(s.heap.push PySem.W.emptyDict).get? s.heap.objs.size=some PySem.W.emptyDict:=Heap.get?_push_size s.heap rfl
 have e2:((s.heap.push PySem.W.emptyDict).push (PySem.W.instObj C s.heap.objs.size)).get? (s.heap.objs.size+1)=some (PySem.W.instObj C s.heap.objs.size):=by
  have:=Heap.get?_push_size (s.heap.push PySem.W.emptyDict) (o:=PySem.W.instObj C s.heap.objs.size) rfl
  rwa [Heap.size_push] at this
 have e3:(s.heap.push PySem.W.emptyDict).Ns s.heap.objs.size (λ_=>none):=⟨PySem.W.emptyDict,#[],_,e1,rfl,(λe he=>absurd he (by simp)),λ_=>rfl⟩
 have I1:=I.laid (a:=s.heap.objs.size) (o:=.own (s.heap.objs.size+1)) (h':=s.heap.push PySem.W.emptyDict) (t':=s.toks) (λb u q=>Heap.get?_push_of_some _ q) (Nat.le_refl _) ⟨_,e1⟩
 refine I1.laid (a:=s.heap.objs.size+1) (o:=.ins C s.heap.objs.size []) (t':=s.toks) (λb u q=>Heap.get?_push_of_some _ q) (Nat.le_of_eq (Heap.size_push _ _)) ?_
 have ne:s.heap.objs.size≠s.heap.objs.size+1:=Nat.ne_of_lt (Nat.lt_succ_self _)
 refine ⟨by rw [zak ne,zaj],Nat.zero_le _,ne,e2,λ_=>none,(Heap.Ns1.of_empty e3).at λo q=>Heap.get?_push_of_some _ q,λ_=>True.intro,λy hy=>absurd rfl hy⟩
theorem zqj {prog:Program} {w:World} {env:Env} {e:Expr} {f:Str} {pos:Pos} {s:Shared} {Q:Value->Shared->Prop} (hb:attributeBase e f env (eval e env)=eval e env)
  (h:wpAny (model prog w) A (eval e env) (λo s₁=>wpAny (model prog w) A (getAttr o f true) Q E s₁) E s):wpAny (model prog w) A (eval (.Attribute e f pos) env) Q E s:=
 Attribute_any_ h (by rw [arm_eval_Attribute,hb])
end
noncomputable def tFld (K:PySem.W.Frag) (ta:TE) (f:Str):TE:=λσ H Q=>ta σ H λx H1=>∃ a C dx fs v,x=.ref a/\H1 a=some (.ins C dx fs)/\Cls K C/\zbu K C f/\fs.lookup f=some v/\Q v H1
noncomputable def sFld (K:PySem.W.Frag) (ta tv:TE) (f:Str):TS:=λD σ H=>tv σ H λy H1=>ta σ H1 λx H2=>∃ a C dx fs,x=.ref a/\H2 a=some (.ins C dx fs)/\Cls K C/\zbu K C f/\fs.length<1000 ∧
 D.nx σ (upd H2 a (.ins C dx (putF f y fs)))
section
variable {X:Cx} {o e value:Expr} {f:Str} {pos pos' tpos:Pos} {ta tv:TE}
theorem zsD (he:PE X e ta) (hb:attributeBase e f X.env (eval e X.env)=eval e X.env):PE X (.Attribute e f pos) (tFld X.K ta f):=by
 intro pins s σ H Q I h
 refine zqj hb (thn (he pins s σ H _ I h) λu s1 qW=>?_)
 obtain ⟨x,H1,I1,rx,a,C,dx,fs,v,ex,ea,c,n,l,q⟩:=qW
 subst ex
 obtain rfl:u=Value.ref a:=rx
 exact zjH I1 ea c n l λu' s2 I2 ru=>⟨v,H1,I2,ru,q⟩
theorem zsr (ha:PE X o ta) (hv:PE X value tv) (hs:swapsWith value (some (.Attribute o f pos')) pos.line X.env=pure false):PS X (.Assign [.Attribute o f pos'] value pos) (sFld X.K ta tv f):=by
 intro pins s σ H D I h
 refine plainObj_wpAny_Assign_Attribute (thn (hv pins s σ H _ I h) λu s1 ⟨y,H1,I1,ry,q⟩=>thn (ha pins s1 σ H1 _ I1 q) λov s2 qW=>?_) hs
 obtain ⟨x,H2,I2,rx,a,C,dx,fs,ex,ea,c,n,l,q2⟩:=qW
 subst ex
 obtain rfl:ov=Value.ref a:=rx
 exact zjq I2 ea c n l ry λs3 I3=>⟨σ,_,I3,q2⟩
end
section
variable {X:Cx} {pins:List (Addr×Obj)} {σ:St} {H:Hp} {s:Shared} {A:Around} {E:Value->Shared->Prop} {Q:Value->Shared->Prop} {c:Value} {b:Bool}
end
structure Room (k:Nat) (A:Around):Prop where
 hd:A.handled=none
 dp:A.depth+3*k+5<recursionLimit
 un:A.units+16*k+200<cLine
theorem Room.mono {j k:Nat} {A:Around} (r:Room k A) (h:j<=k):Room j A:=⟨r.hd,by have:=r.dp;omega,by have:=r.un;omega⟩
theorem Room.deeper {k:Nat} {A:Around} (r:Room (k+1) A) (env:Env):Room k (A.deeper env):=
 ⟨r.hd,by have:=r.dp;show A.depth+1+3*k+5<_;omega,by have:=r.un;show A.units+3+16*k+200<_;omega⟩
theorem zju {A:Around} {C:Addr} {us:List Value} {kw:List (Str×Value)}:(A.under (.builtin "type.__call__" ⟨.ref C::us,kw⟩)).depth=A.depth+1:=by
 first | rfl | simp [Around.under,Code.weight,Code.isCreation,Code.isGuard,Code.isCaller,Code.frames,Code.isFrame,guardIds]
theorem zji {A:Around} {C:Addr} {us:List Value} {kw:List (Str×Value)}:(A.under (.builtin "type.__call__" ⟨.ref C::us,kw⟩)).units=A.units+1:=by
 first | rfl | simp [Around.under,Code.cUnits,Code.frames,Code.isFrame]
theorem Room.make {k:Nat} {A:Around} (r:Room (k+1) A) (C:Addr) (us:List Value) (kw:List (Str×Value)):Room k (A.under (.builtin "type.__call__" ⟨.ref C::us,kw⟩)):=
 ⟨r.hd,by have:=r.dp;rw [zju];omega,by have:=r.un;rw [zji];omega⟩
theorem Room.depth {k:Nat} {A:Around} (r:Room k A):A.depth<recursionLimit:=by have:=r.dp;omega
theorem Room.units {k:Nat} {A:Around} (r:Room k A):A.units+64<cLine:=by have:=r.un;omega
noncomputable def tNil:TA:=λ_ H Q=>Q [] H
noncomputable def zt6 (ta:TE) (tr:TA):TA:=λσ H Q=>ta σ H λx H1=>tr σ H1 λxs H2=>Q (x::xs) H2
section
variable {X:Cx} {e:Expr} {es:List Expr} {te:TE} {t:TA} {pos:Pos}
theorem zb2:PA X [] tNil:=λ_ _ _ _ H Q I h=>Calls.spliced_nil ⟨[],H,I,.nil,h⟩
theorem zaS (ha:PE X e te) (hr:PA X es t) (hs:starEach (e::es) X.env=(false,eval e X.env)::starEach es X.env:=by rfl):PA X (e::es) (zt6 te t):=by
 intro pos pins s σ H Q I h
 rw [hs]
 show wpAny _ _ (spliced ((false,eval e X.env)::backTo pos (starEach es X.env))) _ _ s
 refine Calls.spliced_cons (thn (ha pins s σ H _ I h) λu s1 qW=>?_)
 obtain ⟨x,H1,I1,r1,q1⟩:=qW
 exact thn (hr pos pins s1 σ H1 _ I1 q1) λus s2 ⟨xs,H2,I2,r2,q2⟩=>⟨x::xs,H2,I2,.cons r1 r2,q2⟩
noncomputable def tTup (t:TA):TE:=λσ H Q=>t σ H λxs H1=>xs.length<=sizeLine/\∀ p,H1 p=none->Q (.ref p) (upd H1 p (.tup xs))
noncomputable def tLst (t:TA):TE:=λσ H Q=>t σ H λxs H1=>xs.length<=sizeLine/\∀ p,H1 p=none->Q (.ref p) (upd H1 p (.lst xs))
theorem zsy {x1} (h:PA X es t):PE X (.Tuple es x1 pos) (tTup t):=by
 intro pins s σ H Q I hq
 refine wpAny_Tuple_spliced (thn (h pos pins s σ H _ I hq) λus s1 ⟨xs,H1,I1,r,z,q⟩=>⟨by rw [<-r.length];exact z,?_⟩)
 have hf:H1 s1.heap.objs.size=none:=I1.hok.fresh (Nat.le_refl _)
 refine ⟨.ref s1.heap.objs.size,upd H1 s1.heap.objs.size (.tup xs),I1.laid (t':=s1.toks) (λb u e=>Heap.get?_push_of_some _ e) (Nat.le_refl _) ?_,rfl,q _ hf⟩
 exact ⟨z,us,r,zcw.new _ _⟩
theorem zrE (h:PA X es t):PE X (.List es pos) (tLst t):=by
 intro pins s σ H Q I hq
 refine wpAny_List_spliced (thn (h pos pins s σ H _ I hq) λus s1 ⟨xs,H1,I1,r,z,q⟩=>⟨by rw [<-r.length];exact z,?_⟩)
 have hf:H1 s1.heap.objs.size=none:=I1.hok.fresh (Nat.le_refl _)
 refine ⟨.ref s1.heap.objs.size,upd H1 s1.heap.objs.size (.lst xs),I1.laid (t':=s1.toks) (λb u e=>Heap.get?_push_of_some _ e) (Nat.le_refl _) ?_,rfl,q _ hf⟩
 exact ⟨z,us,0,r,Heap.get?_push_size _ rfl⟩
end
noncomputable abbrev Sp:=List V->Hp->VK->XK->Prop
noncomputable abbrev CXT:=List Env->Hp->Shared->XK->Value->Shared->Prop
structure Env0 (P:Program) (w:World) (K:PySem.W.Frag) (mg:Str->Option Value) (base:Heap) (A:Around) (outer:List Env) (s:Shared) (H:Hp):Prop where
 frames:A.frames=some outer
 mod:Mod K mg base
 bs:∀ b o,base.get? b=some o->s.heap.get? b=some o/\H b=none
 bsz:base.objs.size<=s.heap.objs.size
 funs:s.heap.FunFrames base outer
 frf:∀ b∈frs outer,H b=none
 hok:HOk P w H s.heap
 bare:AllBare s.gens
noncomputable def CE (outer:List Env) (P:Program) (w:World) (H:Hp) (s:Shared) (Q:VK) (u:Value) (s':Shared):Prop:=
 ∃ v H',s'.os=s.os/\AllBare s'.gens/\Un (frs outer) [] H H' s.heap s'.heap/\HOk P w H' s'.heap/\RelV v u/\Q v H'
noncomputable def CR (CX:CXT) (outer:List Env) (P:Program) (w:World) (H:Hp) (s:Shared) (Q:VK) (E:XK) (r:Result) (s':Shared):Prop:=
 match r with
 | .ok (.ret u)=>CE outer P w H s Q u s'
 | .ok _=>False
 | .error e=>CX outer H s E e s'
structure FnOk (P:Program) (w:World) (K:PySem.W.Frag) (mg:Str->Option Value) (base:Heap) (CX:CXT) (k:Nat) (f:Addr) (fd:FuncData) (ps:List Str) (sp:Sp):Prop where
 len:∀ vs H Q E,sp vs H Q E->vs.length=ps.length
 run:∀ (A:Around) (outer:List Env) (s:Shared) (H:Hp) (args:Args) (us:List Value) (vs:List V) (Q:VK) (E:XK),Room k A->Env0 P w K mg base A outer s H->BindsTo s fd args (ps.zip us)->Vals vs us->sp vs H Q E →
  codeAny (model P w) A (.call (.ref f) args) (CR CX outer P w H s Q E) s
theorem Env0.make {P:Program} {w:World} {K:PySem.W.Frag} {mg:Str->Option Value} {base:Heap} {A:Around} {outer:List Env} {s:Shared} {H:Hp} (e:Env0 P w K mg base A outer s H) (C:Addr) (us:List Value) (kw:List (Str×Value)) :
    Env0 P w K mg base (A.under (.builtin "type.__call__" ⟨.ref C::us,kw⟩)) outer s H:=⟨by first | exact e.frames | (simpa [Around.under,Code.envs,Code.isFrame,pushEnvs] using e.frames),e.mod,e.bs,e.bsz,e.funs,e.frf,e.hok,e.bare⟩
section
variable {X:Cx} {pins:List (Addr×Obj)} {σ:St} {H:Hp} {s s':Shared}
theorem Inv.env0 (I:Inv X pins σ H s):Env0 X.prog X.w X.K X.mg X.base X.A X.stack s H:=
 ⟨I.ok.frames,I.ok.mod,I.bs,Nat.le_trans I.ok.bsz I.sz,I.stack,I.stkFree,I.hok,I.bare⟩
theorem Inv.after {Q:VK} {u:Value} (I:Inv X pins σ H s) (h:CE X.stack X.prog X.w H s Q u s'):EP X pins σ Q u s':=by
 obtain ⟨v,H',os,bare,un,hok,r,q⟩:=h
 obtain ⟨hh,g,d,t,os'⟩:=s'
 obtain rfl:os'=s.os:=os
 exact ⟨v,H',I.call (h':=hh) (g':=g) (d':=d) (t':=t) (ch:=[]) un hok bare (λb z=>absurd z (by simp)),r,q⟩
end
noncomputable def ztO (sp:Sp) (dvs:List V) (E:XK) (t:TA):TE:=λσ H Q=>t σ H λvs H1=>sp (vs++dvs) H1 Q E
noncomputable def zrW (C:Addr) (m:Str) (sp:Sp) (dvs:List V) (E:XK) (ta:TE) (t:TA):TE:=λσ H Q=>ta σ H λx H1=>∃ a dx fs,x=.ref a/\H1 a=some (.ins C dx fs)/\fs.lookup m=none ∧
 t σ H1 λvs H2=>sp (x::(vs++dvs)) H2 Q E
noncomputable def ztu (C:Addr) (sp:Sp) (dvs:List V) (E:XK) (t:TA):TE:=λσ H Q=>t σ H λvs H1=>∀ x dx,H1 x=none->H1 dx=none->dx≠x →
 sp (.ref x::(vs++dvs)) (upd (upd H1 dx (.own x)) x (.ins C dx [])) (λv H2=>v=.non/\Q (.ref x) H2) E
noncomputable def zb8 (K:PySem.W.Frag) (fd:FuncData) (ps:List Str) (ds:List Value):Prop:=
 ∀ (s:Shared) (us:List Value),K.In s.heap->(us++ds).length=ps.length->BindsTo s fd ⟨us,[]⟩ (ps.zip (us++ds))
theorem zb8.all {K:PySem.W.Frag} {fd:FuncData} {ps:List Str} (h:∀ us:List Value,us.length=ps.length->bindArgs fd ⟨us,[]⟩=pure (ps.zip us)):zb8 K fd ps []:=λs us _ hl=>by
 rw [List.append_nil] at hl ⊢
 exact .of_eq (h us hl)
noncomputable def zdF (CX:CXT) (X:Cx) (E:XK):Prop:=∀ (pins:List (Addr×Obj)) (σ:St) (H:Hp) (s:Shared) (e:Value) (s':Shared),Inv X pins σ H s->CX X.stack H s E e s'->X.xe e s'
section
variable {X:Cx} {CX:CXT} {k:Nat} {f C:Addr} {fd:FuncData} {ps:List Str} {sp:Sp} {dvs:List V} {ds:List Value} {E:XK} {x m:Str} {p pos apos:Pos} {e o:Expr} {es:List Expr} {ta:TE} {t:TA}
theorem zlX {pins:List (Addr×Obj)} {σ:St} {H:Hp} {s:Shared} {Q:VK} {us:List Value} {vs:List V} (F:FnOk X.prog X.w X.K X.mg X.base CX k f fd ps sp) (hr:Room k X.A) (hb:zb8 X.K fd ps ds) (hd:Vals dvs ds) (hx:zdF CX X E)
  (I:Inv X pins σ H s) (r:Vals vs us) (h:sp (vs++dvs) H Q E):wpAny (model X.prog X.w) X.A (call (.ref f) us) (EP X pins σ Q) X.xe s:=by
 have r2:Vals (vs++dvs) (us++ds):=r.append hd
 have hl:(us++ds).length=ps.length:=by rw [<-r2.length];exact F.len _ _ _ _ h
 refine wpAny_call (codeAny_mono (F.run X.A X.stack s H ⟨us,[]⟩ (us++ds) (vs++dvs) Q E hr I.env0 (hb s us I.kIn hl) r2 h) λr s' hq=>?_)
 cases r with
 | error e=>exact hx pins σ H s e s' I hq
 | ok fl=>
  cases fl with
  | ret u=>exact I.after hq
  | next=>exact False.elim hq
  | brk=>exact False.elim hq
  | cont=>exact False.elim hq
theorem zlc (F:FnOk X.prog X.w X.K X.mg X.base CX k f fd ps sp) (hr:Room k X.A) (hg:Gl X x) (hm:X.mg x=some (.ref f)) (hk:PySem.W.keepIn X.K (.ref f)=true) (hb:zb8 X.K fd ps ds) (hd:Vals dvs ds) (hx:zdF CX X E)
  (ha:PA X (e::es) t) (hdb:(x==("__debug__":Str))=false:=by decide) (he:starEach (e::es) X.env=(false,eval e X.env)::starEach es X.env:=by rfl) (hpl:(backTo pos (starEach es X.env)).any (·.1)=false:=by rfl) :
  PE X (.Call (.Name x p) (e::es) [] pos) (ztO sp dvs E t):=by
 intro pins s σ H Q I h
 refine wpAny_Call_Name_kw (zhM I hg hm ?_ hdb)
 refine PySem.W.callWith_K (h₀:=X.base) I.ok.mod.kin hk (thn (ha pos pins s σ H _ I h) λus s1 ⟨vs,H1,I1,r,q⟩=>⟨I1.kIn,?_⟩) he hpl
 exact zlX F hr hb hd hx I1 r q
theorem zpk {pl:Sem Bool} (he:PE X o ta) (c:Cls X.K C) (hm:Meth X.K C m f) (F:FnOk X.prog X.w X.K X.mg X.base CX k f fd ps sp) (hr:Room k X.A) (hb:zb8 X.K fd ps ds) (hd:Vals dvs ds) (hx:zdF CX X E) (ha:PA X (e::es) t)
  (hst:starEach (e::es) X.env=(false,eval e X.env)::starEach es X.env:=by rfl) (hpl:(backTo pos (starEach es X.env)).any (·.1)=false:=by rfl)
  (ht:eval (.Call (.Attribute o m apos) (e::es) [] pos) X.env=(do
   let ov<-eval o X.env
   standAt apos.atName
   let (f,first)<-holding [ov] (getMethod ov m pl)
   callWith pos f first (backTo pos (starEach (e::es) X.env)) (backToKw pos (keywordEach [] X.env))):=by rfl) :
  PE X (.Call (.Attribute o m apos) (e::es) [] pos) (zrW C m sp dvs E ta t):=by
 intro pins s σ H Q I h
 refine PySem.W.methodCall_KW (pl:=pl) (thn (he pins s σ H _ I h) λu s1 qW=>?_) ht
 obtain ⟨x,H1,I1,rx,a,dx,fs,ex,ea,l,q⟩:=qW
 subst ex
 obtain rfl:u=Value.ref a:=rx
 refine zeA I1 ea c hm l ?_
 refine PySem.W.callWith_K (first:=[.ref a]) (h₀:=X.base) I.ok.mod.kin hm.kp (thn (ha pos pins s1 σ H1 _ I1 q) λus s2 ⟨vs,H2,I2,r,q2⟩=>⟨I2.kIn,?_⟩) hst hpl
 exact zlX (us:=.ref a::us) (vs:=.ref a::vs) F hr hb hd hx I2 (.cons rfl r) q2
theorem zmZ {pl:Sem Bool} (he:PE X o ta) (c:Cls X.K C) (hm:Meth X.K C m f) (F:FnOk X.prog X.w X.K X.mg X.base CX k f fd ps sp) (hr:Room k X.A) (hb:zb8 X.K fd ps ds) (hd:Vals dvs ds) (hx:zdF CX X E)
  (ht:eval (.Call (.Attribute o m apos) [] [] pos) X.env=(do
   let ov<-eval o X.env
   standAt apos.atName
   let (f,first)<-holding [ov] (getMethod ov m pl)
   callWith pos f first (backTo pos (starEach [] X.env)) (backToKw pos (keywordEach [] X.env))):=by rfl) :
  PE X (.Call (.Attribute o m apos) [] [] pos) (zrW C m sp dvs E ta tNil):=by
 intro pins s σ H Q I h
 refine PySem.W.methodCall_KW (pl:=pl) (thn (he pins s σ H _ I h) λu s1 qW=>?_) ht
 obtain ⟨x,H1,I1,rx,a,dx,fs,ex,ea,l,q⟩:=qW
 subst ex
 obtain rfl:u=Value.ref a:=rx
 refine zeA I1 ea c hm l ?_
 exact PySem.W.callWith_K0 (first:=[.ref a]) I1.kIn hm.kp (zlX (us:=[.ref a]) (vs:=[.ref a]) F hr hb hd hx I1 (.cons rfl .nil) q)
structure Mk (K:PySem.W.Frag) (C f:Addr):Prop where
 makes:PySem.W.makesIn K C=true
 init:PySem.W.findIn K (.ref C) "__init__"=some (some (.ref f))
 fn:PySem.W.isFn K (.ref f)=true
 kp:PySem.W.keepIn K (.ref C)=true
theorem znY {pins:List (Addr×Obj)} {σ:St} {H:Hp} {s:Shared} {Q:VK} {us:List Value} {vs:List V} (M:Mk X.K C f) (F:FnOk X.prog X.w X.K X.mg X.base CX k f fd ps sp) (hr:Room (k+1) X.A) (hb:zb8 X.K fd ps ds) (hd:Vals dvs ds)
  (hx:zdF CX X E) (I:Inv X pins σ H s) (r:Vals vs us)
  (h:∀ x dx,H x=none->H dx=none->dx≠x->sp (.ref x::(vs++dvs)) (upd (upd H dx (.own x)) x (.ins C dx [])) (λv H2=>v=.non/\Q (.ref x) H2) E) :
  wpAny (model X.prog X.w) X.A (call (.ref C) us) (EP X pins σ Q) X.xe s:=by
 have hq:=h (s.heap.objs.size+1) s.heap.objs.size (I.hok.fresh (Nat.le_succ _)) (I.hok.fresh (Nat.le_refl _)) (Nat.ne_of_lt (Nat.lt_succ_self _))
 have I2:=Inv.made (C:=C) I
 have r2:Vals (V.ref (s.heap.objs.size+1)::(vs++dvs)) (Value.ref (s.heap.objs.size+1)::(us++ds)):=.cons rfl (r.append hd)
 have hl:(Value.ref (s.heap.objs.size+1)::us++ds).length=ps.length:=by
  have e:=r2.length
  rw [F.len _ _ _ _ hq] at e
  exact e.symm
 refine wpAny_call (zna (f:=f) I.kIn M.makes M.init (beq_iff_eq.mp M.fn) (codeAny_mono (F.run _ X.stack _ _ ⟨Value.ref (s.heap.objs.size+1)::us,[]⟩ (Value.ref (s.heap.objs.size+1)::(us++ds)) _ _ E (hr.make C us [])
  (I2.env0.make C us []) (hb _ (Value.ref (s.heap.objs.size+1)::us) I2.kIn hl) r2 hq) λr s' hq'=>?_))
 cases r with
 | error e=>exact hx pins σ _ _ e s' I2 hq'
 | ok fl=>
  cases fl with
  | ret u=>
   obtain ⟨v,H',I3,rv,ev,q3⟩:=I2.after hq'
   subst ev
   exact ⟨rv,⟨V.ref (s.heap.objs.size+1),H',I3,rfl,q3⟩⟩
  | next=>exact False.elim hq'
  | brk=>exact False.elim hq'
  | cont=>exact False.elim hq'
theorem zpo (M:Mk X.K C f) (F:FnOk X.prog X.w X.K X.mg X.base CX k f fd ps sp) (hr:Room (k+1) X.A) (hg:Gl X x) (hm:X.mg x=some (.ref C)) (hb:zb8 X.K fd ps ds) (hd:Vals dvs ds) (hx:zdF CX X E)
  (ha:PA X (e::es) t) (hdb:(x==("__debug__":Str))=false:=by decide) (he:starEach (e::es) X.env=(false,eval e X.env)::starEach es X.env:=by rfl) (hpl:(backTo pos (starEach es X.env)).any (·.1)=false:=by rfl) :
  PE X (.Call (.Name x p) (e::es) [] pos) (ztu C sp dvs E t):=by
 intro pins s σ H Q I h
 refine wpAny_Call_Name_kw (zhM I hg hm ?_ hdb)
 refine PySem.W.callWith_K (h₀:=X.base) I.ok.mod.kin M.kp (thn (ha pos pins s σ H _ I h) λus s1 ⟨vs,H1,I1,r,q⟩=>⟨I1.kIn,?_⟩) he hpl
 exact znY M F hr hb hd hx I1 r q
end
section
variable {X:Cx} {CX:CXT} {k:Nat} {f C:Addr} {fd:FuncData} {ps ks:List Str} {sp:Sp} {E:XK} {x m:Str} {p pos apos kpos:Pos} {e o:Expr} {es:List Expr} {kws:List Keyword} {te ta:TE} {t tk:TA} {nm:Option Str}
variable {g:List Value->List Value->List Value} {gV:List V->List V->List V}
end
structure zed (N P:List Str) (sc:Scope):Prop where
 kind:sc.kind=.function
 co:sc.isCoroutine=false
 gen:sc.isGenerator=false
 nd:N.Nodup
 pre:N.take P.length=P
 par:∀ x∈P,sc.names.lookup x=some .local\/sc.names.lookup x=some .cell
 nofree:∀ y∈sc.names,y.2≠.free
theorem zg9 {kindOf:Str->Option NameKind} {x:Str}:∀ {binds:List (Str×Value)} {m:Str->Option Value},(∀ v,(x,v) ∉ binds)->bindL kindOf binds m x=m x
  | [],_,_=>rfl
  | (n, v)::r,m,h=>by
    unfold bindL
    rw [zg9 λw hw=>h w (List.mem_cons_of_mem _ hw)]
    split
    · have:x≠n:=by rintro rfl;exact h v List.mem_cons_self
      simp [this]
    · rfl
theorem zgc {kindOf:Str->Option NameKind} {x:Str}:∀ {binds:List (Str×Value)} {m:Str->Option Value},(∀ v,(x,v) ∉ binds)->bindC kindOf binds m x=m x
  | [],_,_=>rfl
  | (n, v)::r,m,h=>by
    unfold bindC
    rw [zgc λw hw=>h w (List.mem_cons_of_mem _ hw)]
    split
    · rfl
    · have:x≠n:=by rintro rfl;exact h v List.mem_cons_self
      simp [this]
theorem zgG {kindOf:Str->Option NameKind} {x:Str} {v:Value}:∀ {P:List Str} {vs:List Value} {i:Nat} {m:Str->Option Value},P.Nodup->P[i]?=some x->vs[i]?=some v->kindOf x=some .local →
  bindL kindOf (P.zip vs) m x=some v
 | [],_,_,_,_,h,_,_=>by simp at h
 | _::_,[],_,_,_,_,h,_=>by simp at h
 | p::P,w::vs,0,m,nd,h1,h2,hk=>by
  simp at h1 h2;subst h1;subst h2
  show bindL kindOf ((p,w)::P.zip vs) m p=_
  unfold bindL
  rw [zg9 λv hv=>(List.nodup_cons.mp nd).1 (List.of_mem_zip hv).1,if_pos hk]
  simp
 | p::P,w::vs,i+1,m,nd,h1,h2,hk=>by
  show bindL kindOf ((p,w)::P.zip vs) m x=_
  unfold bindL
  exact zgG (i:=i) (List.nodup_cons.mp nd).2 (by simpa using h1) (by simpa using h2) hk
theorem zgP {kindOf:Str->Option NameKind} {x:Str} {v:Value}:∀ {P:List Str} {vs:List Value} {i:Nat} {m:Str->Option Value},P.Nodup->P[i]?=some x->vs[i]?=some v->kindOf x≠some .local →
  bindC kindOf (P.zip vs) m x=some v
 | [],_,_,_,_,h,_,_=>by simp at h
 | _::_,[],_,_,_,_,h,_=>by simp at h
 | p::P,w::vs,0,m,nd,h1,h2,hk=>by
  simp at h1 h2;subst h1;subst h2
  show bindC kindOf ((p,w)::P.zip vs) m p=_
  unfold bindC
  rw [zgc λv hv=>(List.nodup_cons.mp nd).1 (List.of_mem_zip hv).1,if_neg hk]
  simp
 | p::P,w::vs,i+1,m,nd,h1,h2,hk=>by
  show bindC kindOf ((p,w)::P.zip vs) m x=_
  unfold bindC
  exact zgP (i:=i) (List.nodup_cons.mp nd).2 (by simpa using h1) (by simpa using h2) hk
noncomputable def start (N:List Str) (vs:List V):St:=vs.map some++List.replicate (N.length-vs.length) none
noncomputable def cxOf (CX:CXT) (P:Program) (w:World) (K:PySem.W.Frag) (mg:Str->Option Value) (base:Heap) (N:List Str) (qual:Str) (scope:Scope) (f:Addr) (cd:Value) (A:Around) (outer:List Env) (s:Shared) (H:Hp) (E:XK):Cx where
 prog:=P
 w:=w
 K:=K
 mg:=mg
 base:=base
 A:=A.deeper (envOfC qual scope s.heap.objs.size f cd)
 N:=N
 s₀:=s
 H₀:=H
 env:=envOfC qual scope s.heap.objs.size f cd
 outer:=outer
 stack:=envOfC qual scope s.heap.objs.size f cd::outer
 ex:=[]
 calm:=true
 fn:=λ_=>true
 pn:=[]
 xe:=λe s'=>wpAny (model P w) (A.deeper (envOfC qual scope s.heap.objs.size f cd)) (leaving (envOfC qual scope s.heap.objs.size f cd) e) (λ_ s''=>CX outer H s E e s'') (λe' s''=>CX outer H s E e' s'') s'
theorem zib {sc:Scope} {n:Nat} {x:Str} (h:sc.names.lookup x=some .cell):∃ c,(cellsFrom n sc.names []).lookup x=some c:=by
 have q:=PySem.W.cellsFrom_some sc.names n [] (.inl h)
 exact Option.isSome_iff_exists.mp q
theorem zkD {CX:CXT} {P:Program} {w:World} {K:PySem.W.Frag} {mg:Str->Option Value} {base:Heap} {N ps:List Str} {qual:Str} {scope:Scope} {f:Addr} {cd:Value} {A:Around} {outer:List Env} {s s1:Shared} {H:Hp} {E:XK} {us:List Value} {vs:List V}
  (S:zed N ps scope) (hd:A.handled=none) (e0:Env0 P w K mg base A outer s H) (hl:vs.length=ps.length) (r:Vals vs us)
  (x:InCallC s s.heap.objs.size (bindL (envOfC qual scope s.heap.objs.size f cd).kindOf (ps.zip us) λ_=>none) (cellsFrom (s.heap.objs.size+1) scope.names []) (bindC (envOfC qual scope s.heap.objs.size f cd).kindOf (ps.zip us) λ_=>none) s1) :
  Inv (cxOf CX P w K mg base N qual scope f cd A outer s H E) [] (start N vs) H s1:=by
 have hpl:ps.length<=N.length:=by have:=congrArg List.length S.pre;rw [List.length_take] at this;omega
 obtain ⟨h1,tk,rfl,hk⟩:=x.done
 have noA:∀ b:Addr,b ∉ (cxOf CX P w K mg base N qual scope f cd A outer s H E).ex:=λb z=>absurd (show b∈([]:List Addr) from z) (by simp)
 refine ⟨⟨e0.mod,S.kind,rfl,rfl,Nat.le_refl _,λy z c h1 h2=>?_,λy hy=>?_,λy c _ h=>?_,λ_=>hd,Around.frames_deeper e0.frames,.inr ⟨rfl,rfl⟩,λb z=>absurd z (noA b),e0.bs,e0.bsz,λb _ _=>noA b,λb z=>absurd z (noA b),e0.funs,e0.frf⟩,
  rfl,e0.bare,Un.kept hk,⟨_,x.toInCall.ns,λi y v h1 h2 h3=>?_⟩,λy c h=>⟨_,x.cell y c h⟩,e0.hok.fresh (Nat.le_refl _),λy c h=>?_,λp hp=>absurd (show p∈([]:List (Addr×Obj)) from hp) (by simp),e0.hok.kept hk,?_⟩
 ·exact name_of_addr x.apart (PySem.mem_of_lookup h1) (PySem.mem_of_lookup h2)
 ·have hy:scope.names.lookup y=some .cell\/scope.names.lookup y=some .free:=hy
  rcases hy with hy | hy
  ·exact zib hy
  ·exact absurd rfl (S.nofree _ (PySem.mem_of_lookup hy))
 ·exact Nat.le_of_lt (x.above y c (PySem.mem_of_lookup h))
 ·have hi:i<vs.length:=by
   unfold start at h2
   by_cases hi:i<vs.length
   ·exact hi
   ·rw [List.getElem?_append_right (by simpa using hi)] at h2
    rw [List.getElem?_replicate] at h2
    split at h2<;>cases h2
  have ha:vs[i]?=some v:=by
   unfold start at h2
   rw [List.getElem?_append_left (by simpa using hi),List.getElem?_map] at h2
   cases e:vs[i]? with
   | none=>rw [e] at h2;cases h2
   | some a=>rw [e] at h2;cases h2;rfl
  obtain ⟨u,hu,rv⟩:=r.get ha
  have hp:ps[i]?=some y:=by
   rw [<-S.pre,List.getElem?_take_of_lt (by omega)];exact h1
  have ndP:ps.Nodup:=by rw [<-S.pre];exact S.nd.sublist (List.take_sublist _ _)
  refine ⟨u,rv,?_⟩
  rcases S.par y (List.mem_of_getElem? hp) with k | k
  ·exact .inl ⟨k,zgG ndP hp hu k⟩
  ·obtain ⟨c,e⟩:=zib (n:=s.heap.objs.size+1) k
   refine .inr ⟨.inl k,c,e,?_⟩
   have q:=x.cell y c e
   rw [zgP ndP hp hu (by show scope.names.lookup y≠_;rw [k];decide)] at q
   exact q
 ·exact e0.hok.fresh (Nat.le_of_lt (x.above y c (PySem.mem_of_lookup h)))
 ·unfold start
  show _=N.length
  rw [List.length_append,List.length_map,List.length_replicate]
  omega
theorem zs8 {CX:CXT} {P:Program} {w:World} {K:PySem.W.Frag} {mg:Str->Option Value} {base:Heap} {k:Nat} {f:Addr} {name qual:Str} {params:Arguments} {body:List Stmt} {scope:Scope} {dV kV doc pm cdv ct oc:Value} {an od:Option Addr}
  {osl:Array (Option Value)} {N ps:List Str} {sp:Sp} (lk:K.lookup f=some ⟨oc,od,.func (PySem.W.fnOf name qual params body scope dV kV doc pm an cdv ct),osl⟩) (hcd:PySem.W.codeIn K cdv qual=true) (S:zed N ps scope)
  (len:∀ vs H Q E,sp vs H Q E->vs.length=ps.length)
  (hbody:∀ (A:Around) (outer:List Env) (s:Shared) (H:Hp) (vs:List V) (Q:VK) (E:XK),Room k (A.deeper (envOfC qual scope s.heap.objs.size f cdv))->sp vs H Q E →
   ∃ t,PSs (cxOf CX P w K mg base N qual scope f cdv A outer s H E) body t/\t { nx:=λ_ H'=>Q .non H',rt:=Q } (start N vs) H) :
  FnOk P w K mg base CX (k+1) f (PySem.W.fnOf name qual params body scope dV kV doc pm an cdv ct) ps sp:=by
 refine ⟨len,λA outer s H args us vs Q E hr e0 hb r hsp=>?_⟩
 have hl:=len _ _ _ _ hsp
 have KX:K.In s.heap:=e0.mod.kin.keeps λb o e=>(e0.bs b o e).1
 have lim:s.heap.NoLimit:=e0.mod.nolimit.keeps λb o e=>(e0.bs b o e).1
 have hkind:∀ y∈ps.zip us,scope.names.lookup y.1=some .local\/(scope.names.lookup y.1=some .cell/\((cellsFrom (s.heap.objs.size+1) scope.names []).lookup y.1).isSome=true):=λ⟨n,v⟩ hy=>by
  rcases S.par n (List.of_mem_zip hy).1 with q | q
  ·exact .inl q
  ·exact .inr ⟨q,PySem.W.cellsFrom_some _ _ _ (.inl q)⟩
 refine codeAny_call_function hr.depth (KX _ _ lk) rfl S.co S.gen rfl (PySem.W.codeRec_of KX hcd) (hb _ _ _ _ ?_)
 refine wpAny_newFunctionEnv_cells S.kind hkind λenv he s1 x=>?_
 subst he
 refine ⟨lim.keeps x.toInCall.keep,codeAny_func ?_⟩
 obtain ⟨t,ht,hq⟩:=hbody A outer s H vs Q E (hr.deeper _) hsp
 have I:Inv (cxOf CX P w K mg base N qual scope f cdv A outer s H E) [] (start N vs) H s1:=zkD S hr.hd e0 hl r x
 refine wpAny_mono (ht [] s1 (start N vs) H _ I hq) (λfl s' hs=>?_) λe s' hs=>hs
 have fin:∀ {σ':St} {H':Hp} {v:V} {u:Value},Inv (cxOf CX P w K mg base N qual scope f cdv A outer s H E) [] σ' H' s'->RelV v u->Q v H'->CE outer P w H s Q u s':=
  fun {σ' H' v u} J rv q=>⟨v,H',J.os,J.bare,J.base,J.hok,rv,q⟩
 cases fl with
 | ret u=>
  obtain ⟨v,σ',H',J,rv,q⟩:=hs
  exact fin J rv q
 | next=>
  obtain ⟨σ',H',J,q⟩:=hs
  exact fin (v:=V.non) (u:=Value.none) J rfl q
 | brk=>
  obtain ⟨_,_,_,q⟩:=hs
  exact False.elim q
 | cont=>
  obtain ⟨_,_,_,q⟩:=hs
  exact False.elim q
section
variable {X:Cx} {x:Str} {p pos:Pos} {e:Expr} {es:List Expr} {t:TA} {id T:String} {r:List V->Hp->VK->Prop}
noncomputable def tCB (r:List V->Hp->VK->Prop) (t:TA):TE:=λσ H Q=>t σ H λvs H1=>r vs H1 Q
theorem zbR (hc:zgw X (.builtin id) r) (hg:Gl X x) (hm:X.mg x=none) (hv:bootBuiltins x=some (.builtin id)) (ha:PA X (e::es) t) (hn:x ≠ "__name__":=by decide) (hdb:(x==("__debug__":Str))=false:=by decide)
  (he:starEach (e::es) X.env=(false,eval e X.env)::starEach es X.env:=by rfl) (hpl:(backTo pos (starEach es X.env)).any (·.1)=false:=by rfl):PE X (.Call (.Name x p) (e::es) [] pos) (tCB r t):=by
 intro pins s σ H Q I h
 refine wpAny_Call_Name_kw (zeS I hg hm hv ?_ hn hdb)
 exact PyProof.Rows.callWith_builtin1 (thn (ha pos pins s σ H _ I h) λus s1 ⟨vs,H1,I1,r1,q1⟩=>hc pins s1 σ H1 vs us Q I1 r1 q1) he hpl
theorem zgv (hc:zgw X (.type T) r) (hg:Gl X x) (hm:X.mg x=none) (hv:bootBuiltins x=some (.type T)) (ha:PA X (e::es) t) (hn:x ≠ "__name__":=by decide) (hdb:(x==("__debug__":Str))=false:=by decide)
  (he:starEach (e::es) X.env=(false,eval e X.env)::starEach es X.env:=by rfl) (hpl:(backTo pos (starEach es X.env)).any (·.1)=false:=by rfl):PE X (.Call (.Name x p) (e::es) [] pos) (tCB r t):=by
 intro pins s σ H Q I h
 refine wpAny_Call_Name_kw (zeS I hg hm hv ?_ hn hdb)
 exact PyProof.Rows.callWith_type1 (thn (ha pos pins s σ H _ I h) λus s1 ⟨vs,H1,I1,r1,q1⟩=>hc pins s1 σ H1 vs us Q I1 r1 q1) he hpl
end
end L2
namespace HT
open PySem PyProof.Rows
section
open PySem.SeqAt
open PySem.AutoSeq1 (wpAny_loadPart')
open PySem.MeetsSeq PySem.MeetsSeq2 PySem.MeetsSeq3
end
section
variable {prog:Program} {w:World} {A:Around} {E:Value->Shared->Prop} {s:Shared}
theorem cat_tup {t b:Addr} {vs ws:List Value} {Q:Value->Shared->Prop} (ht:IsTup s.heap t vs.toArray) (hb:IsTup s.heap b ws.toArray) (hv:vs≠[])
  (h1:ws=[]->Q (.ref t) s) (h2:ws≠[]->Q (.ref s.heap.objs.size) { s with heap:=s.heap.push { cls:=.type "tuple",data:=.seq (vs++ws).toArray } })
  (hsz:vs.length+ws.length<=sizeLine):wpAny (model prog w) A (binaryOp .Add (.ref t) (.ref b)) Q E s:=by
 obtain ⟨⟨cls,dd,data,sl⟩,ho,hc,n,hd⟩:=id ht
 obtain ⟨⟨cls2,dd2,data2,sl2⟩,ho2,hc2,n2,hd2⟩:=id hb
 simp only at hc hd hc2 hd2
 subst hc hd hc2 hd2
 have e:vs.toArray++ws.toArray=(vs++ws).toArray:=by simp
 by_cases hw:ws=[]
 ·exact concat_meets ⟨_,ho,rfl⟩ ⟨_,ho2,rfl⟩ noFill_tuple_add seq_tuple_add PySem.F.slot_tuple_add PySem.F.entry_tuple_add (PySem.F.args_tuple_add_2 _ _)
   (tuple_addW1 t b vs.toArray ws.toArray n n2 dd dd2 sl sl2 (by simpa using hv) (by simp [hw])) ⟨ho,ho2,h1 hw⟩
 ·refine concat_meets ⟨_,ho,rfl⟩ ⟨_,ho2,rfl⟩ noFill_tuple_add seq_tuple_add PySem.F.slot_tuple_add PySem.F.entry_tuple_add (PySem.F.args_tuple_add_2 _ _)
   (tuple_addW2 t b vs.toArray ws.toArray n n2 dd dd2 sl sl2 (by simpa using hv) (by simpa using hw) (by rw [List.size_toArray,List.size_toArray];exact hsz)) ⟨ho,ho2,?_⟩
  rw [e]
  exact h2 hw
noncomputable def sIx (n d:Nat):Option Int->Nat
 | none=>d
 | some v=>if v<0 then (v+(n:Int)).toNat else min v.toNat n
theorem zsQ (n d:Nat) (hd:d<=n) (o:Option Int):sIx n d o<=n:=by
 cases o with
 | none=>exact hd
 | some v=>
  show (if v<0 then (v+(n:Int)).toNat else min v.toNat n)<=n
  by_cases hv:v<0
  ·rw [if_pos hv];omega
  ·rw [if_neg hv];exact Nat.min_le_right _ _
theorem zkQ (v:Int) (n d:Nat):(if v<0 then max (v+(n:Int)) 0 else min v (n:Int))=((sIx n d (some v):Nat):Int):=by
 show (if v<0 then max (v+(n:Int)) 0 else min v (n:Int))=(((if v<0 then (v+(n:Int)).toNat else min v.toNat n):Nat):Int)
 by_cases hv:v<0
 ·simp only [if_pos hv];omega
 ·simp only [if_neg hv];omega
theorem zjp (lo hi:Option Int) (n:Nat):Builtin.Slice.sliceAdjust lo hi 1 (n:Int)=(((sIx n 0 lo:Nat):Int),((sIx n n hi:Nat):Int)):=by
 have h1:¬ ((1:Int)<0):=by omega
 unfold Builtin.Slice.sliceAdjust
 simp only [h1,if_false]
 refine Prod.ext ?_ ?_
 ·cases lo with
  | none=>rfl
  | some v=>exact zkQ v n 0
 ·cases hi with
  | none=>rfl
  | some v=>exact zkQ v n n
theorem zjJ (i j:Nat):Builtin.Slice.slicePlaces (i:Int) (j:Int) 1=j-i:=by
 unfold Builtin.Slice.slicePlaces
 have h1:(1:Int)>0:=by omega
 simp only [h1,if_true,Int.ediv_one]
 split<;>omega
theorem zey {v:Value} {o:Option Int} {Q:Option Int->Shared->Prop} (p:IsPart v o) (h:Q o s):wpAny (model prog w) A (Builtin.Slice.slicePartIndex v) Q E s:=by
 cases p with
 | none=>exact slicePart_none h
 | int i t=>exact slicePart_int h
theorem zbt {sl:Addr} {vl vu:Value} {lo hi:Option Int} {n:Nat} {Q:Int×Int×Nat->Shared->Prop} (hs:s.heap.IsSliceOf sl vl vu .none) (pl:IsPart vl lo) (pu:IsPart vu hi)
    (h:Q (((sIx n 0 lo:Nat):Int),1,sIx n n hi-sIx n 0 lo) s):wpAny (model prog w) A (Builtin.Slice.sliceApplied (.ref sl) (pure (n:Int))) Q E s:=by
  obtain ⟨os,hos,hcs,hds⟩:=id hs
  unfold Builtin.Slice.sliceApplied Builtin.Slice.sliceFields
  refine wpAny_bind (wpAny_bind (wpAny_field hos hds (x:=vl) rfl (wpAny_bind (wpAny_field hos hds (x:=vu) rfl (wpAny_bind (wpAny_field hos hds (x:=.none) rfl (wpAny_pure ?_)))))))
  refine wpAny_bind (slicePart_none ?_)
  show wpAny _ _ (if ((1:Int)==0)=true then _ else _) _ _ s
  rw [if_neg (by decide)]
  refine wpAny_bind (zey pl (wpAny_bind (zey pu (wpAny_bind (wpAny_pure ?_)))))
  show wpAny _ _ (match Builtin.Slice.sliceAdjust lo hi 1 (n:Int) with | (lo,hi)=>pure (lo,(1:Int),Builtin.Slice.slicePlaces lo hi 1)) _ _ s
  rw [zjp lo hi n]
  show wpAny _ _ (pure (((sIx n 0 lo:Nat):Int),(1:Int),Builtin.Slice.slicePlaces ((sIx n 0 lo:Nat):Int) ((sIx n n hi:Nat):Int) 1)) _ _ s
  rw [zjJ]
  exact wpAny_pure h
theorem zny (xs:Array Value) (i k:Nat):((List.range k).filterMap λ(m:Nat)=>xs[((i:Int)+(m:Int)*1).toNat]?).toArray=((xs.toList.drop i).take k).toArray:=by
 have e:(λ(m:Nat)=>xs[((i:Int)+(m:Int)*1).toNat]?)=λm=>xs[i+m]?:=by
  funext m
  have:((i:Int)+(m:Int)*1).toNat=i+m:=by omega
  rw [this]
 rw [e]
 have:=pick_run xs i k
 rw [List.filterMap_map] at this
 have e2:((λx=>xs[x]?)∘λx=>i+x)=λm=>xs[i+m]?:=rfl
 rw [e2] at this
 rw [this]
theorem getItem_tuple_cut {t sl:Addr} {items:Array Value} {vl vu:Value} {lo hi:Option Int} {Q:Value->Shared->Prop} (ht:IsTup s.heap t items) (hs:s.heap.IsSliceOf sl vl vu .none) (pl:IsPart vl lo) (pu:IsPart vu hi)
  (hw:¬ (sIx items.size 0 lo=0/\sIx items.size items.size hi=items.size))
  (h:Q (.ref s.heap.objs.size) { s with heap:=s.heap.push { cls:=.type "tuple",data:=.seq ((items.toList.drop (sIx items.size 0 lo)).take (sIx items.size items.size hi-sIx items.size 0 lo)).toArray } })
  (hsz:items.size<=sizeLine):wpAny (model prog w) A (getItem (.ref t) (.ref sl)) Q E s:=by
 have htake:sizeOk (.seq ((items.toList.drop (sIx items.size 0 lo)).take (sIx items.size items.size hi-sIx items.size 0 lo)).toArray):=by
  show ((items.toList.drop (sIx items.size 0 lo)).take (sIx items.size items.size hi-sIx items.size 0 lo)).toArray.size<=sizeLine
  rw [List.size_toArray,List.length_take,List.length_drop,Array.length_toList]
  omega
 have hj:sIx items.size items.size hi<=items.size:=zsQ _ _ (Nat.le_refl _) hi
 obtain ⟨os,hos,hcs,hds⟩:=id hs
 have hTs:s.TypeIs (.ref sl) "slice":=⟨os,hos,hcs⟩
 unfold getItem
 try with_reducible refine wpAny_holding ?_
 first | refine wpAny_bind (wpAny_pure ?_) | skip
 refine wpAny_bind (wpAny_sequenceKey ht.typeIs (by decide) ?_)
 refine wpAny_bind (wpAny_callSpecial?_slot (name:=Str.ofString "__getitem__") ht.typeIs PyProof.Rows.slot_tuple_getitem
  (wpAny_call_entry PyProof.Rows.slot_tuple_getitem ht.typeIs entry_tuple_getitem ?_ (args_tuple_getitem _ _)))
 show wpAny _ _ (Builtin.Tuple.tupleItemsOf (.ref t) >>= _) _ _ s
 refine wpAny_bind (tupleItemsOf_ ht ?_)
 refine wpAny_bind (wpAny_typeOf hTs ?_)
 rw [if_pos (by decide)]
 refine wpAny_bind (zbt hs pl pu ?_)
 have hno:¬ ((((sIx items.size 0 lo:Nat):Int)==0&&(1:Int)==1&&(sIx items.size items.size hi-sIx items.size 0 lo)==items.size)=true):=by
  intro q
  rw [Bool.and_eq_true,Bool.and_eq_true] at q
  have q1:((sIx items.size 0 lo:Nat):Int)=0:=eq_of_beq q.1.1
  have q2:sIx items.size items.size hi-sIx items.size 0 lo=items.size:=eq_of_beq q.2
  exact hw ⟨by omega,by omega⟩
 show wpAny _ _ (if (((sIx items.size 0 lo:Nat):Int)==0&&(1:Int)==1&&(sIx items.size items.size hi-sIx items.size 0 lo)==items.size)=true then _ else _) _ _ s
 rw [if_neg hno,zny]
 first
  | exact wpAny_bind (m:=Builtin.Tuple.tupleExact _) (wpAny_newObj_type (wpAny_pure ⟨_,rfl,wpAny_pure h⟩) htake)
  | exact wpAny_bind (m:=Builtin.Tuple.tupleExact _) (wpAny_newObj_type (wpAny_bind (wpAny_pure (wpAny_pure ⟨_,rfl,wpAny_pure h⟩))) htake)
  | exact wpAny_bind (wpAny_bind (m:=Builtin.Tuple.tupleExact _) (wpAny_newObj_type (wpAny_pure (wpAny_pure ⟨_,rfl,wpAny_pure h⟩)) htake))
  | exact wpAny_bind (wpAny_bind (m:=Builtin.Tuple.tupleExact _) (wpAny_newObj_type (wpAny_pure ⟨_,rfl,wpAny_pure h⟩) htake))
end
end HT
namespace L2
open PySem PySem.Spec PyProof.Rows
noncomputable abbrev TO:=St->Hp->(Option Int->Hp->Prop)->Prop
noncomputable def PO (X:Cx) (e:Option Expr) (t:TO):Prop:=
 ∀ (pins:List (Addr×Obj)) (s:Shared) (σ:St) (H:Hp) (Q:Option Int->Hp->Prop),Inv X pins σ H s->t σ H Q →
  wpAny (model X.prog X.w) X.A (evalPart e X.env) (λu s'=>∃ o H',Inv X pins σ H' s'/\IsPart u o/\Q o H') X.xe s
noncomputable def zpd:TO:=λ_ H Q=>Q none H
section
variable {X:Cx} {e:Expr} {te:TE} {lo hi:Option Expr} {tl th:TO} {pos p2:Pos}
theorem zoS:PO X none zpd:=by
 intro pins s σ H Q I h
 rw [evalPart_none]
 exact wpAny_pure ⟨none,H,I,.none,h⟩
noncomputable def SlR (X:Cx) (r:V->Option Int->Option Int->Hp->VK->Prop):Prop:=
 ∀ (pins:List (Addr×Obj)) (s:Shared) (σ:St) (H:Hp) (x:V) (v vl vu:Value) (lo hi:Option Int) (sl:Addr) (Q:VK),Inv X pins σ H s->RelV x v->s.heap.IsSliceOf sl vl vu .none->IsPart vl lo->IsPart vu hi->r x lo hi H Q →
  ∃ T id,typeLookup (.type T) "__getitem__"=pure (some (.builtin id))/\s.TypeIs v T/\wpAny (model X.prog X.w) X.A (getItem v (.ref sl)) (EP X pins σ Q) X.xe s
noncomputable def tSl (r:V->Option Int->Option Int->Hp->VK->Prop) (te:TE) (tl th:TO):TE:=λσ H Q=>te σ H λx H1=>tl σ H1 λl H2=>th σ H2 λu H3=>r x l u H3 Q
theorem zmE {r:V->Option Int->Option Int->Hp->VK->Prop} (hr:SlR X r) (he:PE X e te) (hl:PO X lo tl) (hu:PO X hi th):PE X (.Subscript e (.Slice lo hi none p2) pos) (tSl r te tl th):=by
 intro pins s σ H Q I h
 refine Subscript_ (thn (he pins s σ H _ I h) λv s1 qW=>?_)
 obtain ⟨x,H1,I1,r1,q1⟩:=qW
 refine wpAny_Slice (thn (hl pins s1 σ H1 _ I1 q1) λvl s2 ⟨l,H2,I2,pl,q2⟩=>thn (hu pins s2 σ H2 _ I2 q2) λvu s3 qW=>?_)
 obtain ⟨u,H3,I3,pu,q3⟩:=qW
 rw [evalPart_none]
 refine wpAny_pure ?_
 have I4:Inv X pins σ H3 { s3 with heap:=s3.heap.push { cls:=.type "slice",data:=.fields #[vl,vu,.none] } }:=I3.kept (t':=s3.toks) λb ob q=>Heap.get?_push_of_some _ q
 obtain ⟨T,id,hT,ht,hg⟩:=hr pins { s3 with heap:=s3.heap.push { cls:=.type "slice",data:=.fields #[vl,vu,.none] } } σ H3 x v vl vu l u s3.heap.objs.size Q I4 r1 (Heap.IsSliceOf.new ..) pl pu q3
 show wpAny (model X.prog X.w) X.A (subscriptTail e (.Slice lo hi none p2) v (.ref s3.heap.objs.size)) (EP X pins σ Q) X.xe { s3 with heap:=s3.heap.push { cls:=.type "slice",data:=.fields #[vl,vu,.none] } }
 exact tail_any (ops:=[.ref s3.heap.objs.size,v]) ht hT hg (by with_unfolding_all rfl)
noncomputable def cutV (xs:List V) (lo hi:Option Int):List V:=(xs.drop (HT.sIx xs.length 0 lo)).take (HT.sIx xs.length xs.length hi-HT.sIx xs.length 0 lo)
theorem zhX (xs:List V) (lo hi:Option Int):(cutV xs lo hi).length<=xs.length:=by
 unfold cutV
 rw [List.length_take,List.length_drop]
 omega
noncomputable def rSlT (K:PySem.W.Frag):V->Option Int->Option Int->Hp->VK->Prop:=λx lo hi H Q=>∃ a xs,x=.ref a/\SqT K H a xs ∧
 ¬ (HT.sIx xs.length 0 lo=0/\HT.sIx xs.length xs.length hi=xs.length)/\∀ p,H p=none->Q (.ref p) (upd H p (.tup (cutV xs lo hi)))
theorem zqL:SlR X (rSlT X.K):=by
 intro pins s σ H x v vl vu lo hi sl Q I rx hs pl pu h
 obtain ⟨a,xs,rfl,hx,hw,q⟩:=h
 cases rx
 obtain ⟨its,r,ht,hz⟩:=I.tuple hx
 have hlen:its.toArray.size=xs.length:=by rw [List.size_toArray];exact r.length.symm
 refine ⟨"tuple",_,PyProof.Rows.slot_tuple_getitem.lookup,ht.typeIs,?_⟩
 refine HT.getItem_tuple_cut ht hs pl pu (by rw [hlen];exact hw) ?_ (by rw [hlen];exact hz)
 rw [hlen]
 refine ⟨.ref s.heap.objs.size,_,I.laid (t':=s.toks) (o:=.tup (cutV xs lo hi)) (λb ob q=>Heap.get?_push_of_some _ q) (Nat.le_refl _) ?_,rfl,q _ (I.hok.fresh (Nat.le_refl _))⟩
 exact ⟨Nat.le_trans (zhX xs lo hi) hz,_,(r.drop (HT.sIx xs.length 0 lo)).take (HT.sIx xs.length xs.length hi-HT.sIx xs.length 0 lo),zcw.new _ _⟩
noncomputable def ztG (K:PySem.W.Frag):R2:=λx y H Q=>∃ a b xs ys,x=.ref a/\y=.ref b/\SqT K H a xs/\SqT K H b ys/\xs≠[]/\xs.length+ys.length<=sizeLine ∧
 (ys=[]->Q (.ref a) H)/\(ys≠[]->∀ p,H p=none->Q (.ref p) (upd H p (.tup (xs++ys))))
theorem Vals.nil_iff {xs:List V} {us:List Value} (r:Vals xs us):us=[]↔xs=[]:=by
 cases r with
 | nil=>simp
 | cons _ _=>simp
theorem zo7:OpR X (binaryOp .Add) (ztG X.K):=by
 intro pins s σ H x y v u Q I rx ry h
 obtain ⟨a,b,xs,ys,rfl,rfl,ha,hb,hx,hz,q1,q2⟩:=h
 cases rx
 cases ry
 obtain ⟨its,r1,p1,_⟩:=I.tuple ha
 obtain ⟨its2,r2,p2,_⟩:=I.tuple hb
 refine HT.cat_tup p1 p2 (λz=>hx (r1.nil_iff.mp z)) (λz=>⟨.ref a,H,I,rfl,q1 (r2.nil_iff.mp z)⟩) (λz=>?_) (by rw [<-r1.length,<-r2.length];exact hz)
 refine ⟨.ref s.heap.objs.size,_,I.laid (t':=s.toks) (o:=.tup (xs++ys)) (λb ob q=>Heap.get?_push_of_some _ q) (Nat.le_refl _) ?_,rfl,q2 (λw=>z (r2.nil_iff.mpr w)) _ (I.hok.fresh (Nat.le_refl _))⟩
 exact ⟨by rw [List.length_append];exact hz,_,r1.append r2,zcw.new _ _⟩
end
noncomputable def ixN (n:Nat) (i:Int):Option Nat:=if 0<=i then (if i<n then some i.toNat else none) else if -(n:Int)<=i then some (i+n).toNat else none
noncomputable def atI {α:Type} (xs:List α) (i:Int):Option α:=(ixN xs.length i).bind λj=>xs[j]?
theorem zqK {n:Nat} {i:Int} {j:Nat} (h:ixN n i=some j):seqIndex? i n=some j/\j<n/\-(n:Int)<=i/\i<n:=by
 unfold ixN at h
 by_cases h0:0<=i
 ·rw [if_pos h0] at h
  by_cases h1:i<n
  ·rw [if_pos h1] at h
   have e:i.toNat=j:=Option.some.inj h
   exact ⟨by rw [seqIndex_of h0 h1,e],by omega,by omega,h1⟩
  ·rw [if_neg h1] at h;cases h
 ·rw [if_neg h0] at h
  by_cases h1:-(n:Int)<=i
  ·rw [if_pos h1] at h
   have e:(i+n).toNat=j:=Option.some.inj h
   exact ⟨by rw [seqIndex_neg (by omega) h1,e],by omega,h1,by omega⟩
  ·rw [if_neg h1] at h;cases h
theorem zlg {α:Type} {xs:List α} {i:Int} {v:α} (h:atI xs i=some v):∃ j,seqIndex? i xs.length=some j/\xs[j]?=some v/\j<xs.length/\-(xs.length:Int)<=i/\i<xs.length:=by
 unfold atI at h
 cases e:ixN xs.length i with
 | none=>rw [e] at h;cases h
 | some j=>
  rw [e] at h
  obtain ⟨h1,h2,h3,h4⟩:=zqK e
  exact ⟨j,h1,h,h2,h3,h4⟩
noncomputable def zc0 (b:Expr):Prop:=∀ o i,subscripted b false o i=operate [o,i] (getItem o i)
noncomputable def IxR (X:Cx) (r:R2):Prop:=
 ∀ (value slice:Expr) (pins:List (Addr×Obj)) (s:Shared) (σ:St) (H:Hp) (x y:V) (v u:Value) (Q:VK),Inv X pins σ H s->RelV x v->RelV y u->r x y H Q →
  subscripted slice false v u=operate [v,u] (getItem v u)->wpAny (model X.prog X.w) X.A (subscriptTail value slice v u) (EP X pins σ Q) X.xe s
noncomputable def MtR (X:Cx) (id:String) (r:V->List V->Hp->VK->Prop):Prop:=
 ∀ (pins:List (Addr×Obj)) (s:Shared) (σ:St) (H:Hp) (x:V) (xs:List V) (v:Value) (us:List Value) (Q:VK),Inv X pins σ H s->RelV x v->Vals xs us->r x xs H Q →
  wpAny (model X.prog X.w) X.A (call (.builtin id) (v::us)) (EP X pins σ Q) X.xe s
section
variable {X:Cx} {a b:Expr} {ta tb:TE} {pos:Pos}
theorem zm7 {r:R2} (hr:IxR X r) (ha:PE X a ta) (hb:PE X b tb) (hs:zc0 b):PE X (.Subscript a b pos) (tOp r ta tb):=by
 intro pins s σ H Q I h
 exact Subscript_ (binT ha hb I h λv u s2 x y H2 I2 rx ry q=>hr a b pins s2 σ H2 x y v u Q I2 rx ry q (hs _ _))
noncomputable def rIxL (K:PySem.W.Frag):R2:=λx y H Q=>∃ p xs i v,x=.ref p/\y=.int i/\SqL K H p xs/\atI xs i=some v/\Q v H
noncomputable def rIxT (K:PySem.W.Frag):R2:=λx y H Q=>∃ p xs i v,x=.ref p/\y=.int i/\SqT K H p xs/\atI xs i=some v/\Q v H
theorem zkN:IxR X (rIxL X.K):=by
 intro value slice pins s σ H x y v u Q I rx ry h hs
 obtain ⟨p,xs,i,z,rfl,rfl,hq,he,q⟩:=h
 cases rx
 obtain ⟨t,rfl⟩:=ry
 obtain ⟨its,r,pl,hz⟩:=I.list hq
 obtain ⟨j,h1,h2,h3,h4,h5⟩:=zlg he
 obtain ⟨w,ew,rw'⟩:=r.get h2
 have hl:=r.length
 have hn:=zhb
 have fin:EP X pins σ Q w s:=⟨z,H,I,rw',q⟩
 by_cases h0:0<=i
 ·have hj:i.toNat=j:=by
   rw [seqIndex_of h0 h5] at h1
   exact Option.some.inj h1
  exact item_listR pl.isList h0 (by omega) (by rw [hj];simpa using ew) fin hs
 ·have hj:(i+(its.toArray.size:Int)).toNat=j:=by
   rw [seqIndex_neg (by omega) h4] at h1
   rw [List.size_toArray,<-hl]
   exact Option.some.inj h1
  exact subscriptTail_builtinR (x:=w) pl.isList.typeIs slot_list_getitem.lookup
   (wpAny_getItem_list_neg (Q:=λr s'=>r=w/\EP X pins σ Q r s') pl.isList (by omega) (by rw [List.size_toArray]<;>omega) (by omega) (by rw [hj];simpa using ew) ⟨rfl,fin⟩) hs
theorem zqT:IxR X (rIxT X.K):=by
 intro value slice pins s σ H x y v u Q I rx ry h hs
 obtain ⟨p,xs,i,z,rfl,rfl,hq,he,q⟩:=h
 cases rx
 obtain ⟨t,rfl⟩:=ry
 obtain ⟨its,r,pl,hz⟩:=I.tuple hq
 obtain ⟨j,h1,h2,h3,h4,h5⟩:=zlg he
 obtain ⟨w,ew,rw'⟩:=r.get h2
 have hl:=r.length
 have hn:=zhb
 have fin:EP X pins σ Q w s:=⟨z,H,I,rw',q⟩
 exact subscriptTail_builtinR (x:=w) pl.typeIs slot_tuple_getitem.lookup
  (getItem_tuple (j:=j) (Q:=λr s'=>r=w/\EP X pins σ Q r s') pl (by omega) (by omega) (by rw [List.size_toArray,<-hl];exact h1) (by simpa using ew) ⟨rfl,fin⟩) hs
theorem Inv.lst {pins:List (Addr×Obj)} {σ:St} {H:Hp} {s:Shared} {p:Addr} {xs:List V} (I:Inv X pins σ H s) (h:H p=some (.lst xs)) :
  ∃ (its:List Value) (n:Nat),Vals xs its/\s.heap.get? p=some { cls:=.type "list",data:=.seq its.toArray n }/\xs.length<=sizeLine:=by
 obtain ⟨z,its,n,r,e⟩:=I.hok p _ h
 exact ⟨its,n,r,e,z⟩
theorem zff:zgw X (.type "tuple") (λxs H Q=>∃ p ys,xs=[.ref p]/\((SqL X.K H p ys/\∀ l,H l=none->Q (.ref l) (upd H l (.tup ys)))\/(SqT X.K H p ys/\Q (.ref p) H))):=by
 intro pins s σ H xs us Q I r h
 obtain ⟨p,ys,rfl,h⟩:=h
 obtain ⟨u,rfl,rx⟩:=zlN r
 cases rx
 rcases h with ⟨hq,q⟩ | ⟨hq,q⟩
 ·obtain ⟨its,r',pl,hz⟩:=I.list hq
  have hlen:=r'.length
  refine call_tuple_list pl.isList (λh' kp=>?_) (by simp only [List.size_toArray]<;>omega)
  have I1:Inv X pins σ H { s with heap:=h' }:=I.kept (t':=s.toks) kp
  have I2:Inv X pins σ (upd H h'.objs.size (.tup ys)) { s with heap:=h'.push { cls:=.type "tuple",data:=.seq its.toArray } }:=
   I1.laid (t':=s.toks) (λb o e=>Heap.get?_push_of_some _ e) (Nat.le_refl _) (show zba X.prog X.w _ _ _ (.tup ys) from ⟨hz,its,r',zcw.new _ _⟩)
  exact ⟨.ref h'.objs.size,_,I2,rfl,q _ (I1.hok.fresh (Nat.le_refl _))⟩
 ·obtain ⟨its,r',pl,hz⟩:=I.tuple hq
  exact call_tuple_same pl ⟨.ref p,H,I,rfl,q⟩
noncomputable def tyV (K:PySem.W.Frag) (T:String) (x:V) (H:Hp):Prop:=match x with
 | .str _=>T="str"
 | .int _=>T="int"
 | .ref p=>(T="list"/\∃ xs,SqL K H p xs)\/(T="tuple"/\∃ xs,SqT K H p xs) ∨
   (T="dict"/\((∃ kvs,H p=some (.dK kvs))\/∃ kvs,Rd H p (.dT kvs)))\/(T="set"/\∃ S n,H p=some (.set S n))
 | _=>False
theorem zob {pins:List (Addr×Obj)} {σ:St} {H:Hp} {s:Shared} {T:String} {x:V} {v:Value} (I:Inv X pins σ H s) (r:RelV x v) (ty:tyV X.K T x H) :
  s.TypeIs v T/\∀ a,v=.ref a->∃ ob,s.heap.get? a=some ob/\ob.dict=none:=by
 cases x with
 | str z=>
  obtain ⟨t,rfl⟩:=r
  cases (show T="str" from ty)
  exact ⟨typeIs_str s z t,λ_ e=>nomatch e⟩
 | int i=>
  obtain ⟨t,rfl⟩:=r
  cases (show T="int" from ty)
  exact ⟨typeIs_int s i t,λ_ e=>nomatch e⟩
 | ref p=>
  cases r
  rcases ty with ⟨rfl,xs,hq⟩ | ⟨rfl,xs,hq⟩ | ⟨rfl,hk⟩ | ⟨rfl,S,n,hk⟩
  ·obtain ⟨its,_,pl,_⟩:=I.list hq
   refine ⟨pl.isList.typeIs,λa e=>?_⟩
   cases e
   obtain ⟨o,n,e,c,hd,_⟩:=pl
   exact ⟨o,e,hd⟩
  ·obtain ⟨its,_,⟨o,e,c,_⟩,_⟩:=I.tuple hq
   refine ⟨⟨o,e,c⟩,λa e2=>?_⟩
   cases e2
   exact ⟨o,e,I.tupleB hq o e⟩
  ·have z:∃ o,s.heap.get? p=some o/\o.ExactDict:=by
    rcases hk with ⟨kvs,hk⟩ | ⟨kvs,hk⟩
    ·obtain ⟨_,_,_,_,o,_,_,e,ex,_⟩:=I.hok p _ hk
     exact ⟨o,e,ex⟩
    ·obtain ⟨_,_,_,_,o,_,_,e,ex,_⟩:=(show zba X.prog X.w H s.heap p (.dT kvs) from hk.ok I.hok)
     exact ⟨o,e,ex⟩
   obtain ⟨o,e,ex⟩:=z
   refine ⟨⟨o,e,ex.1⟩,λa e2=>?_⟩
   cases e2
   exact ⟨o,e,ex.2.1⟩
  ·obtain ⟨o,_,_,_,e,ex,_⟩:=I.hok p _ hk
   refine ⟨⟨o,e,ex.1⟩,λa e2=>?_⟩
   cases e2
   exact ⟨o,e,ex.2.1⟩
 | _=>exact False.elim ty
noncomputable def tBM0 (K:PySem.W.Frag) (T:String) (r:V->List V->Hp->VK->Prop) (to:TE):TE:=λσ H Q=>to σ H λx H1=>tyV K T x H1/\r x [] H1 Q
noncomputable def tBM (K:PySem.W.Frag) (T:String) (r:V->List V->Hp->VK->Prop) (to:TE) (t:TA):TE:=λσ H Q=>to σ H λx H1=>tyV K T x H1/\t σ H1 λxs H2=>r x xs H2 Q
variable {o e:Expr} {es:List Expr} {to:TE} {t:TA} {name:Str} {apos cpos:Pos} {T id:String} {r:V->List V->Hp->VK->Prop}
theorem zoJ (pa:PlainAttrs T) (slot:Slot T name id) (hty:typeOf (.builtin id)=pure (.type "method_descriptor")) (hm:MtR X id r) (ho:PE X o to)
  (hbase:attributeBase o name X.env (eval o X.env)=eval o X.env:=by rfl) (hline:(apos.endLine==cpos.line)=true:=by rfl):PE X (.Call (.Attribute o name apos) [] [] cpos) (tBM0 X.K T r to):=by
 intro pins s σ H Q I h
 refine wpAny_Call_method0_late hbase hline (thn (ho pins s σ H _ I h) λv s1 qW=>?_)
 obtain ⟨x,H1,I1,r1,ty,q1⟩:=qW
 obtain ⟨h1,h2⟩:=zob I1 r1 ty
 exact ⟨T,id,pa,slot,hty,h1,h2,Calls.callWith_builtin rfl (PySem.evalArgs_none (hm pins s1 σ H1 x [] v [] Q I1 r1 .nil q1))⟩
theorem zm0 (pa:PlainAttrs T) (slot:Slot T name id) (hty:typeOf (.builtin id)=pure (.type "method_descriptor")) (hm:MtR X id r) (ho:PE X o to) (ha:PA X (e::es) t)
  (hbase:attributeBase o name X.env (eval o X.env)=eval o X.env:=by rfl)
  (hfew:((backTo cpos (starEach (e::es) X.env)).all (λx=>!x.1)&&(backToKw cpos (keywordEach [] X.env)).all (λx=>x.1.isSome)
   && decide ((e::es).length+([]:List Keyword).length+(if ([]:List Keyword).isEmpty then 0 else 1)<30))=true:=by rfl)
  (hline:(apos.endLine==cpos.line)=true:=by rfl) (hs:starEach (e::es) X.env=(false,eval e X.env)::starEach es X.env:=by rfl) (hplain:(backTo cpos (starEach es X.env)).any (·.1)=false:=by rfl) :
  PE X (.Call (.Attribute o name apos) (e::es) [] cpos) (tBM X.K T r to t):=by
 intro pins s σ H Q I h
 refine wpAny_Call_method_late hbase hfew hline rfl (thn (ho pins s σ H _ I h) λv s1 qW=>?_)
 obtain ⟨x,H1,I1,r1,ty,q1⟩:=qW
 obtain ⟨h1,h2⟩:=zob I1 r1 ty
 refine ⟨T,id,pa,slot,hty,h1,h2,?_⟩
 have hA:=ha cpos pins s1 σ H1 _ I1 q1
 rw [hs] at hA ⊢
 refine Calls.callWith_builtin (by show (false||(backTo cpos (starEach es X.env)).any (·.1))=false;rw [hplain]<;>rfl) (Calls.evalArgs_plain ?_)
 exact thn hA λus s2 ⟨vs,H2,I2,r2,q2⟩=>hm pins s2 σ H2 x vs v us Q I2 r1 r2 q2
/- xs.append(e),list.index on a module's tuple .. are MtR facts of 06m -/
end
noncomputable def MtM (X:Cx) (id:String) (r:V->List V->Hp->VK->Prop):Prop:=
 ∀ (pins:List (Addr×Obj)) (s:Shared) (σ:St) (H:Hp) (x:V) (xs:List V) (v:Value) (us:List Value) (Q:VK),Inv X pins σ H s->RelV x v->Vals xs us->r x xs H Q →
  wpAny (model X.prog X.w) X.A (call (.builtin id) (v::us)) (EP X pins σ Q) X.xe s
theorem Vals.one {x:V} {us:List Value} (h:Vals [x] us):∃ u,us=[u]/\RelV x u:=by
 cases h with
 | cons r t=>cases t;exact ⟨_,rfl,r⟩
theorem Vals.zero:∀ {us:List Value},Vals [] us->us=[]
 | _,.nil=>rfl
theorem Vals.dropLast {xs:List V} {us:List Value} (h:Vals xs us):Vals xs.dropLast us.dropLast:=by
 induction h with
 | nil=>exact .nil
 | cons r t ih=>
  cases t with
  | nil=>exact .nil
  | cons q t'=>exact .cons r ih
theorem Vals.eraseIdx:∀ {xs:List V} {us:List Value} (i:Nat),Vals xs us->Vals (xs.eraseIdx i) (us.eraseIdx i)
 | _,_,_,.nil=>.nil
 | _,_,0,.cons _ t=>t
 | _,_,i+1,.cons r t=>.cons r (Vals.eraseIdx i t)
theorem Vals.reverse {xs:List V} {us:List Value} (h:Vals xs us):Vals xs.reverse us.reverse:=by
 induction h with
 | nil=>exact .nil
 | cons r t ih=>rw [List.reverse_cons,List.reverse_cons];exact Vals.append ih (.cons r .nil)
theorem zjn {α:Type} (l:List α):l.eraseIdx (l.length-1)=l.dropLast:=by
 induction l with
 | nil=>rfl
 | cons a r ih=>
  cases r with
  | nil=>rfl
  | cons b r=>
   have e:(a::b::r).length-1=((b::r).length-1)+1:=by
    have h1:(a::b::r).length=r.length+2:=rfl
    have h2:(b::r).length=r.length+1:=rfl
    omega
   rw [e,List.eraseIdx_cons_succ,ih]
   all_goals rfl
section
variable {X:Cx} {pins:List (Addr×Obj)} {σ:St} {H:Hp} {s:Shared} {l b:Addr} {xs ys zs:List V}
theorem Inv.lset {its its':List Value} {n:Nat} {f:Array Value->Array Value} {t':Nat} (I:Inv X pins σ H s) (hH:H l=some (.lst xs))
  (e:s.heap.get? l=some { cls:=.type "list",data:=.seq its.toArray n }) (hf:f its.toArray=its'.toArray) (hv:Vals ys its') (hz:ys.length<=sizeLine) :
  Inv X pins σ (upd H l (.lst ys)) { s with heap:=s.heap.update l (Obj.mapSeq f),toks:=t' }:=by
 have q:=PySem.IsL.update e f
 rw [hf] at q
 refine I.write (x:=l) (e:=l) (by rw [hH];exact trivial) (.inl rfl) (λb' u hb hu=>(Heap.get?_update_other s.heap (Obj.mapSeq f) (Ne.symm hb)).trans hu) ⟨_,q⟩ ?_
 exact ⟨hz,its',_,hv,q⟩
theorem Inv.lnew {its:List Value} {t':Nat} (I:Inv X pins σ H s) (hv:Vals ys its) (hz:ys.length<=sizeLine) :
  Inv X pins σ (upd H s.heap.objs.size (.lst ys)) { s with heap:=s.heap.push { cls:=.type "list",data:=.seq its.toArray },toks:=t' }:=
 I.laid (λ_ _ q=>Heap.get?_push_of_some _ q) (Nat.le_refl _) ⟨hz,its,0,hv,Heap.get?_push_size _ rfl⟩
theorem Inv.fresh (I:Inv X pins σ H s):H s.heap.objs.size=none:=I.hok.fresh (Nat.le_refl _)
theorem Inv.lstM (I:Inv X pins σ H s) (hH:H l=some (.lst xs)):xs.length<=sizeLine/\∃ (its:List Value) (n:Nat),Vals xs its/\xs.length=its.length/\s.heap.get? l=some { cls:=.type "list",data:=.seq its.toArray n }:=by
 obtain ⟨z,its,n,r,e⟩:=I.hok l _ hH
 exact ⟨z,its,n,r,r.length,e⟩
theorem znI {n:Nat} (h:n<=sizeLine):Builtin.List.listTooLong n=false:=by
 unfold Builtin.List.listTooLong
 exact decide_eq_false (by omega)
end
section
variable {X:Cx}
noncomputable def zpD:V->List V->Hp->VK->Prop:=λx vs H Q=>∃ l xs y,x=.ref l/\vs=[y]/\H l=some (.lst xs)/\xs.length<sizeLine/\Q .non (upd H l (.lst (xs++[y])))
theorem zlo:MtM X "list.append" zpD:=by
 intro pins s σ H x vs v us Q I rx rv h
 obtain ⟨l,xs,y,rfl,rfl,hH,hz,q⟩:=h
 cases rx
 obtain ⟨u,rfl,ru⟩:=rv.one
 obtain ⟨z,its,n,r,hl,e⟩:=I.lstM hH
 refine call_meets F.slot_list_append ⟨_,e,rfl⟩ F.entry_list_append (F.args_list_append_2 _ _) (PySem.list_append l its.toArray n u (by rw [List.size_toArray];omega)) ⟨e,?_⟩
 refine ⟨.non,_,I.lset (its':=its++[u]) hH e (by simp) (r.append (.cons ru .nil)) ?_,rfl,q⟩
 rw [List.length_append,List.length_singleton]
 omega
noncomputable def rPop:V->List V->Hp->VK->Prop:=λx vs H Q=>∃ l xs y,x=.ref l/\vs=[]/\H l=some (.lst xs)/\xs[xs.length-1]?=some y/\Q y (upd H l (.lst xs.dropLast))
theorem zso:MtM X "list.pop" rPop:=by
 intro pins s σ H x vs v us Q I rx rv h
 obtain ⟨l,xs,y,rfl,rfl,hH,hy,q⟩:=h
 cases rx
 have hus:=rv.zero
 subst hus
 obtain ⟨z,its,n,r,hl,e⟩:=I.lstM hH
 obtain ⟨u,hu,ru⟩:=r.get hy
 have hy':its.toArray[its.toArray.size-1]?=some u:=by
  show its.toArray[its.length-1]?=some u
  rw [<-Array.getElem?_toList,<-hl]
  exact hu
 refine call_meets F.slot_list_pop ⟨_,e,rfl⟩ F.entry_list_pop (F.args_list_pop_1 _) (MeetsSeq.list_pop_last l its.toArray n u hy' (by rw [List.size_toArray];omega)) ⟨e,?_⟩
 refine ⟨y,_,I.lset (its':=its.dropLast) hH e ?_ r.dropLast ?_,ru,q⟩
 ·show its.toArray.eraseIdxIfInBounds (its.toArray.size-1)=its.dropLast.toArray
  rw [List.size_toArray,List.eraseIdxIfInBounds_toArray,zjn]
 ·rw [List.length_dropLast]
  omega
end
section
variable {prog:Program} {w:World} {A:Around} {E:Value->Shared->Prop} {s:Shared}
end
section
variable {X:Cx}
end
end L2
namespace Att
open PySem PySem.W PySem.Calls PyProof.Rows
theorem zdE {P:Params} {h:Heap}:∀ (ns:List Int) (vs:List Value),WellAll P h vs (ns.map WData.int)->IntsAre vs ns:=by
 intro ns
 induction ns with
 | nil=>
  intro vs w
  rw [List.map_nil] at w
  cases w
  exact .nil
 | cons n ns ih=>
  intro vs w
  rw [List.map_cons] at w
  cases w with
  | cons a b=>
   cases a
   exact .cons _ _ (ih _ b)
theorem zlI {l:OpenLaw} {n:Nat} (hn:l.most=some n) {P:Params} {h:Heap} {args:List WData} {vals:List Value}
  (hpre:l.row.toRowW.claim.pre args=true) (hwl:WellAll P h vals args) :
  ∃ a vs ns,vals=[Value.ref a]/\args=[WData.list (ns.map WData.int)]/\h.get? a=some { cls:=.type "list",data:=.seq vs.toArray }/\IntsAre vs ns/\ns.length<=n:=by
 have hsh:WShape.hasAll [] args [.list .int]=true:=(pre_splitW hpre).1
 have hc:l.pre.holds [] { args:=args }=true:=(pre_splitW hpre).2
 obtain ⟨d,r,rfl,h1,h2⟩:=hasAllW_cons hsh
 obtain rfl:=hasAllW_nil h2
 obtain ⟨xs,rfl,h3⟩:=hasW_list h1
 obtain ⟨ns,rfl⟩:=items_int h3
 have hlen:ns.length<=n:=by
  unfold OpenLaw.pre at hc
  have h4:(WTm.not (.lt (.lit (.int (n:Int))) (.len (.arg 0)))).holds [] { args:=[.list (ns.map .int)] }=true:=by
   have h4:=(holds_andW hc).1
   rw [hn] at h4
   exact h4
  have h5:=condW_of h4 (w_not (w_lt w_lit (w_len_list (w_arg rfl))))
  rw [List.length_map] at h5
  refine Nat.le_of_not_lt λq=>?_
  have q':(n:Int)<((ns.length:Nat):Int):=by omega
  first
   | (rw [decide_eq_true q'] at h5;exact absurd h5 (by decide))
   | (simp at h5;omega)
 cases hwl with
 | cons w1 w2=>
  cases w2
  cases w1 with
  | list ho hall=>exact ⟨_,_,ns,rfl,rfl,ho,zdE ns _ hall,hlen⟩
theorem zj2 (l:OpenLaw) (args:List WData):l.row.toRowW.claim.post args (.bool true) args=true:=
 postW_of (r:=l.row.toRowW) (X:=(true==true))
  (show WShape.has [] (.bool true) .bool=true by first | rfl | decide | simp [WShape.has,WShape.arms,WShape.armsAll])
  (show (WTm.eq .res (.lit (.bool true))).value [] { args:=args,res:=some (.bool true),after:=args }=some (.bool (true==true)) from w_eq_bool (w_res rfl) w_lit) rfl
theorem attach_call {l:OpenLaw} {n:Nat} {q:Program} {loose:List Str} {XP:(Str->Option Value)->Heap->Prop} {YP:World->Heap->Prop} {d:DefRec}
  (hn:l.most=some n) (hdf:d.params.defaults=[])
  (call:∀ (w:World) (s₀ s₁:Shared) (mg mb:Str->Option Value) (fa:Addr) (o:Obj) (pm cd doc:Value) (a:Addr) (vs:List Value) (ns:List Int),
   Ground q loose [] XP w s₀ mg mb s₁.heap->YP w s₁.heap →
   s₁.heap.get? fa=some o->o.data=.func (docDef d.name d.params d.body d.scope pm cd doc)->s₁.heap.CodeRec cd d.name->mg d.name=some (.ref fa) →
   s₁.heap.get? a=some { cls:=.type "list",data:=.seq vs.toArray }->IntsAre vs ns->ns.length<=n->s₁.gens=#[] →
   codeAny (model l.prog w) callerA (.call (.ref fa) ⟨[.ref a],[]⟩) (λr s'=>r=.ok (.ret (.bool true))/\OldK s₁.heap s'.heap/\s'.os=s₁.os/\AllBare s'.gens) s₁) :
  WalkO q loose XP YP l.row.toRowW d [] (λf vs=>PySem.call f vs):=by
 intro w s₀ s₁ mg mb G Y fa o pm cd doc dV kV ho hd hcd hD hmg hg args vals as hpre hlay hrd hwl hlo
 obtain rfl:dV=.none:=Dflts.none hD hdf
 obtain rfl:kV=.none:=Dflts.noKw hD
 obtain ⟨a,vs,ns,rfl,rfl,hobj,hints,hlen⟩:=zlI hn hpre hwl
 refine enter_call (codeAny_mono (call w s₀ s₁ mg mb fa o pm cd doc a vs ns G Y ho (fd_plain hd) hcd hmg hobj hints hlen hg) λr s' hq=>?_)
 obtain ⟨rfl,h2,h3,h4⟩:=hq
 exact ⟨.inl ⟨.bool true,.bool true,[],rfl,λ_=>rfl,.bool true,zj2 l _,λ_=>⟨List.Pairwise.nil,λ_ hm=>(nomatch hm)⟩⟩,h2,h3,h4⟩
section
variable {prog:Program} {w:World} {A:Around} {E:Value->Shared->Prop} {s:Shared} {K:Frag}
noncomputable def zud (h:Heap) (L d:Addr):List (Addr×Obj):=(List.range h.objs.size).filterMap λa=>if a=L\/a=d then none else (h.get? a).map λo=>(a,o)
end
end Att
namespace L2
open PySem PySem.Spec PyProof.Rows
theorem zgy {vs:List Value} {ns:List Int} (h:IntsAre vs ns):Vals (ns.map V.int) vs:=by
 induction h with
 | nil=>exact .nil
 | cons n t h ih=>exact .cons ⟨t,rfl⟩ ih
noncomputable def Only (H:Hp):Prop:=∀ b,H b=none\/∃ o xs,H b=some (.frz o (.lst xs))
theorem law_call {P:Program} {w:World} {K:PySem.W.Frag} {mg mb:Str->Option Value} {CX:CXT} {k:Nat} {fa a:Addr} {fd:FuncData} {x:Str} {sp:Sp} {s₁:Shared} {vs:List Value} {ns:List Int}
  (KX:K.In s₁.heap) (hns:s₁.heap.Ns mainGlobals mg) (hb:s₁.heap.Ns builtinsNs mb) (hbb:∀ x:Str,x ≠ "__name__"->mb x=bootBuiltins x) (hlim:s₁.heap.NoLimit) (hg:s₁.gens=#[])
  (ha:s₁.heap.get? a=some { cls:=.type "list",data:=.seq vs.toArray }) (hi:IntsAre vs ns) (hl:ns.length<=sizeLine) (hr:Room k callerA)
  (F:∀ base:Heap,K.In base->base.Ns mainGlobals mg->FnOk P w K mg base CX k fa fd [x] sp) (hbind:∀ (s:Shared) (u:Value),BindsTo s fd ⟨[u],[]⟩ [(x,u)])
  (hsp:∀ H:Hp,Only H->SqL K H a (ns.map V.int)->sp [.ref a] H (λv _=>v=.bl true) λ_ _ _=>False)
  (hCX:∀ H e s',CX [] H s₁ (λ_ _ _=>False) e s'->False) :
  codeAny (model P w) callerA (.call (.ref fa) ⟨[.ref a],[]⟩) (λr s'=>r=.ok (.ret (.bool true))/\OldK s₁.heap s'.heap/\s'.os=s₁.os/\AllBare s'.gens) s₁:=by
 have rv:=zgy hi
 have lenV:=hi.length
 have core:∀ H:Hp,Only H->SqL K H a (ns.map V.int)->HOk P w H s₁.heap->(∀ b,H b≠none->b=a)->(H a≠none->K.lookup a=none) →
   codeAny (model P w) callerA (.call (.ref fa) ⟨[.ref a],[]⟩) (λr s'=>r=.ok (.ret (.bool true))/\OldK s₁.heap s'.heap/\s'.os=s₁.os/\AllBare s'.gens) s₁:=by
  intro H hO hS hok hA hK
  have base_of:∀ {b:Addr} {o:Obj},s₁.heap.get? b=some o->H b=none->(hidT s₁.heap H).get? b=some o:=λe n=>znE e n
  have noA:∀ {b:Addr} {o:Obj} {es:Array DictEntry} {ep:Nat},s₁.heap.get? b=some o->o.data=.dict es ep->H b=none:=λ{b o es ep} e d=>by
   cases q:H b with
   | none=>rfl
   | some u=>
    have e':b=a:=hA b (by rw [q];simp)
    subst e'
    rw [ha] at e;cases e
    have d':Data.seq vs.toArray _=Data.dict es ep:=d
    cases d'
  have nsK:∀ {b:Addr} {m:Str->Option Value},s₁.heap.Ns b m->(hidT s₁.heap H).Ns b m:=λ{b m} ⟨o,es,ep,e,d,r⟩=>⟨o,es,ep,base_of e (noA e d),d,r⟩
  have hKb:K.In (hidT s₁.heap H):=λb o e=>base_of (KX b o e) (by
   cases q:H b with
   | none=>rfl
   | some u=>
    have e':b=a:=hA b (by rw [q];simp)
    subst e'
    rw [hK (by rw [q];simp)] at e;cases e)
  have hM:Mod K mg (hidT s₁.heap H):=⟨hKb,nsK hns,⟨mb,nsK hb,hbb⟩,let ⟨mc,h1,h2⟩:=hlim;⟨mc,nsK h1,h2⟩⟩
  have e0:Env0 P w K mg (hidT s₁.heap H) callerA [] s₁ H:=⟨rfl,hM,λb o e=>zpq e,Nat.le_of_eq (zkc _ _),trivial,λb hb=>absurd (show b∈([]:List Addr) from hb) (by simp),hok,.of_eq hg⟩
  refine codeAny_mono ((F _ hKb (nsK hns)).run callerA [] s₁ H ⟨[.ref a],[]⟩ [.ref a] [.ref a] _ _ hr e0 (hbind s₁ (.ref a)) (.cons rfl .nil) (hsp H hO hS)) λr s' h=>?_
  cases r with
  | error e=>exact (hCX H e s' h).elim
  | ok fl=>
   cases fl with
   | next=>exact False.elim h
   | brk=>exact False.elim h
   | cont=>exact False.elim h
   | ret u=>
    obtain ⟨v,H',os,bare,un,hok',r',q⟩:=h
    have q':v=.bl true:=q
    subst q'
    obtain rfl:u=Value.bool true:=r'
    refine ⟨rfl,OldK.of_keep λb o e=>?_,os,bare⟩
    cases q:H b with
    | none=>exact un.keep b o e q (by intro z;exact absurd (show b∈([]:List Addr) from z) (by simp)) (by simp)
    | some u=>
     rcases hO b with z | ⟨ob,xs,z⟩
     ·rw [q] at z;cases z
     ·have z2:=un.frzs b ob _ z
      obtain ⟨e1,_⟩:=hok b _ z
      obtain ⟨e2,_⟩:=hok' b _ z2
      rw [e] at e1;cases e1
      exact e2
 cases hk:K.lookup a with
 | some o=>
  have e:=KX a o hk
  rw [ha] at e
  cases e
  refine core (λ_=>none) (λ_=>.inl rfl) (.inr ⟨_,vs.toArray,_,hk,rfl,rfl,rfl,by rw [List.size_toArray,lenV];exact hl,by simpa using rv⟩) (λb u z=>by have z':(none:Option HO)=some u:=z;cases z') (λb z=>absurd rfl z) λz=>absurd rfl z
 | none=>
  refine core (λb=>if b=a then some (.frz { cls:=.type "list",data:=.seq vs.toArray } (.lst (ns.map V.int))) else none) (λb=>?_) (.inl (.inr ⟨{ cls:=.type "list",data:=.seq vs.toArray },if_pos rfl⟩)) (λb u z=>?_) (λb z=>?_) λ_=>hk
  ·by_cases hb:b=a
   ·exact .inr ⟨_,_,if_pos hb⟩
   ·exact .inl (if_neg hb)
  ·by_cases hb:b=a
   ·have z':=(if_pos hb).symm.trans z
    cases z'
    subst hb
    exact ⟨ha,by rw [List.length_map];exact hl,vs,_,rv,ha⟩
   ·have z':=(if_neg hb).symm.trans z
    cases z'
  ·by_cases hb:b=a
   ·exact hb
   ·exact absurd (if_neg hb) z
noncomputable abbrev KOf {K:PySem.W.Frag} {h:Heap} (_:K.In h):PySem.W.Frag:=K
theorem walk_of {l:PySem.W.OpenLaw} {n k:Nat} {q:Program} {loose:List Str} {XP:(Str->Option Value)->Heap->Prop} {YP:World->Heap->Prop} {d:DefRec} {K:Params->PySem.W.Frag} {CX:World->CXT} {sp:World->Sp} {x:Str}
  (hn:l.most=some n) (hn2:n<=sizeLine) (hdf:d.params.defaults=[]) (hr:Room k callerA)
  (hY:∀ (w:World) (h:Heap),YP w h->(K w.params).In h)
  (F : ∀ (w:World) (mg:Str->Option Value) (fa:Addr) (h:Heap),(K w.params).In h->h.Ns mainGlobals mg->mg d.name=some (.ref fa) →
   ∃ fd:FuncData,(∀ (s:Shared) (u:Value),BindsTo s fd ⟨[u],[]⟩ [(x,u)]) ∧
    ∀ base:Heap,(K w.params).In base->base.Ns mainGlobals mg->FnOk l.prog w (K w.params) mg base (CX w) k fa fd [x] (sp w))
  (hsp:∀ (w:World) (H:Hp) (a:Addr) (ns:List Int),ns.length<=n->Only H->SqL (K w.params) H a (ns.map V.int)->sp w [.ref a] H (λv _=>v=.bl true) λ_ _ _=>False)
  (hCX:∀ (w:World) (H:Hp) (s:Shared) (e:Value) (s':Shared),CX w [] H s (λ_ _ _=>False) e s'->False) :
  PySem.W.WalkO q loose XP YP l.row.toRowW d [] (λf vs=>PySem.call f vs):=by
 refine Att.attach_call hn hdf λw s₀ s₁ mg mb fa o pm cd doc a vs ns G Y ho hd hcd hmg hobj hints hlen hg=>?_
 have KX:=hY w _ Y
 obtain ⟨fd,hb,hF⟩:=F w mg fa _ KX G.T.g hmg
 exact law_call KX G.T.g G.T.b G.T.builtins G.T.nolimit hg hobj hints (Nat.le_trans hlen hn2) hr hF hb (λH hO hS=>hsp w H a ns hlen hO hS) λH e s'=>hCX w H s₁ e s'
end L2
/- THE LAST THEOREM (shape;LID,My.* are yours):
   My.Adr: a structure of the addresses that your layer names (classes,functions);My.Txt K t: a structure (Prop) of the equations over K;
   My.txt_mk:{K} {implicit addresses ..} (e1:nsIn K mainGlobals "law"=some (some (.ref f))) (e2:K.lookup f=some ⟨oc,od,.func (fnOf "law" "law" params body scope dV kV doc pm an cdv ct),sl⟩) (e3:codeIn K cdv "law"=true) ..:∃ t,My.Txt K t
set_option maxRecDepth 100000 in
set_option maxHeartbeats 0 in
theorem PySem.Challenge.cw_LID_holds : PySem.Challenge.rw_LID.Holds := by
 w_on;o_law;k_head;(case hw=>w_witness2)
 k_fill
 refine L2.walk_of (l:=PySem.Challenge.rw_LID) (n:=63) (k:=40) (x:="script") (CX:=λw=>..) (sp:=λ_=>My.sp_law) rfl (by decide) rfl ⟨rfl,by decide,by decide⟩ (λw h Y=>PySem.W.kIn_of Y) ?F ?S ?C
 case F=>
  intro w mg fa h KX G hmg
  have T:∃ t,My.Txt (L2.KOf KX) t:=by
   dsimp only [L2.KOf]                          -- K must stand as «<heap const> w.params» for k_is
   refine' My.txt_mk ?e1 ?e2 ?e3 ..
   (case e1=>PySem.W.k_is)                    -- in the order: a name->its address->its object->its parts
   (case e2=>PySem.W.k_is)
   ..
  obtain ⟨t,T⟩:=T
  have e0:=hmg.symm.trans (PySem.W.mg_of KX G T.law)
  cases e0                                       -- fa is the law's own address
  exact ⟨_,λs u=>.of_eq rfl,λbase kb nb=>My.law_fn T kb nb⟩     -- if «.of_eq rfl» comes too early: refine' ⟨_,?b,λbase kb nb=>My.law_fn T kb nb⟩;exact λs u=>.of_eq rfl
 case S=>exact λw H a ns hl hO hS=>..
 case C=>exact ..
(the tactic k_is has no namespace: write k_is) -/
namespace L2
open PySem PySem.Spec PyProof.Rows
noncomputable def zfz (s:Stmt) (j:Nat):Stmt:=match s with
 | .ClassDef _ _ _ body _ _ _ _ _ _ _=>body.getD j (.Pass ⟨0,0,0,0⟩)
 | _=>.Pass ⟨0,0,0,0⟩
noncomputable def zaA (s:Stmt):Arguments:=match s with
 | .FunctionDef _ a _ _ _ _ _ _ _ _=>a
 | _=>{ posonlyargs:=[],args:=[],vararg:=none,kwonlyargs:=[],kw_defaults:=[],kwarg:=none,defaults:=[] }
noncomputable def zas (s:Stmt):List Stmt:=match s with
 | .FunctionDef _ _ b _ _ _ _ _ _ _=>b
 | _=>[]
noncomputable def zad (s:Stmt):Scope:=match s with
 | .FunctionDef _ _ _ _ _ _ sc _ _ _=>sc
 | _=>{ kind:=.function,names:=[],isGenerator:=false,isCoroutine:=false }
noncomputable abbrev CX0:CXT:=λ_ _ _ _ _ _=>False
noncomputable abbrev E0:XK:=λ_ _ _=>False
theorem zmn {X:Cx}:zdF CX0 X E0:=λ_ _ _ _ _ _ _ h=>h.elim
section
variable {P:Program} {w:World} {K:PySem.W.Frag} {mg:Str->Option Value} {base:Heap}
end
section
variable {X:Cx}
end
end L2
namespace IT
open PySem PySem.Spec L2
noncomputable def LsR (K:PySem.W.Frag) (A:Addr->Prop) (H:Hp) (a:Addr) (vs:List V):Prop:=
 (¬ A a/\Rd H a (.lst vs))\/∃ (o:Obj) (its:Array Value) (n:Nat),K.lookup a=some o/\o.cls=.type "list"/\o.dict=none/\o.data=.seq its n/\its.size<=sizeLine/\Vals vs its.toList
theorem LsR.sq (q:LsR K A H a vs):SqL K H a vs:=q.imp (λz=>z.2) (λz=>z)
mutual
noncomputable def RepD (K:PySem.W.Frag) (A:Addr->Prop) (H:Hp):D->V->Prop
 | .non,v=>v=.non
 | .bl b,v=>v=.bl b
 | .int i,v=>v=.int i
 | .str x,v=>v=.str (zaH x)
 | .tup xs,v=>∃ a vs,v=.ref a/\SqT K H a vs/\RepDs K A H xs vs
 | .lst xs,v=>∃ a vs,v=.ref a/\LsR K A H a vs/\RepDs K A H xs vs
noncomputable def RepDs (K:PySem.W.Frag) (A:Addr->Prop) (H:Hp):List D->List V->Prop
 | [],vs=>vs=[]
 | x::xs,vs=>∃ v r,vs=v::r/\RepD K A H x v/\RepDs K A H xs r
end
section
variable {K:PySem.W.Frag} {A A':Addr->Prop} {H H':Hp}
mutual
theorem RepD.mono (ht:∀ a u,Rd H a (.tup u)->Rd H' a (.tup u)) (hl:∀ a u,¬ A a->Rd H a (.lst u)->¬ A' a/\Rd H' a (.lst u)):∀ (x:D) (v:V),RepD K A H x v->RepD K A' H' x v
 | .non,_,h | .bl _,_,h | .int _,_,h | .str _,_,h=>by
  first
  | (simp only [RepD] at h ⊢;exact h)
 | .tup xs,v,h=>by
  simp only [RepD] at h ⊢
  obtain ⟨a,vs,e,q,r⟩:=h
  exact ⟨a,vs,e,q.imp (ht a vs) (λz=>z),RepDs.mono ht hl xs vs r⟩
 | .lst xs,v,h=>by
  simp only [RepD] at h ⊢
  obtain ⟨a,vs,e,q,r⟩:=h
  exact ⟨a,vs,e,q.imp (λz=>hl a vs z.1 z.2) (λz=>z),RepDs.mono ht hl xs vs r⟩
theorem RepDs.mono (ht:∀ a u,Rd H a (.tup u)->Rd H' a (.tup u)) (hl:∀ a u,¬ A a->Rd H a (.lst u)->¬ A' a/\Rd H' a (.lst u)):∀ (x:List D) (v:List V),RepDs K A H x v->RepDs K A' H' x v
 | [],_,h=>by simp only [RepDs] at h ⊢;exact h
 | x::xs,vs,h=>by
  simp only [RepDs] at h ⊢
  obtain ⟨v,r,e,h1,h2⟩:=h
  exact ⟨v,r,e,RepD.mono ht hl x v h1,RepDs.mono ht hl xs r h2⟩
end
end
section
variable {K:PySem.W.Frag} {A:Addr->Prop} {H:Hp}
theorem RepDs.length:∀ {xs:List D} {vs:List V},RepDs K A H xs vs->xs.length=vs.length
 | [],vs,h=>by simp only [RepDs] at h;subst h;rfl
 | x::xs,vs,h=>by
  simp only [RepDs] at h
  obtain ⟨v,r,rfl,_,h2⟩:=h
  simp only [List.length_cons,h2.length]
theorem RepDs.get:∀ {xs:List D} {vs:List V} {i:Nat} {x:D},RepDs K A H xs vs->xs[i]?=some x->∃ v,vs[i]?=some v/\RepD K A H x v
 | [],vs,i,x,h,e=>by simp at e
 | y::xs,vs,i,x,h,e=>by
  simp only [RepDs] at h
  obtain ⟨v,r,rfl,h1,h2⟩:=h
  cases i with
  | zero=>simp at e;subst e;exact ⟨v,rfl,h1⟩
  | succ i=>simp at e;simpa using h2.get e
theorem RepDs.get':∀ {xs:List D} {vs:List V} {i:Nat} {v:V},RepDs K A H xs vs->vs[i]?=some v->∃ x,xs[i]?=some x/\RepD K A H x v
 | [],vs,i,v,h,e=>by simp only [RepDs] at h;subst h;simp at e
 | y::xs,vs,i,v,h,e=>by
  simp only [RepDs] at h
  obtain ⟨w,r,rfl,h1,h2⟩:=h
  cases i with
  | zero=>simp at e;subst e;exact ⟨y,rfl,h1⟩
  | succ i=>simp at e;simpa using h2.get' e
theorem RepDs.app:∀ {xs ys:List D} {vs us:List V},RepDs K A H xs vs->RepDs K A H ys us->RepDs K A H (xs++ys) (vs++us)
 | [],ys,vs,us,h,h'=>by simp only [RepDs] at h;subst h;simpa using h'
 | x::xs,ys,vs,us,h,h'=>by
  simp only [RepDs] at h
  obtain ⟨v,r,rfl,h1,h2⟩:=h
  simp only [List.cons_append,RepDs]
  exact ⟨v,r++us,rfl,h1,h2.app h'⟩
theorem RepDs.nil:RepDs K A H [] []:=by simp only [RepDs]
theorem RepDs.cons (h:RepD K A H x v) (h':RepDs K A H xs vs):RepDs K A H (x::xs) (v::vs):=by
 simp only [RepDs];exact ⟨v,vs,rfl,h,h'⟩
theorem RepDs.one (h:RepD K A H x v):RepDs K A H [x] [v]:=.cons h .nil
theorem RepDs.take:∀ {xs:List D} {vs:List V} (n:Nat),RepDs K A H xs vs->RepDs K A H (xs.take n) (vs.take n)
 | [],vs,n,h=>by simp only [RepDs] at h;subst h;simpa using RepDs.nil
 | x::xs,vs,n,h=>by
  simp only [RepDs] at h
  obtain ⟨v,r,rfl,h1,h2⟩:=h
  cases n with
  | zero=>simpa using RepDs.nil
  | succ n=>simpa using RepDs.cons h1 (h2.take n)
theorem RepDs.drop:∀ {xs:List D} {vs:List V} (n:Nat),RepDs K A H xs vs->RepDs K A H (xs.drop n) (vs.drop n)
 | [],vs,n,h=>by simp only [RepDs] at h;subst h;simpa using RepDs.nil
 | x::xs,vs,n,h=>by
  simp only [RepDs] at h
  obtain ⟨v,r,rfl,h1,h2⟩:=h
  cases n with
  | zero=>simpa using RepDs.cons h1 h2
  | succ n=>simpa using h2.drop n
theorem RepDs.set (hx:RepD K A H x v):∀ {xs:List D} {vs:List V} (n:Nat),RepDs K A H xs vs->RepDs K A H (xs.set n x) (vs.set n v)
 | [],vs,n,h=>by simp only [RepDs] at h;subst h;simpa using RepDs.nil
 | y::xs,vs,n,h=>by
  simp only [RepDs] at h
  obtain ⟨w,r,rfl,h1,h2⟩:=h
  cases n with
  | zero=>simpa using RepDs.cons hx h2
  | succ n=>simpa using RepDs.cons h1 (h2.set hx n)
end
noncomputable def Ob.mut:Ob->Bool
 | .lst _=>true
 | .ins _ _=>true
 | .dic _=>true
 | _=>false
noncomputable def Live (μ:List Addr) (h:Sto) (a:Addr):Prop:=∃ (i:Nat) (o:Ob),μ[i]?=some a/\h[i]?=some o/\o.mut=true
noncomputable def RepR (K:PySem.W.Frag) (μ:List Addr) (h:Sto) (H:Hp):R->V->Prop
 | .d x,v=>RepD K (Live μ h) H x v
 | .loc l,v=>∃ a,μ[l]?=some a/\v=.ref a
noncomputable def RepO (K:PySem.W.Frag) (μ:List Addr) (h:Sto) (H:Hp) (a:Addr):Ob->Prop
 | .lst xs=>∃ vs,H a=some (.lst vs)/\RepDs K (Live μ h) H xs vs
 | .fro xs=>∃ vs,H a=some (.lst vs)/\RepDs K (Live μ h) H xs vs
 | .ols ls=>∃ vs,H a=some (.lst vs)/\Paired (λ(l:Nat) (v:V)=>∃ b,μ[l]?=some b/\v=.ref b) ls vs
 | .ins c fs=>∃ C dx fs',(PySem.W.nsIn K mainGlobals c=some (some (.ref C))/\Cls K C/\∀ p∈fs,zbu K C p.1)/\H a=some (.ins C dx fs')/\Paired (λ(p:Str×R) (q:Str×V)=>p.1=q.1/\RepR K μ h H p.2 q.2) fs fs'
 | .dic kvs=>∃ xs:List (D×Addr×V),H a=some (.dT xs)/\Paired (λ(p:D×D) (q:D×Addr×V)=>p.1=q.1/\(zaF p.1=true/\RepD K (Live μ h) H p.1 (.ref q.2.1))/\RepD K (Live μ h) H p.2 q.2.2) kvs xs
 | .dfr kvs=>∃ (ob:Obj) (xs:List (D×Addr×V)),H a=some (.frz ob (.dT xs))/\Paired (λ(p:D×D) (q:D×Addr×V)=>p.1=q.1/\(zaF p.1=true/\RepD K (Live μ h) H p.1 (.ref q.2.1))/\RepD K (Live μ h) H p.2 q.2.2) kvs xs
structure Rep (K:PySem.W.Frag) (μ:List Addr) (h:Sto) (H:Hp):Prop where
 len:μ.length=h.length
 nd:μ.Nodup
 obj:∀ (i:Nat) (a:Addr) (o:Ob),μ[i]?=some a->h[i]?=some o->RepO K μ h H a o
structure Stp (μ:List Addr) (h:Sto) (H:Hp) (μ':List Addr) (h':Sto) (H':Hp):Prop where
 pre:∀ (i:Nat) (a:Addr),μ[i]?=some a->μ'[i]?=some a
 keep:∀ a o,¬ Live μ h a->H a=some o->H' a=some o
 live:∀ a,Live μ' h' a->Live μ h a\/H a=none
section
variable {K:PySem.W.Frag} {μ μ' μ2:List Addr} {h h' h2:Sto} {H H' H2:Hp}
theorem RepO.isL (q:RepO K μ h H a o) (l:o.isL=true):∃ vs,H a=some (.lst vs)/\RepDs K (Live μ h) H o.items vs:=by
 cases o with
 | lst xs=>exact q
 | fro xs=>exact q
 | ins _ _=>cases l
 | ols _=>cases l
 | dic _=>cases l
 | dfr _=>cases l
theorem RepO.some (q:RepO K μ h H a o):∃ u,H a=some u:=by
 cases o with
 | lst xs=>obtain ⟨vs,e,_⟩:=q;exact ⟨_,e⟩
 | fro xs=>obtain ⟨vs,e,_⟩:=q;exact ⟨_,e⟩
 | ins _ _=>obtain ⟨C,dx,fs,_,e,_⟩:=q;exact ⟨_,e⟩
 | ols _=>obtain ⟨vs,e,_⟩:=q;exact ⟨_,e⟩
 | dic _=>obtain ⟨xs,e,_⟩:=q;exact ⟨_,e⟩
 | dfr _=>obtain ⟨ob,xs,e,_⟩:=q;exact ⟨_,e⟩
theorem Rep.liveAt (r:Rep K μ h H) (l:Live μ h a):∃ u,H a=some u/\((∃ vs,u=.lst vs)\/(∃ C dx fs,u=.ins C dx fs)\/∃ kvs,u=.dT kvs):=by
 obtain ⟨i,o,e1,e2,m⟩:=l
 have q:=r.obj i a _ e1 e2
 cases o with
 | lst xs=>obtain ⟨vs,e,_⟩:=q;exact ⟨_,e,.inl ⟨vs,rfl⟩⟩
 | fro xs=>cases m
 | ins _ _=>obtain ⟨C,dx,fs,_,e,_⟩:=q;exact ⟨_,e,.inr (.inl ⟨C,dx,fs,rfl⟩)⟩
 | ols _=>cases m
 | dic _=>obtain ⟨xs,e,_⟩:=q;exact ⟨_,e,.inr (.inr ⟨xs,rfl⟩)⟩
 | dfr _=>cases m
theorem Rep.notLive (r:Rep K μ h H) (e:H a=some o) (n:∀ vs,o≠.lst vs) (n2:∀ C dx fs,o≠.ins C dx fs:=by intro _ _ _ z;cases z) (n3:∀ kvs,o≠.dT kvs:=by intro _ z;cases z):¬ Live μ h a:=λl=>by
 obtain ⟨u,q,z⟩:=r.liveAt l
 rw [e] at q
 cases q
 rcases z with ⟨vs,z⟩ | ⟨C,dx,fs,z⟩ | ⟨kvs,z⟩
 ·exact n vs z
 ·exact n2 C dx fs z
 ·exact n3 kvs z
theorem Stp.refl:Stp μ h H μ h H:=⟨λ_ _ e=>e,λ_ _ _ e=>e,λ_ l=>.inl l⟩
theorem Stp.trans (s:Stp μ h H μ' h' H') (t:Stp μ' h' H' μ2 h2 H2):Stp μ h H μ2 h2 H2:=by
 have nl:∀ a o,¬ Live μ h a->H a=some o->¬ Live μ' h' a:=λa o n e l=>by
  rcases s.live a l with z | z
  ·exact n z
  ·rw [e] at z;cases z
 refine ⟨λi a e=>t.pre i a (s.pre i a e),λa o n e=>t.keep a o (nl a o n e) (s.keep a o n e),λa l=>?_⟩
 rcases t.live a l with z | z
 ·exact s.live a z
 ·by_cases n:Live μ h a
  ·exact .inl n
  ·cases e:H a with
   | none=>exact .inr rfl
   | some o=>rw [s.keep a o n e] at z;cases z
theorem Stp.rdT (s:Stp μ h H μ' h' H') (r:Rep K μ h H) (a:Addr) (u:List V) (q:Rd H a (.tup u)):Rd H' a (.tup u):=by
 rcases q with e | ⟨o,e⟩
 ·exact .inl (s.keep a _ (r.notLive e (by intro vs z;cases z)) e)
 ·exact .inr ⟨o,s.keep a _ (r.notLive e (by intro vs z;cases z)) e⟩
theorem Stp.rdL (s:Stp μ h H μ' h' H') (a:Addr) (u:List V) (n:¬ Live μ h a) (q:Rd H a (.lst u)):¬ Live μ' h' a/\Rd H' a (.lst u):=by
 have nl:∀ o,H a=some o->¬ Live μ' h' a:=λo e l=>by
  rcases s.live a l with z | z
  ·exact n z
  ·rw [e] at z;cases z
 rcases q with e | ⟨o,e⟩
 ·exact ⟨nl _ e,.inl (s.keep a _ n e)⟩
 ·exact ⟨nl _ e,.inr ⟨o,s.keep a _ n e⟩⟩
theorem Stp.lsR (s:Stp μ h H μ' h' H') (q:LsR K (Live μ h) H a u):LsR K (Live μ' h') H' a u:=q.imp (λz=>s.rdL a u z.1 z.2) (λz=>z)
theorem RepD.stp (s:Stp μ h H μ' h' H') (r:Rep K μ h H) (q:RepD K (Live μ h) H x v):RepD K (Live μ' h') H' x v:=RepD.mono (s.rdT r) s.rdL x v q
theorem RepDs.stp (s:Stp μ h H μ' h' H') (r:Rep K μ h H) (q:RepDs K (Live μ h) H x v):RepDs K (Live μ' h') H' x v:=RepDs.mono (s.rdT r) s.rdL x v q
theorem RepR.stp (s:Stp μ h H μ' h' H') (r:Rep K μ h H) (q:RepR K μ h H x v):RepR K μ' h' H' x v:=by
 cases x with
 | d x=>exact RepD.stp s r q
 | loc l=>obtain ⟨a,e,z⟩:=q;exact ⟨a,s.pre l a e,z⟩
theorem RepO.stp (s:Stp μ h H μ' h' H') (r:Rep K μ h H) (e:H' a=H a) (q:RepO K μ h H a o):RepO K μ' h' H' a o:=by
 cases o with
 | lst xs=>obtain ⟨vs,e1,z⟩:=q;exact ⟨vs,e.trans e1,RepDs.stp s r z⟩
 | fro xs=>obtain ⟨vs,e1,z⟩:=q;exact ⟨vs,e.trans e1,RepDs.stp s r z⟩
 | ols ls=>obtain ⟨vs,e1,z⟩:=q;exact ⟨vs,e.trans e1,L2.Paired.mapP z λl v ⟨b,eb,ev⟩=>⟨b,s.pre l b eb,ev⟩⟩
 | dfr kvs=>obtain ⟨ob,xs,e1,z⟩:=q;exact ⟨ob,xs,e.trans e1,L2.Paired.mapP z λp q ⟨ep,ek,ev⟩=>⟨ep,⟨ek.1,RepD.stp s r ek.2⟩,RepD.stp s r ev⟩⟩
 | dic kvs=>obtain ⟨xs,e1,z⟩:=q;exact ⟨xs,e.trans e1,L2.Paired.mapP z λp q ⟨ep,ek,ev⟩=>⟨ep,⟨ek.1,RepD.stp s r ek.2⟩,RepD.stp s r ev⟩⟩
 | ins c fs=>obtain ⟨C,dx,fs',ec,e1,z⟩:=q;exact ⟨C,dx,fs',ec,e.trans e1,L2.Paired.mapP z λp q ⟨ep,eq⟩=>⟨ep,RepR.stp s r eq⟩⟩
theorem Stp.fresh (n:H p=none):Stp μ h H μ h (upd H p o):=
 ⟨λ_ _ e=>e,λa o' _ e=>by rw [zak (zap e n)];exact e,λ_ l=>.inl l⟩
theorem Rep.ne_fresh (r:Rep K μ h H) {i:Nat} (n:H p=none) (e1:μ[i]?=some a) (e2:h[i]?=some o):a≠p:=by
 obtain ⟨u,q⟩:=(r.obj i a o e1 e2).some
 exact zap q n
theorem Rep.fresh {o:HO} (r:Rep K μ h H) (n:H p=none):Rep K μ h (upd H p o):=
 ⟨r.len,r.nd,λi a ob e1 e2=>RepO.stp (Stp.fresh n) r (zak (r.ne_fresh n e1 e2)) (r.obj i a ob e1 e2)⟩
theorem ziL (hl:μ.length=h.length):Live (μ++[p]) (h++[o]) a↔Live μ h a\/(a=p/\o.mut=true):=by
 constructor
 ·rintro ⟨i,o',e1,e2,e3⟩
  by_cases hi:i<μ.length
  ·rw [List.getElem?_append_left hi] at e1
   rw [List.getElem?_append_left (by omega)] at e2
   exact .inl ⟨i,o',e1,e2,e3⟩
  ·rw [List.getElem?_append_right (by omega)] at e1 e2
   have hz:i-μ.length=0:=by
    cases hk:i-μ.length with
    | zero=>rfl
    | succ k=>rw [hk] at e1;simp at e1
   rw [hz] at e1
   rw [<-hl,hz] at e2
   simp at e1 e2
   subst e1 e2
   exact .inr ⟨rfl,e3⟩
 ·rintro (⟨i,o',e1,e2,e3⟩ | ⟨rfl,e3⟩)
  ·obtain ⟨h1,_⟩:=List.getElem?_eq_some_iff.mp e1
   exact ⟨i,o',by rw [List.getElem?_append_left h1];exact e1,by rw [List.getElem?_append_left (by omega)];exact e2,e3⟩
  ·exact ⟨μ.length,o,by simp,by rw [hl];simp,e3⟩
theorem Stp.allocO (r:Rep K μ h H) (n:H p=none):Stp μ h H (μ++[p]) (h++[ob]) (upd H p o):=
  ⟨fun i a e=>by rw [List.getElem?_append_left (List.getElem?_eq_some_iff.mp e).1];exact e,λa o' _ e=>by rw [zak (zap e n)];exact e,
   fun a l=>by
    rcases (ziL r.len).mp l with z | ⟨rfl,_⟩
    · exact .inl z
    · exact .inr n⟩
theorem Stp.alloc (r:Rep K μ h H) (n:H p=none):Stp μ h H (μ++[p]) (h++[.lst xs]) (upd H p o):=Stp.allocO r n
theorem Rep.allocO {o:Ob} (r:Rep K μ h H) (n:H p=none) (q:RepO K (μ++[p]) (h++[o]) (upd H p u) p o):Rep K (μ++[p]) (h++[o]) (upd H p u):=by
 have st:Stp μ h H (μ++[p]) (h++[o]) (upd H p u):=Stp.allocO r n
 refine ⟨by simp [r.len],?_,λi a ob e1 e2=>?_⟩
 ·rw [List.nodup_append]
  refine ⟨r.nd,by simp,λa ha b hb=>?_⟩
  simp at hb
  subst hb
  rintro rfl
  obtain ⟨i,hi,e⟩:=List.getElem_of_mem ha
  have hi':i<h.length:=by rw [<-r.len];exact hi
  exact r.ne_fresh n (by rw [List.getElem?_eq_getElem hi,e]) (List.getElem?_eq_getElem hi') rfl
 ·by_cases hi:i<μ.length
  ·rw [List.getElem?_append_left hi] at e1
   rw [List.getElem?_append_left (by have:=r.len;omega)] at e2
   exact RepO.stp st r (zak (r.ne_fresh n e1 e2)) (r.obj i a ob e1 e2)
  ·rw [List.getElem?_append_right (by omega)] at e1
   have hz:i-μ.length=0:=by
    cases hk:i-μ.length with
    | zero=>rfl
    | succ k=>rw [hk] at e1;simp at e1
   rw [hz] at e1
   simp at e1
   subst e1
   have hi2:i=h.length:=by have:=r.len;have:=(List.getElem?_eq_some_iff.mp e2).1;simp at this;omega
   subst hi2
   simp at e2
   subst e2
   exact q
theorem Rep.alloc (r:Rep K μ h H) (n:H p=none) (q:RepDs K (Live μ h) H xs vs):Rep K (μ++[p]) (h++[.lst xs]) (upd H p (.lst vs)):=
 r.allocO n ⟨vs,zaj,RepDs.stp (Stp.allocO r n) r q⟩
end
end IT
namespace IT
open PySem PySem.Spec L2
noncomputable def RdD (K:PySem.W.Frag) (A:Addr->Prop) (H:Hp) (x:D) (v:V):Prop:=match x with
 | .lst xs=>∃ a vs,v=.ref a/\SqL K H a vs/\RepDs K A H xs vs
 | x=>RepD K A H x v
section
variable {K:PySem.W.Frag} {μ μ':List Addr} {h h':Sto} {H H':Hp}
theorem RdD.of {A:Addr->Prop} (q:RepD K A H x v):RdD K A H x v:=by
 cases x with
 | lst xs=>
  simp only [RepD] at q
  obtain ⟨a,vs,e,r,z⟩:=q
  exact ⟨a,vs,e,r.sq,z⟩
 | _=>exact q
theorem zeK (e:rd (.loc l) h=some (d,h')):∃ o,h[l]?=some o/\o.isL=true/\d=.lst o.items/\h'=h:=by
 simp only [rd] at e
 cases ho:h[l]? with
 | none=>rw [ho] at e;cases e
 | some o=>
  rw [ho] at e
  simp only at e
  split at e
  ·rename_i il
   simp only [Option.some.injEq,Prod.mk.injEq] at e
   exact ⟨o,rfl,il,e.1.symm,e.2.symm⟩
  ·cases e
theorem zcZ (e:zdo x h=some (u,h')):∃ l o,x=.loc l/\h[l]?=some o/\o.isL=true/\h'=h:=by
 cases x with
 | d _=>cases e
 | loc l=>
  simp only [zdo] at e
  cases ho:h[l]? with
  | none=>rw [ho] at e;cases e
  | some o=>
   rw [ho] at e
   simp only at e
   split at e
   ·rename_i il
    simp only [Option.some.injEq,Prod.mk.injEq] at e
    exact ⟨l,o,rfl,ho,il,e.2.symm⟩
   ·cases e
theorem zbK {r:R} (R0:Rep K μ h H) (q:RepR K μ h H r v) (e:rd r h=some (d,h')):h'=h/\RdD K (Live μ h) H d v:=by
 cases r with
 | d x=>
  simp only [rd,ok,Option.some.injEq,Prod.mk.injEq] at e
  obtain ⟨rfl,rfl⟩:=e
  exact ⟨rfl,RdD.of q⟩
 | loc l=>
  obtain ⟨a,ea,rfl⟩:=q
  simp only [rd] at e
  cases ho:h[l]? with
  | none=>rw [ho] at e;cases e
  | some o=>
   rw [ho] at e
   simp only at e
   split at e
   ·rename_i il
    simp only [Option.some.injEq,Prod.mk.injEq] at e
    obtain ⟨rfl,rfl⟩:=e
    obtain ⟨vs,q1,q2⟩:=(R0.obj l a o ea ho).isL il
    exact ⟨rfl,a,vs,rfl,.inl (.inl q1),q2⟩
   ·cases e
theorem zfk {l:List Addr} (hn:l.Nodup) {i j:Nat} (h1:l[i]?=some a) (h2:l[j]?=some a):i=j:=by
 obtain ⟨p1,e1⟩:=List.getElem?_eq_some_iff.mp h1
 obtain ⟨p2,e2⟩:=List.getElem?_eq_some_iff.mp h2
 exact (List.getElem_inj hn).mp (e1.trans e2.symm)
theorem zsU (R0:Rep K μ h H) (ho:h[l]?=some o) (il:o.isL=true):Stp μ h H μ (h.set l (.fro o.items)) H/\Rep K μ (h.set l (.fro o.items)) H:=by
 have hl:l<h.length:=(List.getElem?_eq_some_iff.mp ho).1
 have lv:∀ a,Live μ (h.set l (.fro o.items)) a->Live μ h a:=by
  rintro a ⟨i,xs,e1,e2,e3⟩
  by_cases hi:i=l
  ·subst hi
   rw [List.getElem?_set_self hl] at e2
   cases e2
   cases e3
  ·rw [List.getElem?_set_ne (Ne.symm hi)] at e2
   exact ⟨i,xs,e1,e2,e3⟩
 have st:Stp μ h H μ (h.set l (.fro o.items)) H:=⟨λ_ _ e=>e,λ_ _ _ e=>e,λa z=>.inl (lv a z)⟩
 refine ⟨st,by simp [R0.len],R0.nd,λi a ob e1 e2=>?_⟩
 by_cases hi:i=l
 ·subst hi
  rw [List.getElem?_set_self hl] at e2
  cases e2
  obtain ⟨vs,q1,q2⟩:=(R0.obj i a o e1 ho).isL il
  exact ⟨vs,q1,RepDs.stp st R0 q2⟩
 ·rw [List.getElem?_set_ne (Ne.symm hi)] at e2
  exact RepO.stp st R0 rfl (R0.obj i a ob e1 e2)
theorem zmC {r:R} {v:V} (R0:Rep K μ h H) (q:RepR K μ h H r v) (e:fz r h=some (d,h')):Stp μ h H μ h' H/\Rep K μ h' H/\RepD K (Live μ h') H d v:=by
 cases r with
 | d x=>
  simp only [fz,ok,Option.some.injEq,Prod.mk.injEq] at e
  obtain ⟨rfl,rfl⟩:=e
  exact ⟨Stp.refl,R0,q⟩
 | loc l=>
  obtain ⟨a,ea,rfl⟩:=q
  simp only [fz] at e
  cases ho:h[l]? with
  | none=>rw [ho] at e;cases e
  | some o=>
   rw [ho] at e
   simp only at e
   split at e
   ·rename_i il
    simp only [Option.some.injEq,Prod.mk.injEq] at e
    obtain ⟨rfl,rfl⟩:=e
    obtain ⟨st,R1⟩:=zsU R0 ho il
    have hl:l<h.length:=(List.getElem?_eq_some_iff.mp ho).1
    obtain ⟨vs,q1,q2⟩:=(R0.obj l a o ea ho).isL il
    refine ⟨st,R1,?_⟩
    simp only [RepD]
    refine ⟨a,vs,rfl,.inl ⟨?_,.inl q1⟩,RepDs.stp st R0 q2⟩
    rintro ⟨i,xs,e1,e2,e3⟩
    have:=zfk R0.nd e1 ea
    subst this
    rw [List.getElem?_set_self hl] at e2
    cases e2
    cases e3
   ·cases e
theorem zkY {l:Nat} {a:Addr} (R0:Rep K μ h H) (ea:μ[l]?=some a) (ho:h[l]?=some o) (hm:o.mut=true)
  (q:Stp μ h H μ (h.set l o') (upd H a u)->RepO K μ (h.set l o') (upd H a u) a o'):Stp μ h H μ (h.set l o') (upd H a u)/\Rep K μ (h.set l o') (upd H a u):=by
 have hl:l<h.length:=(List.getElem?_eq_some_iff.mp ho).1
 have hla:Live μ h a:=⟨l,o,ea,ho,hm⟩
 have lv:∀ b,Live μ (h.set l o') b->Live μ h b:=by
  rintro b ⟨i,zs,e1,e2,e3⟩
  by_cases hi:i=l
  ·subst hi
   exact ⟨i,o,e1,ho,hm⟩
  ·rw [List.getElem?_set_ne (Ne.symm hi)] at e2
   exact ⟨i,zs,e1,e2,e3⟩
 have st:Stp μ h H μ (h.set l o') (upd H a u):=
  ⟨λ_ _ e=>e,λb o n e=>by rw [zak (λz=>n (by rw [z];exact hla))];exact e,λb z=>.inl (lv b z)⟩
 refine ⟨st,by simp [R0.len],R0.nd,λi b ob e1 e2=>?_⟩
 by_cases hi:i=l
 ·subst hi
  rw [ea] at e1;cases e1
  rw [List.getElem?_set_self hl] at e2
  cases e2
  exact q st
 ·rw [List.getElem?_set_ne (Ne.symm hi)] at e2
  exact RepO.stp st R0 (zak (λz:b=a=>hi (zfk R0.nd e1 (by rw [z];exact ea)))) (R0.obj i b ob e1 e2)
theorem write (R0:Rep K μ h H) (ea:μ[l]?=some a) (ho:h[l]?=some (.lst xs)) (q:RepDs K (Live μ h) H ys ws) :
  Stp μ h H μ (h.set l (.lst ys)) (upd H a (.lst ws))/\Rep K μ (h.set l (.lst ys)) (upd H a (.lst ws)):=
 zkY R0 ea ho rfl λst=>⟨ws,zaj,RepDs.stp st R0 q⟩
end
theorem zaa {α β:Type} {x:M α} {f:α->M β} {h:Sto} {r:β×Sto}:bnd x f h=some r↔∃ a h1,x h=some (a,h1)/\f a h1=some r:=by
 unfold bnd
 cases e:x h with
 | none=>simp
 | some p=>
  obtain ⟨a,h1⟩:=p
  exact ⟨λq=>⟨a,h1,rfl,q⟩,λ⟨a',h1',e',q⟩=>by cases e';exact q⟩
theorem zab {α:Type} {a b:α} {h h':Sto}:ok a h=some (b,h')↔a=b/\h=h':=by simp [ok]
theorem zaE {α:Type} {o:Option α} {b:α} {h h':Sto}:opt o h=some (b,h')↔o=some b/\h=h':=by
 unfold opt
 cases o with
 | none=>simp
 | some a=>simp
structure RepE (K:PySem.W.Frag) (μ:List Addr) (h:Sto) (H:Hp) (env:IT.Env) (σ:St):Prop where
 len:env.length=σ.length
 get:∀ (i:Nat) (r:R),env[i]?=some (some r)->∃ v,σ[i]?=some (some v)/\RepR K μ h H r v
inductive za1 (K:PySem.W.Frag) (μ:List Addr) (h:Sto) (H:Hp):List R->List V->Prop where
 | nil:za1 K μ h H [] []
 | cons {r:R} {v:V} {rs:List R} {vs:List V}:RepR K μ h H r v->za1 K μ h H rs vs->za1 K μ h H (r::rs) (v::vs)
section
variable {K:PySem.W.Frag} {μ μ':List Addr} {h h':Sto} {H H':Hp}
theorem RepE.stp (s:Stp μ h H μ' h' H') (R0:Rep K μ h H) {env:IT.Env} (q:RepE K μ h H env σ):RepE K μ' h' H' env σ:=
 ⟨q.len,λi r e=>let ⟨v,e',z⟩:=q.get i r e;⟨v,e',z.stp s R0⟩⟩
theorem za1.stp (s:Stp μ h H μ' h' H') (R0:Rep K μ h H) {rs:List R} (q:za1 K μ h H rs vs):za1 K μ' h' H' rs vs:=by
 induction q with
 | nil=>exact .nil
 | cons a _ ih=>exact .cons (a.stp s R0) ih
theorem za1.length {rs:List R} (q:za1 K μ h H rs vs):rs.length=vs.length:=by
 induction q with
 | nil=>rfl
 | cons _ _ ih=>simp [ih]
theorem RepE.set (q:RepE K μ h H env σ) (i:Nat) (z:RepR K μ h H r v):RepE K μ h H (env.set i (some r)) (σ.set i (some v)):=by
 refine ⟨by simp [q.len],λj r' e=>?_⟩
 by_cases hj:j=i
 ·subst hj
  have hl:j<env.length:=by
   have:=(List.getElem?_eq_some_iff.mp e).1
   simpa using this
  rw [List.getElem?_set_self hl] at e
  cases e
  exact ⟨v,by rw [List.getElem?_set_self (by rw [<-q.len];exact hl)],z⟩
 ·rw [List.getElem?_set_ne (Ne.symm hj)] at e ⊢
  exact q.get j r' e
theorem zoh:∀ {rs:List R} {vs:List V} {ds:List D} {h h':Sto},Rep K μ h H->za1 K μ h H rs vs->rds rs h=some (ds,h')->h'=h/\Paired (RdD K (Live μ h) H) ds vs
 | [],_,ds,h,h',R0,.nil,e=>by
  simp only [rds,zab] at e
  obtain ⟨rfl,rfl⟩:=e
  exact ⟨rfl,.nil⟩
 | r::rs,_,ds,h,h',R0,.cons q qs,e=>by
  simp only [rds,zaa,zab] at e
  obtain ⟨d,h1,e1,ds',h2,e2,rfl,rfl⟩:=e
  obtain ⟨rfl,z⟩:=zbK R0 q e1
  obtain ⟨rfl,zs⟩:=zoh R0 qs e2
  exact ⟨rfl,.cons z zs⟩
theorem zl2:∀ {rs:List R} {vs:List V} {ds:List D} {h h':Sto},Rep K μ h H->za1 K μ h H rs vs->fzs rs h=some (ds,h')->Stp μ h H μ h' H/\Rep K μ h' H/\RepDs K (Live μ h') H ds vs
 | [],_,ds,h,h',R0,.nil,e=>by
  simp only [fzs,zab] at e
  obtain ⟨rfl,rfl⟩:=e
  exact ⟨Stp.refl,R0,.nil⟩
 | r::rs,_,ds,h,h',R0,.cons q qs,e=>by
  simp only [fzs,zaa,zab] at e
  obtain ⟨d,h1,e1,ds',h2,e2,rfl,rfl⟩:=e
  obtain ⟨s1,R1,z⟩:=zmC R0 q e1
  obtain ⟨s2,R2,zs⟩:=zl2 R1 (qs.stp s1 R0) e2
  exact ⟨s1.trans s2,R2,.cons (z.stp s2 R1) zs⟩
end
inductive Post {α β:Type} (K:PySem.W.Frag) (μ:List Addr) (h:Sto) (H:Hp) (Rel:List Addr->Sto->Hp->α->β->Prop) (m:Option (α×Sto)) (Q:β->Hp->Prop):Prop where
 | mk (r:α) (h':Sto) (e:m=some (r,h')) (k:∀ μ' H' v,Stp μ h H μ' h' H'->Rep K μ' h' H'->Rel μ' h' H' r v->Q v H')
inductive tE (K:PySem.W.Frag) (f:IT.Env->M R) (σ:St) (H:Hp) (Q:VK):Prop where
 | mk (μ:List Addr) (h:Sto) (env:IT.Env) (R0:Rep K μ h H) (re:RepE K μ h H env σ) (p:Post K μ h H (RepR K) (f env h) Q)
inductive tTv (K:PySem.W.Frag) (f:IT.Env->M Bool) (σ:St) (H:Hp) (Q:Bool->Hp->Prop):Prop where
 | mk (μ:List Addr) (h:Sto) (env:IT.Env) (R0:Rep K μ h H) (re:RepE K μ h H env σ) (p:Post K μ h H (λ_ _ _ a b=>a=b) (f env h) Q)
inductive tAs (K:PySem.W.Frag) (f:IT.Env->M (List R)) (σ:St) (H:Hp) (Q:List V->Hp->Prop):Prop where
 | mk (μ:List Addr) (h:Sto) (env:IT.Env) (R0:Rep K μ h H) (re:RepE K μ h H env σ) (p:Post K μ h H (za1 K) (f env h) Q)
inductive tLs (K:PySem.W.Frag) (f:IT.Env->M (List D)) (σ:St) (H:Hp) (Q:VK):Prop where
 | mk (μ:List Addr) (h:Sto) (env:IT.Env) (R0:Rep K μ h H) (re:RepE K μ h H env σ) (xs:List D) (h':Sto) (e:f env h=some (xs,h')) (k:∀ μ' H' a vs,Stp μ h H μ' h' H'->Rep K μ' h' H'->RepDs K (Live μ' h') H' xs vs->H' a=none->Q (.ref a) (upd H' a (.lst vs)))
noncomputable abbrev IE (X:Cx) (e:Expr) (f:IT.Env->M R):Prop:=PE X e (tE X.K f)
noncomputable abbrev IT' (X:Cx) (e:Expr) (f:IT.Env->M Bool):Prop:=PT X e (tTv X.K f)
noncomputable abbrev IA (X:Cx) (es:List Expr) (f:IT.Env->M (List R)):Prop:=PA X es (tAs X.K f)
noncomputable abbrev IL (X:Cx) (e:Expr) (f:IT.Env->M (List D)):Prop:=PE X e (tLs X.K f)
theorem PE.imp {X:Cx} (h:PE X e t) (i:∀ σ H Q,t' σ H Q->t σ H Q):PE X e t':=λpins s σ H Q I q=>h pins s σ H Q I (i σ H Q q)
theorem PT.imp {X:Cx} (h:PT X e t) (i:∀ σ H Q,t' σ H Q->t σ H Q):PT X e t':=λpins s σ H Q I q=>h pins s σ H Q I (i σ H Q q)
theorem PA.imp {X:Cx} (h:PA X e t) (i:∀ σ H Q,t' σ H Q->t σ H Q):PA X e t':=λpos pins s σ H Q I q=>h pos pins s σ H Q I (i σ H Q q)
section
variable {X:Cx} {e a b c:Expr} {es:List Expr} {pos:Pos} {f g k:IT.Env->M R} {ft gt:IT.Env->M Bool}
theorem zgs {v:V} (h:PE X e (tC v)) (hd:∀ A H,RepD X.K A H d v):IE X e (λ_=>ok (.d d)):=by
 refine PE.imp h λσ H Q q0=>?_
 obtain ⟨μ,h,env,R0,re,r,h',e,k⟩:=q0
 obtain ⟨rfl,rfl⟩:=zab.mp e
 exact k μ H v Stp.refl R0 (hd _ _)
theorem zrB {i:Nat} (h:PE X e (tVar i)):IE X e (λσ h=>match σ[i]? with | some (some r)=>some (r,h) | _=>none):=by
 refine PE.imp h λσ H Q q0=>?_
 obtain ⟨μ,h,env,R0,re,r,h',e,k⟩:=q0
 have e2:env[i]?=some (some r)/\h=h':=by
  (try dsimp only at e)
  cases q:env[i]? with
  | none=>rw [q] at e;cases e
  | some o=>
   cases o with
   | none=>rw [q] at e;cases e
   | some r'=>rw [q] at e;simp at e;exact ⟨by rw [e.1],e.2⟩
 obtain ⟨e3,rfl⟩:=e2
 obtain ⟨v,e4,z⟩:=re.get i r e3
 exact ⟨v,e4,k μ H v Stp.refl R0 z⟩
inductive OpIQ (K:PySem.W.Frag) (m:R->R->M R) (v u:V) (H:Hp) (Q:VK):Prop where
 | mk (μ:List Addr) (h:Sto) (x y:R) (R0:Rep K μ h H) (qx:RepR K μ h H x v) (qy:RepR K μ h H y u) (p:Post K μ h H (RepR K) (m x y h) Q)
noncomputable def OpI (X:Cx) (F:Value->Value->Sem Value) (m:R->R->M R):Prop:=OpR X F λv u H Q=>OpIQ X.K m v u H Q
theorem two {m:R->R->M R} {σ:St} {Q:VK} (q:tE X.K (λσ=>bnd (f σ) λx=>bnd (g σ) λy=>m x y) σ H Q) :
  tE X.K f σ H λv H1=>tE X.K g σ H1 λu H2=>OpIQ X.K m v u H2 Q:=by
 obtain ⟨μ,h,env,R0,re,r,h',e,k⟩:=q
 simp only [zaa] at e
 obtain ⟨x,h1,e1,y,h2,e2,e3⟩:=e
 exact ⟨μ,h,env,R0,re,x,h1,e1,λμ1 H1 v s1 R1 q1=>⟨μ1,h1,env,R1,re.stp s1 R0,y,h2,e2,λμ2 H2 u s2 R2 q2=>
  ⟨μ2,h2,x,y,R2,q1.stp s2 R1,q2,r,h',e3,λμ3 H3 w s3 R3 q3=>k μ3 H3 w ((s1.trans s2).trans s3) R3 q3⟩⟩⟩
theorem zrU {op:Operator} (ho:OpI X (binaryOp op) m) (ha:IE X a f) (hb:IE X b g):IE X (.BinOp a op b pos) (λσ=>bnd (f σ) λx=>bnd (g σ) λy=>m x y):=
 PE.imp (ztB ho ha hb) λσ H Q q=>two q
theorem zl6 {op:CmpOp} (ho:OpI X (compareOp op) m) (ha:IE X a f) (hb:IE X b g) (hm:behindInMarks op b=false):IE X (.Compare a [op] [b] pos) (λσ=>bnd (f σ) λx=>bnd (g σ) λy=>m x y):=
 PE.imp (zqk ho ha hb hm) λσ H Q q=>two q
inductive OpDQ (K:PySem.W.Frag) (g:D->D->Option D) (v u:V) (H:Hp) (Q:VK):Prop where
 | mk (μ:List Addr) (h:Sto) (a b z:D) (R0:Rep K μ h H) (qa:RdD K (Live μ h) H a v) (qb:RdD K (Live μ h) H b u) (e:g a b=some z) (k:∀ μ' H' w,Stp μ h H μ' h H'->Rep K μ' h H'->RepD K (Live μ' h) H' z w->Q w H')
noncomputable def OpD (X:Cx) (F:Value->Value->Sem Value) (g:D->D->Option D):Prop:=OpR X F λv u H Q=>OpDQ X.K g v u H Q
noncomputable def mD (g:D->D->Option D) (x y:R):M R:=bnd (rd x) λx=>bnd (rd y) λy=>bnd (opt (g x y)) λz=>ok (.d z)
theorem OpD.opI {F:Value->Value->Sem Value} {g:D->D->Option D} (h:OpD X F g):OpI X F (mD g):=by
 intro pins s σ H v u v' u' Q I rv ru q
 obtain ⟨μ,h0,x,y,R0,qx,qy,r,h',e,k⟩:=q
 simp only [mD,zaa,zab,zaE] at e
 obtain ⟨dx,h1,e1,dy,h2,e2,z,h3,⟨e3,rfl⟩,rfl,rfl⟩:=e
 obtain ⟨rfl,zx⟩:=zbK R0 qx e1
 obtain ⟨rfl,zy⟩:=zbK R0 qy e2
 exact h pins s σ H v u v' u' Q I rv ru ⟨μ,_,dx,dy,z,R0,zx,zy,e3,λμ' H' w st R1 qw=>k μ' H' w st R1 qw⟩
theorem zrp (h:IE X e f) (he:∀ whole,isTrue e X.env whole=(do let v<-whole;standAt e.pos;holding [v] (truthy v))):IT' X e (λσ=>bnd (f σ) λr=>bnd (rd r) λd=>opt (tru d)):=by
 refine PT.imp (zmz h he) λσ H Q q0=>?_
 obtain ⟨μ,h,env,R0,re,t,h',e,k⟩:=q0
 simp only [zaa,zaE] at e
 obtain ⟨r,h1,e1,d,h2,e2,e3,rfl⟩:=e
 refine ⟨μ,h,env,R0,re,r,h1,e1,λμ1 H1 v s1 R1 q1=>?_⟩
 obtain ⟨rfl,z⟩:=zbK R1 q1 e2
 refine ⟨t,?_,k μ1 H1 t s1 R1 rfl⟩
 cases d with
 | non=>simp only [RdD,RepD] at z;subst z;simp only [tru,Option.some.injEq] at e3;exact e3.symm
 | bl b=>simp only [RdD,RepD] at z;subst z;simp only [tru,Option.some.injEq] at e3;exact e3.symm
 | int i=>simp only [RdD,RepD] at z;subst z;simp only [tru,Option.some.injEq] at e3;exact e3.symm
 | str x=>
  simp only [RdD,RepD] at z
  subst z
  simp only [tru] at e3
  split at e3
  ·rename_i hf
   simp only [Option.some.injEq] at e3
   refine ⟨by rw [zcv];exact of_decide_eq_true hf,?_⟩
   rw [<-e3,zcv]
   cases x<;>simp
   omega
  ·cases e3
 | tup xs=>
  simp only [RdD,RepD] at z
  obtain ⟨a,vs,rfl,q,zs⟩:=z
  simp only [tru,Option.some.injEq] at e3
  refine .inr (.inl ⟨vs,q,?_⟩)
  rw [<-e3]
  have:=zs.length
  cases xs<;>cases vs<;>simp_all
 | lst xs=>
  obtain ⟨a,vs,rfl,q,zs⟩:=z
  simp only [tru,Option.some.injEq] at e3
  refine .inl ⟨vs,q,?_⟩
  rw [<-e3]
  have:=zs.length
  cases xs<;>cases vs<;>simp_all
theorem zj9 {op:CmpOp} {m:R->R->M R} (ho:OpI X (compareOp op) m) (ha:IE X a f) (hb:IE X b g) (hm:behindInMarks op b=false) (hbl:∀ x y h r h',m x y h=some (r,h')->∃ t,r=.d (.bl t)) :
  IT' X (.Compare a [op] [b] pos) (λσ=>bnd (bnd (f σ) λx=>bnd (g σ) λy=>m x y) λr=>bnd (rd r) λd=>opt (tru d)):=by
 refine PT.imp (zpN ho ha hb hm) λσ H Q q0=>?_
 obtain ⟨μ,h,env,R0,re,t,h',e,k⟩:=q0
 simp only [zaa,zaE] at e
 obtain ⟨r,h1,⟨x,h2,e1,y,h3,e2,e3⟩,d,h4,e4,e5,rfl⟩:=e
 obtain ⟨t',rfl⟩:=hbl _ _ _ _ _ e3
 simp only [rd,zab] at e4
 obtain ⟨rfl,rfl⟩:=e4
 simp only [tru,Option.some.injEq] at e5
 subst e5
 refine two (m:=m) ⟨μ,h,env,R0,re,.d (.bl t'),h1,by simp only [zaa];exact ⟨x,h2,e1,y,h3,e2,e3⟩,λμ1 H1 v s1 R1 q1=>?_⟩
 simp only [RepR,RepD] at q1
 subst q1
 exact ⟨t',rfl,k μ1 H1 t' s1 R1 rfl⟩
theorem zor {rest:List Expr} {tb:TT} (ha:IT' X a ft) (hb:PW X (.BoolOp .And (b::rest) pos) (tTv X.K gt)):PW X (.BoolOp .And (a::b::rest) pos) (tTv X.K λσ=>bnd (ft σ) λt=>if t then gt σ else ok false):=by
 intro whole pins s σ H Q I q
 refine zry ha hb whole pins s σ H Q I ?_
 obtain ⟨μ,h,env,R0,re,t,h',e,k⟩:=q
 simp only [zaa] at e
 obtain ⟨u,h1,e1,e2⟩:=e
 refine ⟨μ,h,env,R0,re,u,h1,e1,λμ1 H1 v s1 R1 hv=>?_⟩
 subst hv
 cases u with
 | true=>
  rw [if_pos rfl] at e2
  rw [if_pos rfl]
  exact ⟨μ1,h1,env,R1,re.stp s1 R0,t,h',e2,λμ2 H2 v s2 R2 hv=>k μ2 H2 v (s1.trans s2) R2 hv⟩
 | false=>
  rw [if_neg (by decide)] at e2
  rw [if_neg (by decide)]
  obtain ⟨rfl,rfl⟩:=zab.mp e2
  exact k μ1 H1 _ s1 R1 rfl
theorem zq2 {rest:List Expr} (ha:IT' X a ft) (hb:PW X (.BoolOp .Or (b::rest) pos) (tTv X.K gt)):PW X (.BoolOp .Or (a::b::rest) pos) (tTv X.K λσ=>bnd (ft σ) λt=>if t then ok true else gt σ):=by
 intro whole pins s σ H Q I q
 refine zt8 ha hb whole pins s σ H Q I ?_
 obtain ⟨μ,h,env,R0,re,t,h',e,k⟩:=q
 simp only [zaa] at e
 obtain ⟨u,h1,e1,e2⟩:=e
 refine ⟨μ,h,env,R0,re,u,h1,e1,λμ1 H1 v s1 R1 hv=>?_⟩
 subst hv
 cases u with
 | false=>
  rw [if_neg (by decide)] at e2
  rw [if_neg (by decide)]
  exact ⟨μ1,h1,env,R1,re.stp s1 R0,t,h',e2,λμ2 H2 v s2 R2 hv=>k μ2 H2 v (s1.trans s2) R2 hv⟩
 | true=>
  rw [if_pos rfl] at e2
  rw [if_pos rfl]
  obtain ⟨rfl,rfl⟩:=zab.mp e2
  exact k μ1 H1 _ s1 R1 rfl
theorem zsG (ha:IT' X a ft):IT' X (.UnaryOp .Not a pos) (λσ=>bnd (ft σ) λt=>ok (!t)):=by
 refine PT.imp (zrg ha) λσ H Q q0=>?_
 obtain ⟨μ,h,env,R0,re,t,h',e,k⟩:=q0
 simp only [zaa,zab] at e
 obtain ⟨u,h1,e1,rfl,rfl⟩:=e
 refine ⟨μ,h,env,R0,re,u,h1,e1,λμ1 H1 v s1 R1 hv=>?_⟩
 subst hv
 exact k μ1 H1 _ s1 R1 rfl
theorem zop {rest:List Expr} (ha:IE X a f) (hb:IE X (.BoolOp .And (b::rest) pos) g):IE X (.BoolOp .And (a::b::rest) pos) (λσ=>bnd (f σ) λx=>match x with | .d (.bl c)=>if c then g σ else ok (.d (.bl false)) | _=>λ_=>none):=by
 refine PE.imp (zrR ha hb) λσ H Q q0=>?_
 obtain ⟨μ,h,env,R0,re,r,h',e,k⟩:=q0
 simp only [zaa] at e
 obtain ⟨x,h1,e1,e2⟩:=e
 refine ⟨μ,h,env,R0,re,x,h1,e1,λμ1 H1 v s1 R1 q1=>?_⟩
 cases x with
 | loc l=>cases e2
 | d d=>
  cases d with
  | bl c=>
   simp only [RepR,RepD] at q1
   refine ⟨c,q1,?_⟩
   cases c with
   | true=>
    simp only [if_true] at e2 ⊢
    exact ⟨μ1,h1,env,R1,re.stp s1 R0,r,h',e2,λμ2 H2 v s2 R2 hv=>k μ2 H2 v (s1.trans s2) R2 hv⟩
   | false=>
    simp only [Bool.false_eq_true,if_false] at e2 ⊢
    obtain ⟨rfl,rfl⟩:=zab.mp e2
    exact k μ1 H1 _ s1 R1 (by simp only [RepR,RepD])
  | _=>cases e2
theorem zr0 {rest:List Expr} (ha:IE X a f) (hb:IE X (.BoolOp .Or (b::rest) pos) g):IE X (.BoolOp .Or (a::b::rest) pos) (λσ=>bnd (f σ) λx=>match x with | .d (.bl c)=>if c then ok (.d (.bl true)) else g σ | _=>λ_=>none):=by
 refine PE.imp (zto ha hb) λσ H Q q0=>?_
 obtain ⟨μ,h,env,R0,re,r,h',e,k⟩:=q0
 simp only [zaa] at e
 obtain ⟨x,h1,e1,e2⟩:=e
 refine ⟨μ,h,env,R0,re,x,h1,e1,λμ1 H1 v s1 R1 q1=>?_⟩
 cases x with
 | loc l=>cases e2
 | d d=>
  cases d with
  | bl c=>
   simp only [RepR,RepD] at q1
   refine ⟨c,q1,?_⟩
   cases c with
   | false=>
    simp only [Bool.false_eq_true,if_false] at e2 ⊢
    exact ⟨μ1,h1,env,R1,re.stp s1 R0,r,h',e2,λμ2 H2 v s2 R2 hv=>k μ2 H2 v (s1.trans s2) R2 hv⟩
   | true=>
    simp only [if_true] at e2 ⊢
    obtain ⟨rfl,rfl⟩:=zab.mp e2
    exact k μ1 H1 _ s1 R1 (by simp only [RepR,RepD])
  | _=>cases e2
theorem zlK {pins:List (Addr×Obj)} {d:D} {v:V} {u:Value} {b:Bool} {Q:Bool->Shared->Prop} {E:Value->Shared->Prop} (I:Inv X pins σ H s) (q:RdD X.K A0 H d v) (r:RelV v u) (e:tru d=some b) (k:∀ tk,Q b { s with toks:=tk }) :
  wpAny (model X.prog X.w) A (truthy u) Q E s:=by
 have hl:=zhb
 have hs:sizeLine=16777216:=sizeLine_eq
 cases d with
 | non=>
  simp only [RdD,RepD] at q;subst q;cases r
  simp only [tru,Option.some.injEq] at e;subst e
  exact PyProof.Rows.truthy_none (k s.toks)
 | bl c=>
  simp only [RdD,RepD] at q;subst q;cases r
  simp only [tru,Option.some.injEq] at e;subst e
  exact wpAny_truthy_bool (k s.toks)
 | int i=>
  simp only [RdD,RepD] at q;subst q
  obtain ⟨t,rfl⟩:=r
  simp only [tru,Option.some.injEq] at e;subst e
  exact PySem.P.truthy_int (k s.toks)
 | str x=>
  simp only [RdD,RepD] at q;subst q
  obtain ⟨t,rfl⟩:=r
  simp only [tru] at e
  split at e
  ·rename_i hf
   simp only [Option.some.injEq] at e
   have hx:x.length<=big:=of_decide_eq_true hf
   unfold big at hx
   refine PySem.P.truthy_str (by rw [zcv];omega) ?_
   have e2:(((zaH x).length:Int) != 0)=b:=by
    rw [<-e,zcv]
    cases x<;>simp
    omega
   rw [e2]
   exact k _
  ·cases e
 | tup xs=>
  simp only [RdD,RepD] at q
  obtain ⟨a,vs,rfl,q,zs⟩:=q
  cases r
  simp only [tru,Option.some.injEq] at e
  obtain ⟨its,ri,pl,hz⟩:=I.tuple q
  have hlen:=ri.length
  have h1:=zs.length
  refine PyProof.Rows.truthy_tuple pl (by simp only [List.size_toArray];omega) ?_
  have e2:(!its.toArray.isEmpty)=b:=by
   rw [zbN ri,<-e]
   clear hlen ri pl q hz
   cases xs<;>cases vs<;>first | rfl | (simp at h1)
  rw [e2]
  exact k _
 | lst xs=>
  obtain ⟨a,vs,rfl,q,zs⟩:=q
  cases r
  simp only [tru,Option.some.injEq] at e
  obtain ⟨its,ri,pl,hz⟩:=I.list q
  have hlen:=ri.length
  have h1:=zs.length
  refine wpAny_truthy_list pl.isList (by simp only [List.size_toArray];omega) ?_
  have e2:(!its.toArray.isEmpty)=b:=by
   rw [zbN ri,<-e]
   clear hlen ri pl q hz
   cases xs<;>cases vs<;>first | rfl | (simp at h1)
  rw [e2]
  exact k _
theorem zsE (ha:IE X a f):IE X (.UnaryOp .Not a pos) (λσ=>bnd (f σ) λx=>bnd (rd x) λd=>bnd (opt (tru d)) λt=>ok (.d (.bl (!t)))):=by
 intro pins s σ H Q I q0
 obtain ⟨μ,h,env,R0,re,r,h',e,k⟩:=q0
 simp only [zaa,zaE,zab] at e
 obtain ⟨x,h1,e1,d,h2,e2,t,h3,⟨e3,rfl⟩,rfl,rfl⟩:=e
 have z:=ha pins s σ H (λy H1=>∃ A0 d,RdD X.K A0 H1 d y/\tru d=some t/\Q (.bl (!t)) H1) I ⟨μ,h,env,R0,re,x,h1,e1,λμ1 H1 v s1 R1 q1=>by
  obtain ⟨rfl,z⟩:=zbK R1 q1 e2
  exact ⟨_,d,z,e3,k μ1 H1 _ s1 R1 (by simp only [RepR,RepD])⟩⟩
 refine PyProof.Rows.UnaryOp_ (thn z λv s1 ⟨y,H1,I1,r1,A0,d',z1,z2,q1⟩=>PyProof.Rows.not_of ?_)
 exact zlK I1 z1 r1 z2 λtk=>⟨.bl (!t),H1,I1.tok _,rfl,q1⟩
theorem zrT (ha:IE X a f):IE X (.UnaryOp .USub a pos) (λσ=>bnd (f σ) λx=>match x with | .d (.int i)=>ok (.d (.int (-i))) | _=>λ_=>none):=by
 refine PE.imp (zsV zoG ha) λσ H Q q0=>?_
 obtain ⟨μ,h,env,R0,re,r,h',e,k⟩:=q0
 simp only [zaa] at e
 obtain ⟨x,h1,e1,e2⟩:=e
 refine ⟨μ,h,env,R0,re,x,h1,e1,λμ1 H1 v s1 R1 q1=>?_⟩
 cases x with
 | loc l=>cases e2
 | d d=>
  cases d with
  | int i=>
   simp only [RepR,RepD] at q1
   obtain ⟨rfl,rfl⟩:=zab.mp e2
   exact ⟨i,q1,k μ1 H1 _ s1 R1 (by simp only [RepR,RepD])⟩
  | _=>cases e2
theorem zqQ (hc:IT' X c ft) (ha:IE X a f) (hb:IE X b g):IE X (.IfExp c a b pos) (λσ=>bnd (ft σ) λt=>if t then f σ else g σ):=by
 refine PE.imp (znQ hc ha hb) λσ H Q q0=>?_
 obtain ⟨μ,h,env,R0,re,r,h',e,k⟩:=q0
 simp only [zaa] at e
 obtain ⟨t,h1,e1,e2⟩:=e
 refine ⟨μ,h,env,R0,re,t,h1,e1,λμ1 H1 v s1 R1 hv=>?_⟩
 subst hv
 cases t with
 | true=>
  simp only [if_true] at e2 ⊢
  exact ⟨μ1,h1,env,R1,re.stp s1 R0,r,h',e2,λμ2 H2 v s2 R2 hv=>k μ2 H2 v (s1.trans s2) R2 hv⟩
 | false=>
  simp only [Bool.false_eq_true,if_false] at e2 ⊢
  exact ⟨μ1,h1,env,R1,re.stp s1 R0,r,h',e2,λμ2 H2 v s2 R2 hv=>k μ2 H2 v (s1.trans s2) R2 hv⟩
theorem zsj:IA X [] (λ_=>ok []):=by
 refine PA.imp zb2 λσ H Q q0=>?_
 obtain ⟨μ,h,env,R0,re,r,h',e,k⟩:=q0
 obtain ⟨rfl,rfl⟩:=zab.mp e
 exact k μ H [] Stp.refl R0 .nil
theorem zpY {fs:IT.Env->M (List R)} (ha:IE X e f) (hr:IA X es fs) (hs:starEach (e::es) X.env=(false,eval e X.env)::starEach es X.env):IA X (e::es) (λσ=>bnd (f σ) λr=>bnd (fs σ) λrs=>ok (r::rs)):=by
 refine PA.imp (zaS ha hr hs) λσ H Q q0=>?_
 obtain ⟨μ,h,env,R0,re,r,h',e,k⟩:=q0
 simp only [zaa,zab] at e
 obtain ⟨x,h1,e1,xs,h2,e2,rfl,rfl⟩:=e
 exact ⟨μ,h,env,R0,re,x,h1,e1,λμ1 H1 v s1 R1 q1=>⟨μ1,h1,env,R1,re.stp s1 R0,xs,h2,e2,λμ2 H2 vs s2 R2 q2=>k μ2 H2 (v::vs) (s1.trans s2) R2 (.cons (q1.stp s2 R1) q2)⟩⟩
theorem zrc {n:Nat} {fs:IT.Env->M (List R)} (h:IA X es fs) (hl:es.length<=1000) (hf:∀ σ h rs h',fs σ h=some (rs,h')->rs.length=es.length):IE X (.Tuple es n pos) (λσ=>bnd (fs σ) λrs=>bnd (fzs rs) λds=>ok (.d (.tup ds))):=by
 refine PE.imp (zsy h) λσ H Q q0=>?_
 obtain ⟨μ,h,env,R0,re,r,h',e,k⟩:=q0
 simp only [zaa,zab] at e
 obtain ⟨rs,h1,e1,ds,h2,e2,rfl,rfl⟩:=e
 refine ⟨μ,h,env,R0,re,rs,h1,e1,λμ1 H1 vs s1 R1 q1=>⟨?_,λp hp=>?_⟩⟩
 ·rw [<-q1.length,hf _ _ _ _ e1]
  have:(1000:Nat)<=sizeLine:=by decide
  omega
 ·obtain ⟨s2,R2,q2⟩:=zl2 R1 q1 e2
  have s3:Stp μ1 h2 H1 μ1 h2 (upd H1 p (.tup vs)):=Stp.fresh hp
  refine k μ1 _ (.ref p) ((s1.trans s2).trans s3) (R2.fresh hp) ?_
  simp only [RepR,RepD]
  exact ⟨p,vs,rfl,SqT.of zaj,RepDs.stp s3 R2 q2⟩
theorem zqs {fs:IT.Env->M (List R)} (h:IA X es fs) (hl:es.length<=1000) (hf:∀ σ h rs h',fs σ h=some (rs,h')->rs.length=es.length):IL X (.List es pos) (λσ=>bnd (fs σ) λrs=>fzs rs):=by
 refine PE.imp (zrE h) λσ H Q q0=>?_
 obtain ⟨μ,h,env,R0,re,ds,h',e,k⟩:=q0
 simp only [zaa] at e
 obtain ⟨rs,h1,e1,e2⟩:=e
 refine ⟨μ,h,env,R0,re,rs,h1,e1,λμ1 H1 vs s1 R1 q1=>⟨?_,λp hp=>?_⟩⟩
 ·rw [<-q1.length,hf _ _ _ _ e1]
  have:(1000:Nat)<=sizeLine:=by decide
  omega
 ·obtain ⟨s2,R2,q2⟩:=zl2 R1 q1 e2
  exact k μ1 H1 p vs (s1.trans s2) R2 q2 hp
theorem zh5 {fl:IT.Env->M (List D)} (m:Bool) (h:IL X e fl):IE X e (λσ=>bnd (fl σ) λxs=>if m then alloc xs else ok (.d (.lst xs))):=by
 refine PE.imp h λσ H Q q0=>?_
 obtain ⟨μ,h,env,R0,re,r,h',e,k⟩:=q0
 simp only [zaa] at e
 obtain ⟨xs,h1,e1,e2⟩:=e
 refine ⟨μ,h,env,R0,re,xs,h1,e1,λμ1 H1 a vs s1 R1 q1 ha=>?_⟩
 cases m with
 | true=>
  simp only [if_true,alloc,Option.some.injEq,Prod.mk.injEq] at e2
  obtain ⟨rfl,rfl⟩:=e2
  refine k (μ1++[a]) _ (.ref a) (s1.trans (Stp.alloc R1 ha)) (R1.alloc ha q1) ⟨a,?_,rfl⟩
  rw [<-R1.len]
  simp
 | false=>
  simp only [Bool.false_eq_true,if_false] at e2
  obtain ⟨rfl,rfl⟩:=zab.mp e2
  have s2:Stp μ1 h1 H1 μ1 h1 (upd H1 a (.lst vs)):=Stp.fresh ha
  refine k μ1 _ (.ref a) (s1.trans s2) (R1.fresh ha) ?_
  simp only [RepR,RepD]
  refine ⟨a,vs,rfl,.inl ⟨λl=>?_,.inl zaj⟩,RepDs.stp s2 R1 q1⟩
  obtain ⟨ws,z,_⟩:=R1.liveAt l
  rw [ha] at z;cases z
end
end IT
namespace IT
open PySem PySem.Spec L2
section
variable {K:PySem.W.Frag} {A0:Addr->Prop} {H:Hp}
theorem zfs (x y:List Nat):(zaH x==zaH y)=(x==y):=by
 by_cases e:x=y
 ·subst e;simp
 ·rw [beq_eq_false_iff_ne.mpr e,beq_eq_false_iff_ne.mpr (λz=>e (zbD z))]
structure za8 (X:Cx) (s:Shared) (H:Hp):Prop where
 lst:∀ a vs,SqL X.K H a vs->∃ its:List Value,Vals vs its/\s.heap.IsList a its.toArray
 tup:∀ a vs,SqT X.K H a vs->∃ its:List Value,Vals vs its/\s.heap.IsTuple a its.toArray
theorem zaG (I:Inv X pins σ H s):za8 X s H:=
 ⟨λa vs q=>let ⟨its,r,p,_⟩:=I.list q;⟨its,r,p.isList⟩,λa vs q=>let ⟨its,r,p,_⟩:=I.tuple q;⟨its,r,p⟩⟩
theorem zcL {α:Type} (xs ys:List α) (f:α->α->Bool) (hl:xs.length=ys.length) (e:Nat->Bool) (he:∀ (j:Nat) (x y:α),xs[j]?=some x->ys[j]?=some y->e j=f x y) :
  (List.range xs.length).all e=(xs.zip ys).all λp=>f p.1 p.2:=by
 rw [Bool.eq_iff_iff,List.all_eq_true,List.all_eq_true]
 constructor
 ·intro h p hp
  obtain ⟨j,hj,e1⟩:=List.getElem_of_mem hp
  have hj':j<xs.length/\j<ys.length:=by simp at hj;omega
  have e2:p=(xs[j]'hj'.1,ys[j]'hj'.2):=by rw [<-e1,List.getElem_zip]
  rw [e2,<-he j _ _ (List.getElem?_eq_getElem hj'.1) (List.getElem?_eq_getElem hj'.2)]
  exact h j (by simpa using hj'.1)
 ·intro h j hj
  have hj1:j<xs.length:=by simpa using hj
  have hj2:j<ys.length:=by omega
  rw [he j _ _ (List.getElem?_eq_getElem hj1) (List.getElem?_eq_getElem hj2)]
  refine h (xs[j],ys[j]) ?_
  rw [List.mem_iff_getElem]
  exact ⟨j,by simp;omega,by simp⟩
theorem zcP:∀ xs ys:List D,xs.length=ys.length->D.eqbs xs ys=(xs.zip ys).all λp=>p.1.eqb p.2
 | [],[],_=>rfl
 | x::xs,y::ys,h=>by
  simp only [D.eqbs,List.zip_cons_cons,List.all_cons]
  rw [zcP xs ys (by simpa using h)]
theorem zcB:∀ xs ys:List D,xs.length≠ys.length->D.eqbs xs ys=false
 | [],[],h=>absurd rfl h
 | [],_::_,_=>rfl
 | _::_,[],_=>rfl
 | x::xs,y::ys,h=>by
  simp only [D.eqbs]
  rw [zcB xs ys (by simpa using h),Bool.and_false]
theorem zn7 (r:Vals vs its) (e:vs[j]?=some v) (h:j<its.length):RelV v its[j]:=by
 obtain ⟨u,e1,r1⟩:=r.get e
 rw [List.getElem?_eq_getElem h] at e1
 cases e1
 exact r1
mutual
theorem D.eqb_refl:∀ x:D,x.eqb x=true
 | .non=>rfl
 | .bl a=>by simp [D.eqb]
 | .int a=>by simp [D.eqb]
 | .str a=>by simp [D.eqb]
 | .tup a=>by simp only [D.eqb];exact D.eqbs_refl a
 | .lst a=>by simp only [D.eqb];exact D.eqbs_refl a
theorem D.eqbs_refl:∀ x:List D,D.eqbs x x=true
 | []=>rfl
 | a::r=>by simp only [D.eqbs,Bool.and_eq_true];exact ⟨D.eqb_refl a,D.eqbs_refl r⟩
end
section
variable {X:Cx} {s:Shared}
theorem zkM (S:za8 X s H) (q:SqT X.K H a vs) (q':SqT X.K H a ws):vs=ws:=by
 obtain ⟨its,ri,o,h1,_,_,h2⟩:=S.tup a vs q
 obtain ⟨its',ri',o',h1',_,_,h2'⟩:=S.tup a ws q'
 rw [h1] at h1';cases h1';rw [h2] at h2';cases h2'
 exact Vals.inj ri ri'
theorem zl7 (S:za8 X s H) (q:SqL X.K H a vs) (q':SqL X.K H a ws):vs=ws:=by
 obtain ⟨its,ri,o,h1,_,_,h2⟩:=S.lst a vs q
 obtain ⟨its',ri',o',h1',_,_,h2'⟩:=S.lst a ws q'
 rw [h1] at h1';cases h1';rw [h2] at h2';cases h2'
 exact Vals.inj ri ri'
theorem zk9 (S:za8 X s H) (q:SqL X.K H a vs) (q':SqT X.K H a ws):False:=by
 obtain ⟨its,ri,p⟩:=S.lst a vs q
 obtain ⟨its',ri',p'⟩:=S.tup a ws q'
 exact SeqAt.ne_of_list_tuple p p' rfl
mutual
theorem RepD.inj (S:za8 X s H):∀ (x y:D) (v:V),RepD X.K A0 H x v->RepD X.K A0 H y v->x=y
 | .non,y,v,qx,qy=>by
  simp only [RepD] at qx;subst qx
  cases y<;>simp_all [RepD]
 | .bl c,y,v,qx,qy=>by
  simp only [RepD] at qx;subst qx
  cases y<;>simp_all [RepD]
 | .int c,y,v,qx,qy=>by
  simp only [RepD] at qx;subst qx
  cases y<;>simp_all [RepD]
 | .str c,y,v,qx,qy=>by
  simp only [RepD] at qx;subst qx
  cases y with
  | str b=>simp only [RepD,V.str.injEq] at qy;rw [zbD qy]
  | _=>simp [RepD] at qy
 | .tup c,y,v,qx,qy=>by
  simp only [RepD] at qx
  obtain ⟨a,vs,rfl,q,zs⟩:=qx
  cases y with
  | tup b=>
   simp only [RepD] at qy
   obtain ⟨a',vs',e,q',zs'⟩:=qy
   cases e
   have e2:=zkM S q q'
   subst e2
   rw [RepDs.inj S c b vs zs zs']
  | lst b=>
   simp only [RepD] at qy
   obtain ⟨a',vs',e,q',zs'⟩:=qy
   cases e
   exact (zk9 S q'.sq q).elim
  | _=>simp [RepD] at qy
 | .lst c,y,v,qx,qy=>by
  simp only [RepD] at qx
  obtain ⟨a,vs,rfl,q,zs⟩:=qx
  cases y with
  | lst b=>
   simp only [RepD] at qy
   obtain ⟨a',vs',e,q',zs'⟩:=qy
   cases e
   have e2:=zl7 S q.sq q'.sq
   subst e2
   rw [RepDs.inj S c b vs zs zs']
  | tup b=>
   simp only [RepD] at qy
   obtain ⟨a',vs',e,q',zs'⟩:=qy
   cases e
   exact (zk9 S q.sq q').elim
  | _=>simp [RepD] at qy
theorem RepDs.inj (S:za8 X s H):∀ (x y:List D) (v:List V),RepDs X.K A0 H x v->RepDs X.K A0 H y v->x=y
 | [],y,v,qx,qy=>by
  simp only [RepDs] at qx
  subst qx
  cases y with
  | nil=>rfl
  | cons _ _=>have:=qy.length;simp at this
 | x::xs,y,v,qx,qy=>by
  simp only [RepDs] at qx
  obtain ⟨w,ws,rfl,q1,q2⟩:=qx
  cases y with
  | nil=>have:=qy.length;simp at this
  | cons y ys=>
   simp only [RepDs] at qy
   obtain ⟨w',ws',e,q1',q2'⟩:=qy
   cases e
   rw [RepD.inj S x y w q1 q1',RepDs.inj S xs ys ws q2 q2']
end
end
noncomputable def zaO (xs ys:List D) (j:Nat):Bool:=match xs[j]?,ys[j]? with
 | some x,some y=>x.eqb y
 | _,_=>false
section
variable {X:Cx} {s:Shared}
inductive Vw (X:Cx) (s:Shared) (H:Hp) (A0:Addr->Prop):D->Value->Prop where
 | non:Vw X s H A0 .non .none
 | bl (b:Bool):Vw X s H A0 (.bl b) (.bool b)
 | int (b:Int) (t:Tok):Vw X s H A0 (.int b) (.int b t)
 | str (b:List Nat) (t:Tok):Vw X s H A0 (.str b) (.str (zaH b) t)
 | tup (c:List D) (a:Addr) (vs:List V) (its:List Value) (q:SqT X.K H a vs) (zs:RepDs X.K A0 H c vs) (ri:Vals vs its) (p:s.heap.IsTuple a its.toArray):Vw X s H A0 (.tup c) (.ref a)
 | lst (c:List D) (a:Addr) (vs:List V) (its:List Value) (q:SqL X.K H a vs) (zs:RepDs X.K A0 H c vs) (ri:Vals vs its) (p:s.heap.IsList a its.toArray):Vw X s H A0 (.lst c) (.ref a)
theorem vw (S:za8 X s H) (q:RdD X.K A0 H x v) (r:RelV v u):Vw X s H A0 x u:=by
 cases x with
 | non=>simp only [RdD,RepD] at q;subst q;cases r;exact .non
 | bl b=>simp only [RdD,RepD] at q;subst q;cases r;exact .bl b
 | int b=>simp only [RdD,RepD] at q;subst q;obtain ⟨t,rfl⟩:=r;exact .int b t
 | str b=>simp only [RdD,RepD] at q;subst q;obtain ⟨t,rfl⟩:=r;exact .str b t
 | tup c=>
  simp only [RdD,RepD] at q
  obtain ⟨a,vs,rfl,q,zs⟩:=q
  cases r
  obtain ⟨its,ri,p⟩:=S.tup a vs q
  exact .tup c a vs its q zs ri p
 | lst c=>
  obtain ⟨a,vs,rfl,q,zs⟩:=q
  cases r
  obtain ⟨its,ri,p⟩:=S.lst a vs q
  exact .lst c a vs its q zs ri p
theorem ze6 (zs:RepDs X.K A0 H c vs) (zt:RepDs X.K A0 H b ws) (ri:Vals vs us) (rj:Vals ws ts):((List.range (min us.toArray.size ts.toArray.size)).all (zaO c b)&&us.toArray.size==ts.toArray.size)=D.eqbs c b:=by
 have l1:=zs.length
 have l2:=zt.length
 have l3:=ri.length
 have l4:=rj.length
 by_cases hl:c.length=b.length
 ·have hm:min us.toArray.size ts.toArray.size=c.length:=by simp;omega
  rw [hm,zcP c b hl,zcL c b (λx y=>x.eqb y) hl (zaO c b) (λj x y h1 h2=>by simp [zaO,h1,h2])]
  have:(us.toArray.size==ts.toArray.size)=true:=by simp;omega
  rw [this,Bool.and_true]
 ·rw [zcB c b hl]
  have:(us.toArray.size==ts.toArray.size)=false:=by simp;omega
  rw [this,Bool.and_false]
mutual
theorem zoB (S:za8 X s H):∀ (x y:D) (A:Around) (v w:V) (u t:Value),RdD X.K A0 H x v->RdD X.K A0 H y w->RelV v u->RelV w t->A.units+min x.dep y.dep<cLine->SeqAt.EqAt A s u t (x.eqb y)
 | .non,y,A,v,w,_,_,qx,qy,ru,rt,hu=>by
  cases vw S qx ru with | non=>
  cases vw S qy rt with
  | non=>exact .same _
  | bl b=>exact .none_bool b
  | int b t=>exact .none_int b t
  | str b t=>exact .none_str _ t
  | tup _ _ _ _ _ _ _ p=>exact .none_tuple p (by omega)
  | lst _ _ _ _ _ _ _ p=>exact .none_list p (by omega)
 | .bl c,y,A,v,w,_,_,qx,qy,ru,rt,hu=>by
  cases vw S qx ru with | bl=>
  cases vw S qy rt with
  | non=>exact .bool_none c
  | bl b=>exact .bool_bool c b
  | int b t=>exact .bool_int c b t
  | str b t=>exact .bool_str c _ t
  | tup _ _ _ _ _ _ _ p=>exact .bool_tuple c p (by omega)
  | lst _ _ _ _ _ _ _ p=>exact .bool_list c p (by omega)
 | .int c,y,A,v,w,_,_,qx,qy,ru,rt,hu=>by
  cases vw S qx ru with | int _ u=>
  cases vw S qy rt with
  | non=>exact .int_none c u
  | bl b=>exact .int_bool c u b
  | int b t=>exact .int_int c u b t
  | str b t=>exact .int_str c u _ t
  | tup _ _ _ _ _ _ _ p=>exact .int_tuple c u p (by omega)
  | lst _ _ _ _ _ _ _ p=>exact .int_list c u p (by omega)
 | .str c,y,A,v,w,_,_,qx,qy,ru,rt,hu=>by
  cases vw S qx ru with | str _ u=>
  cases vw S qy rt with
  | non=>exact .str_none _ u
  | bl b=>exact .str_bool _ u b
  | int b t=>exact .str_int _ u b t
  | str b t=>have z:=SeqAt.EqAt.str_str (A:=A) (s:=s) (zaH c) u (zaH b) t;rw [zfs] at z;exact z
  | tup _ _ _ _ _ _ _ p=>exact .str_tuple _ u p (by omega)
  | lst _ _ _ _ _ _ _ p=>exact .str_list _ u p (by omega)
 | .tup c,y,A,v,w,_,_,qx,qy,ru,rt,hu=>by
  have hu0:A.units<cLine:=by omega
  cases vw S qx ru with | tup _ a vs its q zs ri p=>
  cases vw S qy rt with
  | non=>exact .tuple_none p hu0
  | bl b=>exact .tuple_bool b p hu0
  | int b t=>exact .tuple_int b t p hu0
  | str b t=>exact .tuple_str _ t p hu0
  | lst _ _ _ _ _ _ _ p'=>exact .tuple_list p p' hu0
  | tup b a' vs' its' q' zs' ri' p'=>
   have key:=pairs_D S c b A.in1 vs vs' its its' zs zs' ri ri' (by
    show A.units+1+_<cLine
    simp only [D.dep] at hu
    omega)
   by_cases hab:a=a'
   ·subst hab
    have e2:=zkM S q q'
    subst e2
    have e1:=RepDs.inj S c b vs zs zs'
    subst e1
    refine (show D.eqb (.tup c) (.tup c)=true from D.eqb_refl _)▸SeqAt.EqAt.same _
   ·refine SeqAt.EqAt.of_refs hab ?_
    have:=SeqAt.RcAt.tuples (e:=zaO c b) p p' hu0 (λj h1 h2=>by
     have:=key j (by simpa using h1) (by simpa using h2)
     simpa using this)
    rw [ze6 zs zs' ri ri'] at this
    exact this
 | .lst c,y,A,v,w,_,_,qx,qy,ru,rt,hu=>by
  have hu0:A.units<cLine:=by omega
  cases vw S qx ru with | lst _ a vs its q zs ri p=>
  cases vw S qy rt with
  | non=>exact .list_none p hu0
  | bl b=>exact .list_bool b p hu0
  | int b t=>exact .list_int b t p hu0
  | str b t=>exact .list_str _ t p hu0
  | tup _ _ _ _ _ _ _ p'=>exact .list_tuple p p' hu0
  | lst b a' vs' its' q' zs' ri' p'=>
   have key:=pairs_D S c b A.in1 vs vs' its its' zs zs' ri ri' (by
    show A.units+1+_<cLine
    simp only [D.dep] at hu
    omega)
   by_cases hab:a=a'
   ·subst hab
    have e2:=zl7 S q q'
    subst e2
    have e1:=RepDs.inj S c b vs zs zs'
    subst e1
    refine (show D.eqb (.lst c) (.lst c)=true from D.eqb_refl _)▸SeqAt.EqAt.same _
   ·refine SeqAt.EqAt.of_refs hab ?_
    show SeqAt.RcAt A s _ _ (D.eqbs c b)
    have l1:=zs.length
    have l2:=zs'.length
    have l3:=ri.length
    have l4:=ri'.length
    by_cases hl:c.length=b.length
    ·have:=SeqAt.RcAt.lists (e:=zaO c b) p p' (by simp;omega) hu0 (λj h1 h2=>by
      have:=key j (by simpa using h1) (by simpa using h2)
      simpa using this)
     have hm:its.toArray.size=c.length:=by simp;omega
     rw [hm,zcL c b (λx y=>x.eqb y) hl (zaO c b) (λj x y h1 h2=>by simp [zaO,h1,h2]),<-zcP c b hl] at this
     exact this
    ·rw [zcB c b hl]
     exact SeqAt.RcAt.lists_lengths p p' (by simp;omega) hu0
theorem pairs_D (S:za8 X s H):∀ (xs ys:List D) (A:Around) (vs ws:List V) (us ts:List Value),RepDs X.K A0 H xs vs->RepDs X.K A0 H ys ws->Vals vs us->Vals ws ts->A.units+min (D.deps xs) (D.deps ys)<cLine →
  ∀ (j:Nat) (h1:j<us.length) (h2:j<ts.length),SeqAt.EqAt A s us[j] ts[j] (zaO xs ys j)
 | [],ys,A,vs,ws,us,ts,qx,qy,ru,rt,hu,j,h1,h2=>by
  have l1:=qx.length
  have l2:=ru.length
  rw [List.length_nil] at l1
  omega
 | x :: xs,ys,A,vs,ws,us,ts,qx,qy,ru,rt,hu,j,h1,h2=>by
  rw [RepDs] at qx
  obtain ⟨v,vs,rfl,qx1,qx2⟩:=qx
  cases ru with
  | cons ru1 ru2=>
   cases ys with
   | nil=>
    have l1:=qy.length
    have l2:=rt.length
    rw [List.length_nil] at l1
    omega
   | cons y ys=>
    rw [RepDs] at qy
    obtain ⟨w,ws,rfl,qy1,qy2⟩:=qy
    cases rt with
    | cons rt1 rt2=>
     simp only [D.deps] at hu
     cases j with
     | zero=>
      simp only [List.getElem_cons_zero,zaO,List.getElem?_cons_zero]
      exact zoB S x y A v w _ _ (RdD.of qx1) (RdD.of qy1) ru1 rt1 (by omega)
     | succ j=>
      simp only [List.getElem_cons_succ]
      have:=pairs_D S xs ys A vs ws _ _ qx2 qy2 ru2 rt2 (by omega) j (by simpa using h1) (by simpa using h2)
      simpa only [zaO,List.getElem?_cons_succ] using this
end
end
end
end IT
namespace IT
open PySem PySem.Spec L2
open PySem.StrLaws Builtin.Str
theorem pick_run (x:List Nat) (i:Nat):∀ k,i+k<=x.length->(((List.range k).map λm=>i+m).filterMap λj=>x[j]?)=(x.drop i).take k
 | 0,_=>by simp
 | k+1,h=>by
  rw [List.range_succ,List.map_append,List.filterMap_append,pick_run x i k (by omega),List.take_succ]
  congr 1
  have hx:i+k<x.length:=by omega
  simp [List.getElem?_eq_getElem hx]
end IT
namespace PySem
open Sem (wp)
open Builtin AutoSeq1
theorem zhi (l:Addr) (items:Array Value) (n:Nat) (dd:Option Addr) (sl:Array (Option Value)) (b:Addr) (items2:Array Value) (n2:Nat) (dd2:Option Addr) (sl2:Array (Option Value)) (hc0:items.size+items2.size<=sizeLine) :
  Meets (Builtin.«list.__add__» ⟨[.ref l,.ref b],[]⟩) (λ_ R s=>s.heap.get? l=some { cls:=.type "list",dict:=dd,data:=.seq items n,slots:=sl }/\s.heap.get? b=some { cls:=.type "list",dict:=dd2,data:=.seq items2 n2,slots:=sl2 }/\R (.ok (.ret (Value.ref s.heap.objs.size))) { s with heap:=s.heap.push { cls:=Value.type "list",data:=Data.seq (items++items2) } }):=
 .of_wp λprog w A R s h=>by obtain ⟨hp,g,d,tk,os⟩:=s;obtain ⟨hl,hb,h⟩:=h;have f1:=idx_int;have f2:=sub_tuple_tuple;have f3:=sub_list_list;have f4:=sub_tuple_list;have f5:=sub_list_tuple;wp_walk using wpAny_loadPart' hl,wpAny_loadPart' hb;exact ⟨_,rfl,h⟩
theorem zen (l:Addr) (items:Array Value) (n:Nat) (b:Addr) (items2:Array Value) (n2:Nat) (dd2:Option Addr) (sl2:Array (Option Value)) (hc0:¬(!items.isEmpty&&Builtin.List.listTooLong (items.size+items2.size))=true) (hc1:items.size<=sizeLine) (hs2:items.size+items2.size<=sizeLine+1) :
  Meets (Builtin.«list.extend» ⟨[.ref l,.ref b],[]⟩) (λ_ R s=>s.heap.get? l=some { cls:=.type "list",dict:=none,data:=.seq items n,slots:=#[] }/\s.heap.get? b=some { cls:=.type "list",dict:=dd2,data:=.seq items2 n2,slots:=sl2 }/\R (.ok (.ret Value.none)) { s with heap:=s.heap.update l (Obj.mapSeq λx=>x++items2),toks:=s.toks }):=
 .of_wp λprog w A R s h=>by
  obtain ⟨hp,g,d,tk,os⟩:=s;obtain ⟨hl,hb,h⟩:=h;have f1:=idx_int;have f2:=sub_tuple_tuple;have f3:=sub_list_list;have f4:=sub_tuple_list;have f5:=sub_list_tuple;
  have hz':(items++items2).size<=sizeLine+1:=by rw [Array.size_append];exact hs2
  wp_walk using (wpAny_updateSeq hl rfl (hz:=hc1) (_hz':=hz')),wpAny_loadPart' hl,wpAny_loadPart' hb;exact ⟨_,rfl,h⟩
end PySem
namespace IT
open PySem PySem.Spec L2
section
variable {X:Cx}
theorem zp0:OpR X (binaryOp .Add) (λx y H Q=>∃ l b xs zs,x=.ref l/\y=.ref b/\SqL X.K H l xs/\SqL X.K H b zs/\xs.length+zs.length<=sizeLine/\∀ p,H p=none->Q (.ref p) (upd H p (.lst (xs++zs)))):=by
 intro pins s σ H x y v u Q I rx ry h
 obtain ⟨l,b,xs,zs,rfl,rfl,hH,hB,hz,q⟩:=h
 cases rx
 cases ry
 obtain ⟨its,r,⟨o,n,e,hc,hd,hs⟩,_⟩:=I.list hH
 obtain ⟨its2,r2,⟨o2,n2,e2,hc2,hd2,hs2⟩,_⟩:=I.list hB
 have hl:=r.length
 have hl2:=r2.length
 obtain ⟨cls,dd,data,sl⟩:=o
 obtain ⟨cls2,dd2,data2,sl2⟩:=o2
 simp only at hc hd hs hc2 hd2 hs2
 subst hc hd hs hc2 hd2 hs2
 refine concat_meets ⟨_,e,rfl⟩ ⟨_,e2,rfl⟩ noFill_list_add seq_list_add F.slot_list_add F.entry_list_add (F.args_list_add_2 _ _) (zhi l its.toArray n none sl b its2.toArray n2 none sl2 (by rw [List.size_toArray,List.size_toArray];omega)) ⟨e,e2,?_⟩
 have ea:its.toArray++its2.toArray=(its++its2).toArray:=by simp
 rw [ea]
 exact ⟨.ref _,_,I.lnew (t':=s.toks) (r.append r2) (by rw [List.length_append];omega),rfl,q _ I.fresh⟩
theorem zi5:MtM X "list.extend" (λx vs H Q=>∃ l b xs zs,x=.ref l/\vs=[.ref b]/\H l=some (.lst xs)/\SqL X.K H b zs/\xs.length+zs.length<=sizeLine/\Q .non (upd H l (.lst (xs++zs)))):=by
 intro pins s σ H x vs v us Q I rx rv h
 obtain ⟨l,b,xs,zs,rfl,rfl,hH,hB,hz,q⟩:=h
 cases rx
 obtain ⟨u,rfl,ru⟩:=rv.one
 cases ru
 obtain ⟨z,its,n,r,hl,e⟩:=I.lstM hH
 obtain ⟨its2,r2,⟨o2,n2,e2,hc2,hd2,hs2⟩,_⟩:=I.list hB
 have hl2:=r2.length
 obtain ⟨cls2,dd2,data2,sl2⟩:=o2
 simp only at hc2 hd2 hs2
 subst hc2 hd2 hs2
 have hsz:its.toArray.size+its2.toArray.size<=sizeLine:=by rw [List.size_toArray,List.size_toArray];omega
 have hlong:¬ (!its.toArray.isEmpty&&Builtin.List.listTooLong (its.toArray.size+its2.toArray.size))=true:=by
  rw [znI hsz,Bool.and_false]
  exact Bool.false_ne_true
 refine call_meets F.slot_list_extend ⟨_,e,rfl⟩ F.entry_list_extend (F.args_list_extend_2 _ _)
  (zen l its.toArray n b its2.toArray n2 none sl2 hlong (by rw [List.size_toArray];omega) (by omega)) ⟨e,e2,?_⟩
 refine ⟨.non,_,I.lset (its':=its++its2) hH e (by simp) (r.append r2) ?_,rfl,q⟩
 rw [List.length_append]
 omega
end
section
variable {A0:Addr->Prop} {H:Hp} {X:Cx} {s:Shared}
theorem zsI (S:za8 X s H) (x y:D) (A:Around) (v w:V) (u t:Value) (qx:RdD X.K A0 H x v) (qy:RdD X.K A0 H y w) (ru:RelV v u) (rt:RelV w t) (hu:A.units+min x.dep y.dep<cLine):SeqAt.RcAt A s u t (x.eqb y):=by
 have hu0:A.units<cLine:=by omega
 cases vw S qx ru with
 | non=>
  cases vw S qy rt with
  | non=>exact .none_none
  | bl b=>exact .none_bool b
  | int b t=>exact .none_int b t
  | str b t=>exact .none_str _ t
  | tup _ _ _ _ _ _ _ p=>exact .none_tuple p hu0
  | lst _ _ _ _ _ _ _ p=>exact .none_list p hu0
 | bl c=>
  cases vw S qy rt with
  | non=>exact .bool_none c
  | bl b=>exact .bool_bool c b
  | int b t=>exact .bool_int c b t
  | str b t=>exact .bool_str c _ t
  | tup _ _ _ _ _ _ _ p=>exact .bool_tuple c p hu0
  | lst _ _ _ _ _ _ _ p=>exact .bool_list c p hu0
 | int c u=>
  cases vw S qy rt with
  | non=>exact .int_none c u
  | bl b=>exact .int_bool c u b
  | int b t=>exact .int_int c u b t
  | str b t=>exact .int_str c u _ t
  | tup _ _ _ _ _ _ _ p=>exact .int_tuple c u p hu0
  | lst _ _ _ _ _ _ _ p=>exact .int_list c u p hu0
 | str c u=>
  cases vw S qy rt with
  | non=>exact .str_none _ u
  | bl b=>exact .str_bool _ u b
  | int b t=>exact .str_int _ u b t
  | str b t=>have z:=SeqAt.RcAt.str_str (A:=A) (s:=s) (zaH c) u (zaH b) t;rw [zfs] at z;exact z
  | tup _ _ _ _ _ _ _ p=>exact .str_tuple _ u p hu0
  | lst _ _ _ _ _ _ _ p=>exact .str_list _ u p hu0
 | tup c a vs its q zs ri p=>
  cases vw S qy rt with
  | non=>exact .tuple_none p hu0
  | bl b=>exact .tuple_bool b p hu0
  | int b t=>exact .tuple_int b t p hu0
  | str b t=>exact .tuple_str _ t p hu0
  | lst _ _ _ _ _ _ _ p'=>exact .tuple_list p p' hu0
  | tup b a' vs' its' q' zs' ri' p'=>
   have key:=pairs_D S c b A.in1 vs vs' its its' zs zs' ri ri' (by show A.units+1+_<cLine;simp only [D.dep] at hu;omega)
   have:=SeqAt.RcAt.tuples (e:=zaO c b) p p' hu0 (λj h1 h2=>by have:=key j (by simpa using h1) (by simpa using h2);simpa using this)
   rw [ze6 zs zs' ri ri'] at this
   exact this
 | lst c a vs its q zs ri p=>
  cases vw S qy rt with
  | non=>exact .list_none p hu0
  | bl b=>exact .list_bool b p hu0
  | int b t=>exact .list_int b t p hu0
  | str b t=>exact .list_str _ t p hu0
  | tup _ _ _ _ _ _ _ p'=>exact .list_tuple p p' hu0
  | lst b a' vs' its' q' zs' ri' p'=>
   have key:=pairs_D S c b A.in1 vs vs' its its' zs zs' ri ri' (by show A.units+1+_<cLine;simp only [D.dep] at hu;omega)
   have l1:=zs.length;have l2:=zs'.length;have l3:=ri.length;have l4:=ri'.length
   show SeqAt.RcAt A s _ _ (D.eqbs c b)
   by_cases hl:c.length=b.length
   ·have:=SeqAt.RcAt.lists (e:=zaO c b) p p' (by simp;omega) hu0 (λj h1 h2=>by have:=key j (by simpa using h1) (by simpa using h2);simpa using this)
    have hm:its.toArray.size=c.length:=by simp;omega
    rw [hm,zcL c b (λx y=>x.eqb y) hl (zaO c b) (λj x y h1 h2=>by simp [zaO,h1,h2]),<-zcP c b hl] at this
    exact this
   ·rw [zcB c b hl]
    exact SeqAt.RcAt.lists_lengths p p' (by simp;omega) hu0
theorem zmI (S:za8 X s H) (x y:D) (A:Around) (v w:V) (u t:Value) (qx:RdD X.K A0 H x v) (qy:RdD X.K A0 H y w) (ru:RelV v u) (rt:RelV w t) (hu:A.units+min x.dep y.dep<cLine):SeqAt.RcNeAt A s u t (!x.eqb y):=by
 have hu0:A.units<cLine:=by omega
 cases vw S qx ru with
 | non=>
  cases vw S qy rt with
  | non=>exact .none_none
  | bl b=>exact .none_bool b
  | int b t=>exact .none_int b t
  | str b t=>exact .none_str _ t
  | tup _ _ _ _ _ _ _ p=>exact .none_tuple p hu0
  | lst _ _ _ _ _ _ _ p=>exact .none_list p hu0
 | bl c=>
  cases vw S qy rt with
  | non=>exact .bool_none c
  | bl b=>exact .bool_bool c b
  | int b t=>exact .bool_int c b t
  | str b t=>exact .bool_str c _ t
  | tup _ _ _ _ _ _ _ p=>exact .bool_tuple c p hu0
  | lst _ _ _ _ _ _ _ p=>exact .bool_list c p hu0
 | int c u=>
  cases vw S qy rt with
  | non=>exact .int_none c u
  | bl b=>exact .int_bool c u b
  | int b t=>exact .int_int c u b t
  | str b t=>exact .int_str c u _ t
  | tup _ _ _ _ _ _ _ p=>exact .int_tuple c u p hu0
  | lst _ _ _ _ _ _ _ p=>exact .int_list c u p hu0
 | str c u=>
  cases vw S qy rt with
  | non=>exact .str_none _ u
  | bl b=>exact .str_bool _ u b
  | int b t=>exact .str_int _ u b t
  | str b t=>have z:=SeqAt.RcNeAt.str_str (A:=A) (s:=s) (zaH c) u (zaH b) t;rw [zfs] at z;exact z
  | tup _ _ _ _ _ _ _ p=>exact .str_tuple _ u p hu0
  | lst _ _ _ _ _ _ _ p=>exact .str_list _ u p hu0
 | tup c a vs its q zs ri p=>
  cases vw S qy rt with
  | non=>exact .tuple_none p hu0
  | bl b=>exact .tuple_bool b p hu0
  | int b t=>exact .tuple_int b t p hu0
  | str b t=>exact .tuple_str _ t p hu0
  | lst _ _ _ _ _ _ _ p'=>exact .tuple_list p p' hu0
  | tup b a' vs' its' q' zs' ri' p'=>
   have key:=pairs_D S c b A.in1 vs vs' its its' zs zs' ri ri' (by show A.units+1+_<cLine;simp only [D.dep] at hu;omega)
   have:=SeqAt.RcNeAt.tuples (e:=zaO c b) p p' hu0 (λj h1 h2=>by have:=key j (by simpa using h1) (by simpa using h2);simpa using this)
   rw [ze6 zs zs' ri ri'] at this
   exact this
 | lst c a vs its q zs ri p=>
  cases vw S qy rt with
  | non=>exact .list_none p hu0
  | bl b=>exact .list_bool b p hu0
  | int b t=>exact .list_int b t p hu0
  | str b t=>exact .list_str _ t p hu0
  | tup _ _ _ _ _ _ _ p'=>exact .list_tuple p p' hu0
  | lst b a' vs' its' q' zs' ri' p'=>
   have key:=pairs_D S c b A.in1 vs vs' its its' zs zs' ri ri' (by show A.units+1+_<cLine;simp only [D.dep] at hu;omega)
   have l1:=zs.length;have l2:=zs'.length;have l3:=ri.length;have l4:=ri'.length
   show SeqAt.RcNeAt A s _ _ (!D.eqbs c b)
   by_cases hl:c.length=b.length
   ·have:=SeqAt.RcNeAt.lists (e:=zaO c b) p p' (by simp;omega) hu0 (λj h1 h2=>by have:=key j (by simpa using h1) (by simpa using h2);simpa using this)
    have hm:its.toArray.size=c.length:=by simp;omega
    rw [hm,zcL c b (λx y=>x.eqb y) hl (zaO c b) (λj x y h1 h2=>by simp [zaO,h1,h2]),<-zcP c b hl] at this
    exact this
   ·rw [zcB c b hl]
    exact SeqAt.RcNeAt.lists_lengths p p' (by simp;omega) hu0
end
section
variable {X:Cx}
theorem znp:OpR X (binaryOp .Add) (λx y H Q=>∃ a b ys,x=.ref a/\y=.ref b/\SqT X.K H a []/\SqT X.K H b ys/\Q (.ref b) H):=by
 intro pins s σ H x y v u Q I rx ry h
 obtain ⟨a,b,ys,rfl,rfl,ha,hb,q⟩:=h
 cases rx;cases ry
 obtain ⟨its,r1,p1,_⟩:=I.tuple ha
 obtain ⟨its2,r2,p2,_⟩:=I.tuple hb
 have hi:its=[]:=r1.nil_iff.mpr rfl
 subst hi
 obtain ⟨⟨cls,dd,data,sl⟩,ho,hc,n,hd⟩:=id p1
 obtain ⟨⟨cls2,dd2,data2,sl2⟩,ho2,hc2,n2,hd2⟩:=id p2
 simp only at hc hd hc2 hd2
 subst hc hd hc2 hd2
 refine PySem.concat_meets ⟨_,ho,rfl⟩ ⟨_,ho2,rfl⟩ PySem.noFill_tuple_add PySem.seq_tuple_add PySem.F.slot_tuple_add PySem.F.entry_tuple_add (PySem.F.args_tuple_add_2 _ _) (PyProof.Rows.tuple_addW0 a b _ its2.toArray n n2 dd dd2 sl sl2 ?_) ⟨ho,ho2,?_⟩
 ·rfl
 ·exact ⟨.ref b,H,I,rfl,q⟩
theorem zkh (h1:0<=i) (h2:0<=j):Builtin.bitAnd i j=((i.toNat &&& j.toNat:Nat):Int):=by
 unfold Builtin.bitAnd
 rw [decide_eq_true h1,decide_eq_true h2]
theorem zmL:OpD X (binaryOp .BitAnd) (bop .band):=by
 intro pins s σ H v u v' u' Q I rv ru q
 obtain ⟨μ,h,a,b,z,R0,qa,qb,e,k⟩:=q
 cases a with
 | int i=>
  cases b with
  | int j=>
   simp only [RdD,RepD] at qa qb
   (change (if _=true then _ else _)=some _ at e;simp only [Bool.and_eq_true,decide_eq_true_eq] at e)
   split at e
   ·rename_i hf
    cases e
    exact zro pins s σ H v u v' u' Q I rv ru ⟨i,j,qa,qb,by show Q (V.int (Builtin.bitAnd i j)) H;rw [zkh hf.1 hf.2];exact k μ H _ Stp.refl R0 (by simp only [RepD])⟩
   ·cases e
  | _=>exact zaf e
 | _=>cases b<;>exact zaf e
theorem zqe:OpD X (binaryOp .Add) (bop .add):=by
 intro pins s σ H v u v' u' Q I rv ru q
 obtain ⟨μ,h,a,b,z,R0,qa,qb,e,k⟩:=q
 cases a with
 | int i=>
  cases b with
  | int j=>
   simp only [RdD,RepD] at qa qb
   replace e:=Option.some.inj e
   subst e
   exact zqS pins s σ H v u v' u' Q I rv ru ⟨i,j,qa,qb,k μ H _ Stp.refl R0 (by simp only [RepD])⟩
  | _=>exact zaf e
 | tup xs=>
  cases b with
  | tup ys=>
   simp only [RdD,RepD] at qa qb
   obtain ⟨p,vs,rfl,q1,z1⟩:=qa
   obtain ⟨p',vs',rfl,q2,z2⟩:=qb
   change (if _=true then _ else _)=some _ at e
   split at e
   ·rename_i hf
    cases e
    have l1:=z1.length
    have l2:=z2.length
    have hlen:xs.length+ys.length<=sizeLine:=of_decide_eq_true hf
    by_cases hv:vs=[]
    ·subst hv
     have hx:xs=[]:=by cases xs with | nil=>rfl | cons _ _=>simp at l1
     subst hx
     exact znp pins s σ H _ _ v' u' Q I rv ru ⟨p,p',vs',rfl,rfl,q1,q2,k μ H _ Stp.refl R0 (by simp only [RepD];exact ⟨p',vs',rfl,q2,z2⟩)⟩
    refine zo7 pins s σ H _ _ v' u' Q I rv ru ⟨p,p',vs,vs',rfl,rfl,q1,q2,hv,by omega,λhn=>?_,λ_ r hr=>?_⟩
    ·subst hn
     cases ys with
     | nil=>
      rw [List.append_nil] at k
      exact k μ H _ Stp.refl R0 (by simp only [RepD];exact ⟨p,vs,rfl,q1,z1⟩)
     | cons _ _=>simp at l2
    ·have s2:Stp μ h H μ h (upd H r (.tup (vs++vs'))):=Stp.fresh hr
     refine k μ _ (.ref r) s2 (R0.fresh hr) ?_
     simp only [RepD]
     exact ⟨r,vs++vs',rfl,SqT.of zaj,RepDs.stp s2 R0 (z1.app z2)⟩
   ·cases e
  | _=>exact zaf e
 | lst xs=>
  cases b with
  | lst ys=>
   obtain ⟨p,vs,rfl,q1,z1⟩:=qa
   obtain ⟨p',vs',rfl,q2,z2⟩:=qb
   change (if _=true then _ else _)=some _ at e
   split at e
   ·rename_i hf
    cases e
    have l1:=z1.length
    have l2:=z2.length
    have hlen:xs.length+ys.length<=sizeLine:=of_decide_eq_true hf
    refine zp0 pins s σ H _ _ v' u' Q I rv ru ⟨p,p',vs,vs',rfl,rfl,q1,q2,by omega,λr hr=>?_⟩
    have s2:Stp μ h H μ h (upd H r (.lst (vs++vs'))):=Stp.fresh hr
    refine k μ _ (.ref r) s2 (R0.fresh hr) ?_
    simp only [RepD]
    refine ⟨r,vs++vs',rfl,.inl ⟨λl=>?_,.inl zaj⟩,RepDs.stp s2 R0 (z1.app z2)⟩
    obtain ⟨ws,w,_⟩:=R0.liveAt l
    rw [hr] at w;cases w
   ·cases e
  | _=>exact zaf e
 | _=>cases b<;>exact zaf e
theorem zpL:OpD X (binaryOp .Sub) (bop .sub):=by
 intro pins s σ H v u v' u' Q I rv ru q
 obtain ⟨μ,h,a,b,z,R0,qa,qb,e,k⟩:=q
 cases a with
 | int i=>
  cases b with
  | int j=>
   simp only [RdD,RepD] at qa qb
   replace e:=Option.some.inj e
   subst e
   exact zrY pins s σ H v u v' u' Q I rv ru ⟨i,j,qa,qb,k μ H _ Stp.refl R0 (by simp only [RepD])⟩
  | _=>exact zaf e
 | _=>cases b<;>exact zaf e
theorem znU:OpD X (binaryOp .FloorDiv) (bop .fdiv):=by
 intro pins s σ H v u v' u' Q I rv ru q
 obtain ⟨μ,h,a,b,z,R0,qa,qb,e,k⟩:=q
 cases a with
 | int i=>
  cases b with
  | int j=>
   simp only [RdD,RepD] at qa qb
   change (if _=true then _ else _)=some _ at e
   split at e
   ·rename_i hf
    rw [Bool.and_eq_true] at hf
    cases e
    have h0:(0:Int)<j:=of_decide_eq_true hf.1
    have h1:j<1000000000000000000000000000000000000000000000000000000000000:=of_decide_eq_true hf.2
    subst qa qb
    obtain ⟨t1,rfl⟩:=rv
    obtain ⟨t2,rfl⟩:=ru
    refine PyProof.Rows.floordiv_int (by omega) ?_ (.inl (PyProof.noPylong_of_log2 ?_))
    ·have ef:i.fdiv j=i / j:=Int.fdiv_eq_ediv_of_nonneg i (by omega)
     rw [ef]
     exact ⟨.int (i / j),H,I.tok _,⟨_,rfl⟩,k μ H _ Stp.refl R0 (by simp only [RepD])⟩
    ·have hj:j.natAbs<2 ^ 200:=by
      omega
     have hj0:j.natAbs≠0:=by omega
     have:=(Nat.log2_lt hj0).mpr hj
     omega
   ·cases e
  | _=>exact zaf e
 | _=>cases b<;>exact zaf e
theorem zqz:OpD X (binaryOp .Mod) (bop .mod):=by
 intro pins s σ H v u v' u' Q I rv ru q
 obtain ⟨μ,h,a,b,z,R0,qa,qb,e,k⟩:=q
 cases a with
 | int i=>
  cases b with
  | int j=>
   simp only [RdD,RepD] at qa qb
   change (if _=true then _ else _)=some _ at e
   split at e
   ·rename_i hf
    cases e
    exact zst pins s σ H v u v' u' Q I rv ru ⟨i,j,qa,qb,of_decide_eq_true hf,k μ H _ Stp.refl R0 (by simp only [RepD])⟩
   ·cases e
  | _=>exact zaf e
 | _=>cases b<;>exact zaf e
theorem zqX (hu:X.A.units+64<cLine):OpD X (compareOp .Eq) (cop .eq):=by
 intro pins s σ H v u v' u' Q I rv ru q
 obtain ⟨μ,h,a,b,z,R0,qa,qb,e,k⟩:=q
 (delta cop at e;(try dsimp only at e))
 split at e
 ·rename_i hf
  cases e
  have hd:min a.dep b.dep<=60:=of_decide_eq_true hf
  exact zsI (zaG I) a b X.A v u v' u' qa qb rv ru (by omega) X.prog X.w X.xe _ ⟨.bl _,H,I,rfl,k μ H _ Stp.refl R0 (by simp only [RepD])⟩
 ·cases e
theorem zsO (hu:X.A.units+64<cLine):OpD X (compareOp .NotEq) (cop .ne):=by
 intro pins s σ H v u v' u' Q I rv ru q
 obtain ⟨μ,h,a,b,z,R0,qa,qb,e,k⟩:=q
 (delta cop at e;(try dsimp only at e))
 split at e
 ·rename_i hf
  cases e
  have hd:min a.dep b.dep<=60:=of_decide_eq_true hf
  exact zmI (zaG I) a b X.A v u v' u' qa qb rv ru (by omega) X.prog X.w X.xe _ ⟨.bl _,H,I,rfl,k μ H _ Stp.refl R0 (by simp only [RepD])⟩
 ·cases e
theorem zre:OpD X (compareOp .Lt) (cop .lt):=by
 intro pins s σ H v u v' u' Q I rv ru q
 obtain ⟨μ,h,a,b,z,R0,qa,qb,e,k⟩:=q
 cases a with
 | int i=>
  cases b with
  | int j=>
   simp only [RdD,RepD] at qa qb
   replace e:=Option.some.inj e
   subst e
   exact ztL pins s σ H v u v' u' Q I rv ru ⟨i,j,qa,qb,k μ H _ Stp.refl R0 (by simp only [RepD])⟩
  | _=>exact zaf e
 | _=>cases b<;>exact zaf e
theorem zrk:OpD X (compareOp .Gt) (cop .gt):=by
 intro pins s σ H v u v' u' Q I rv ru q
 obtain ⟨μ,h,a,b,z,R0,qa,qb,e,k⟩:=q
 cases a with
 | int i=>
  cases b with
  | int j=>
   simp only [RdD,RepD] at qa qb
   replace e:=Option.some.inj e
   subst e
   exact zt5 pins s σ H v u v' u' Q I rv ru ⟨i,j,qa,qb,k μ H _ Stp.refl R0 (by simp only [RepD])⟩
  | _=>exact zaf e
 | _=>cases b<;>exact zaf e
theorem zqY:OpD X (compareOp .GtE) (cop .ge):=by
 intro pins s σ H v u v' u' Q I rv ru q
 obtain ⟨μ,h,a,b,z,R0,qa,qb,e,k⟩:=q
 cases a with
 | int i=>
  cases b with
  | int j=>
   simp only [RdD,RepD] at qa qb
   replace e:=Option.some.inj e
   subst e
   exact zt1 pins s σ H v u v' u' Q I rv ru ⟨i,j,qa,qb,k μ H _ Stp.refl R0 (by simp only [RepD])⟩
  | _=>exact zaf e
 | _=>cases b<;>exact zaf e
theorem zlG (hu:X.A.units+64<cLine) (I:Inv X pins σ H s) (qa:RdD X.K (Live μ h) H a v) (rv:RelV v v') (hd:a.dep<=60)
  {xs:List D} {ws:List V} {its:List Value} (q:RepDs X.K (Live μ h) H xs ws) (r:Vals ws its) :
  ∃ f:Value->Bool,(∀ y,y∈its.toArray->SeqAt.EqAt X.A.in1 s y v' (f y))/\∀ (j:Nat) (x:D) (y:Value),xs[j]?=some x->its[j]?=some y->f y=x.eqb a:=by
 have S:=zaG I
 classical
 have base:∀ (y:Value) (x:D) (w:V),RepD X.K (Live μ h) H x w->RelV w y->SeqAt.EqAt X.A.in1 s y v' (x.eqb a):=λy x w qx rx=>
  zoB S x a X.A.in1 w v y v' (RdD.of qx) qa rx rv (by show X.A.units+1+_<cLine;omega)
 have at':∀ (j:Nat) (y:Value),its[j]?=some y->∃ x w,xs[j]?=some x/\RepD X.K (Live μ h) H x w/\RelV w y:=by
  intro j y hy
  have hj:j<its.length:=(List.getElem?_eq_some_iff.mp hy).1
  have hj2:j<ws.length:=by rw [r.length];exact hj
  obtain ⟨x,hx,qx⟩:=q.get' (List.getElem?_eq_getElem hj2)
  obtain ⟨u,hu',ru⟩:=r.get (List.getElem?_eq_getElem hj2)
  rw [hy] at hu'
  cases hu'
  exact ⟨x,_,hx,qx,ru⟩
 refine ⟨λy=>decide (∃ (x:D) (w:V),RepD X.K (Live μ h) H x w/\RelV w y/\x.eqb a=true),λy hy=>?_,λj x y hx hy=>?_⟩
 ·obtain ⟨j,hj⟩:=List.getElem?_of_mem (show y∈its by simpa using hy)
  obtain ⟨x,w,hx,qx,rx⟩:=at' j y hj
  dsimp only
  by_cases hx':∃ (x:D) (w:V),RepD X.K (Live μ h) H x w/\RelV w y/\x.eqb a=true
  ·rw [decide_eq_true hx']
   obtain ⟨x',w',q',r',e'⟩:=hx'
   rw [<-e']
   exact base y x' w' q' r'
  ·rw [decide_eq_false hx']
   cases ex:x.eqb a with
   | true=>exact absurd ⟨x,_,qx,rx,ex⟩ hx'
   | false=>rw [<-ex];exact base y x _ qx rx
 ·obtain ⟨x1,w,hx1,qx,rx⟩:=at' j y hy
  rw [hx] at hx1
  cases hx1
  dsimp only
  cases ex:x.eqb a with
  | true=>exact decide_eq_true ⟨x,w,qx,rx,ex⟩
  | false=>
   refine decide_eq_false λqW=>?_
   obtain ⟨x',w',q',r',e'⟩:=qW
   have ew:=RelV.inj rx r'
   rw [RepD.inj S x x' w' (ew▸qx) q'] at ex
   rw [ex] at e'
   cases e'
theorem zfy (hu:X.A.units+64<cLine) (I:Inv X pins σ H s) (qa:RdD X.K (Live μ h) H a v) (rv:RelV v v') (hd:a.dep<=60)
  {xs:List D} {ws:List V} {its:List Value} (q:RepDs X.K (Live μ h) H xs ws) (r:Vals ws its) :
  ∃ f:Value->Bool,(∀ y,y∈its.toArray->SeqAt.EqAt X.A.in1 s y v' (f y))/\its.toArray.any f=xs.any λy=>y.eqb a:=by
 obtain ⟨f,f1,f2⟩:=zlG hu I qa rv hd q r
 refine ⟨f,f1,?_⟩
 have l1:=q.length
 have l2:=r.length
 have e:its.map f=xs.map λy=>y.eqb a:=List.ext_getElem? λj=>by
  rw [List.getElem?_map,List.getElem?_map]
  by_cases c:j<xs.length
  ·have c2:j<its.length:=by omega
   rw [List.getElem?_eq_getElem c,List.getElem?_eq_getElem c2]
   exact congrArg some (f2 j _ _ (List.getElem?_eq_getElem c) (List.getElem?_eq_getElem c2))
  ·rw [List.getElem?_eq_none (by omega),List.getElem?_eq_none (by omega)];rfl
 have:=congrArg (List.any · id) e
 simpa [List.any_map] using this
theorem zmN (hu:X.A.units+64<cLine):OpD X (compareOp .In) (cop .isin):=by
 intro pins s σ H v u v' u' Q I rv ru q
 obtain ⟨μ,h,a,b,z,R0,qa,qb,e,k⟩:=q
 have S:=zaG I
 (delta cop at e;(try dsimp only at e))
 cases b with
 | tup ys=>
  simp only [items] at e
  split at e
  ·rename_i hf
   cases e
   simp only [RdD,RepD] at qb
   obtain ⟨p,vs,rfl,q1,z1⟩:=qb
   cases ru
   obtain ⟨its,r1,p1⟩:=S.tup p vs q1
   obtain ⟨f,hf1,hf2⟩:=zfy hu I qa rv (of_decide_eq_true hf) z1 r1
   exact SeqAt.in_tupleAt f p1 hf1 ⟨.bl _,H,I,rfl,by rw [hf2];exact k μ H _ Stp.refl R0 (by simp only [RepD])⟩
  ·cases e
 | lst ys=>
  simp only [items] at e
  split at e
  ·rename_i hf
   cases e
   obtain ⟨p,vs,rfl,q1,z1⟩:=qb
   cases ru
   obtain ⟨its,r1,p1⟩:=S.lst p vs q1
   obtain ⟨f,hf1,hf2⟩:=zfy hu I qa rv (of_decide_eq_true hf) z1 r1
   exact SeqAt.in_listAt f p1 hf1 ⟨.bl _,H,I,rfl,by rw [hf2];exact k μ H _ Stp.refl R0 (by simp only [RepD])⟩
  ·cases e
 | _=>exact zaf e
theorem zmb (hu:X.A.units+64<cLine):OpD X (compareOp .NotIn) (cop .notin):=by
 intro pins s σ H v u v' u' Q I rv ru q
 obtain ⟨μ,h,a,b,z,R0,qa,qb,e,k⟩:=q
 have S:=zaG I
 (delta cop at e;(try dsimp only at e))
 cases b with
 | tup ys=>
  simp only [items] at e
  split at e
  ·rename_i hf
   cases e
   simp only [RdD,RepD] at qb
   obtain ⟨p,vs,rfl,q1,z1⟩:=qb
   cases ru
   obtain ⟨its,r1,p1⟩:=S.tup p vs q1
   obtain ⟨f,hf1,hf2⟩:=zfy hu I qa rv (of_decide_eq_true hf) z1 r1
   exact SeqAt.notIn_tupleAt f p1 hf1 ⟨.bl _,H,I,rfl,by rw [hf2];exact k μ H _ Stp.refl R0 (by simp only [RepD])⟩
  ·cases e
 | lst ys=>
  simp only [items] at e
  split at e
  ·rename_i hf
   cases e
   obtain ⟨p,vs,rfl,q1,z1⟩:=qb
   cases ru
   obtain ⟨its,r1,p1⟩:=S.lst p vs q1
   obtain ⟨f,hf1,hf2⟩:=zfy hu I qa rv (of_decide_eq_true hf) z1 r1
   exact SeqAt.notIn_listAt f p1 hf1 ⟨.bl _,H,I,rfl,by rw [hf2];exact k μ H _ Stp.refl R0 (by simp only [RepD])⟩
  ·cases e
 | _=>exact zaf e
end
end IT
namespace PySem
open Sem (wp)
open Builtin
theorem zce:fillsNumberSlot (.type "tuple") "mul"=pure false:=
 fillsNumberSlot_seq (id:="tuple.__mul__") (r:=some (.builtin "tuple.__rmul__")) F.slot_tuple_mul.lookup (by decide +kernel) F.slot_tuple_rmul.lookup (by decide +kernel)
theorem zd4:seqRepeat? (.type "tuple")=pure (some (.builtin "tuple.__mul__")):=by
 unfold seqRepeat?
 rw [seqSlot_of (T:="tuple") (name:="__mul__") (id:="tuple.__mul__") F.slot_tuple_mul.lookup (by decide +kernel),seqSlot_of (T:="tuple") (name:="__rmul__") (id:="tuple.__rmul__") F.slot_tuple_rmul.lookup (by decide +kernel)]
 rfl
theorem zfm (a:Int) (t:Tok) (l:Addr) (items:Array Value) (n:Nat) (dd:Option Addr) (sl:Array (Option Value)) :
  Meets (Builtin.«int.__rmul__» ⟨[.int a t,.ref l],[]⟩) (λ_ R s=>s.heap.get? l=some { cls:=.type "tuple",dict:=dd,data:=.seq items n,slots:=sl }/\R (.ok (.ret Value.notImplemented)) s):=
 .of_wp λprog w A R s h=>by obtain ⟨hp,g,d,tk,os⟩:=s;obtain ⟨hl,h⟩:=h;wp_walk;exact ⟨_,rfl,h⟩
theorem zeU (t:Tok) (l:Addr) (items:Array Value) (n:Nat) (dd:Option Addr) (sl:Array (Option Value)) :
  Meets (Builtin.«tuple.__mul__» ⟨[.ref l,.int 1 t],[]⟩) (λ_ R s=>s.heap.get? l=some { cls:=.type "tuple",dict:=dd,data:=.seq items n,slots:=sl }/\R (.ok (.ret (.ref l))) s):=
 .of_wp λprog w A R s h=>by obtain ⟨hp,g,d,tk,os⟩:=s;obtain ⟨hl,h⟩:=h;wp_walk;exact ⟨_,rfl,h⟩
theorem zeW (t:Tok) (l:Addr) (items:Array Value) (n:Nat) (dd:Option Addr) (sl:Array (Option Value)) (hc:items.isEmpty=false) :
  Meets (Builtin.«tuple.__mul__» ⟨[.ref l,.int 0 t],[]⟩) (λ_ R s=>s.heap.get? l=some { cls:=.type "tuple",dict:=dd,data:=.seq items n,slots:=sl }/\R (.ok (.ret (.ref s.heap.objs.size))) { s with heap:=s.heap.push { cls:=.type "tuple",data:=.seq #[] } }):=
 .of_wp λprog w A R s h=>by obtain ⟨hp,g,d,tk,os⟩:=s;obtain ⟨hl,h⟩:=h;wp_walk;exact ⟨_,rfl,h⟩
theorem zb5 (items:Array Value):∀ (m:Nat) (acc:Array Value),((List.replicate m items).foldl (·++·) acc).toList=acc.toList++(List.replicate m items.toList).flatten
 | 0,acc=>by simp
 | m+1,acc=>by rw [List.replicate_succ,List.foldl_cons,zb5 items m,List.replicate_succ,List.flatten_cons,Array.toList_append,List.append_assoc]
theorem zh3 (items:Array Value) (m:Nat):((List.replicate m items).foldl (·++·) #[]).size=items.size*m:=by
 rw [<-Array.length_toList,zb5]
 induction m with
 | zero=>simp
 | succ m ih=>
  rw [List.replicate_succ,List.flatten_cons,<-List.append_assoc]
  simp only [List.length_append,List.nil_append] at ih ⊢
  rw [Array.length_toList,Nat.mul_succ]
  omega
theorem zfO (k:Int) (t:Tok) (l:Addr) (items:Array Value) (n:Nat) (dd:Option Addr) (sl:Array (Option Value)) (hc:items.isEmpty=false) (h1:1<k) (h2:k<=16777216) (h3:items.size*k.toNat<=sizeLine) :
  Meets (Builtin.«tuple.__mul__» ⟨[.ref l,.int k t],[]⟩) (λ_ R s=>s.heap.get? l=some { cls:=.type "tuple",dict:=dd,data:=.seq items n,slots:=sl }/\R (.ok (.ret (.ref s.heap.objs.size))) { s with heap:=s.heap.push { cls:=.type "tuple",data:=.seq ((List.replicate k.toNat items).foldl (·++·) #[]) } }):=
 .of_wp λprog w A R s h=>by
  obtain ⟨hp,g,d,tk,os⟩:=s
  obtain ⟨hl,h⟩:=h
  have hk:(items.size:Int)*k=((items.size*k.toNat:Nat):Int):=by
   rw [Int.natCast_mul,Int.toNat_of_nonneg (by omega)]
  rw [sizeLine_eq] at h3
  have c1:(decide (k < -(2 ^ 63))||decide (k ≥ 2 ^ 63))=false:=by simp;omega
  have c2:(items.isEmpty||k==1)=false:=by rw [hc];simp;omega
  have c3:(decide (k<=0)||items.isEmpty)=false:=by rw [hc];simp;omega
  have c4:¬ ((items.size:Int)*k>(2 ^ 63-1) / 8):=by rw [hk];omega
  have c5:Tuple.tupleTooMany ((items.size:Int)*k)=false:=by
   rw [hk];unfold Tuple.tupleTooMany;rw [sizeLine_eq];exact decide_eq_false (by omega)
  wp_walk
  rw [if_neg (by rw [c1];decide)]
  wp_walk
  dsimp only
  rw [if_neg (by rw [c2];decide)]
  rw [if_neg (by rw [c3];decide)]
  rw [if_neg c4]
  rw [if_neg (by rw [c5];decide)]
  wp_walk
  rw [if_neg (by rw [zh3,sizeLine_eq];omega)]
  wp_walk
  exact ⟨_,rfl,h⟩
end PySem
namespace IT
open PySem PySem.Spec L2
section
variable {X:Cx}
theorem Vals.rep (r:Vals xs us):∀ m:Nat,Vals (List.replicate m xs).flatten (List.replicate m us).flatten
 | 0=>.nil
 | m+1=>by rw [List.replicate_succ,List.replicate_succ,List.flatten_cons,List.flatten_cons];exact r.append (Vals.rep r m)
theorem RepDs.rep (q:RepDs K A H xs vs):∀ m:Nat,RepDs K A H (List.replicate m xs).flatten (List.replicate m vs).flatten
 | 0=>.nil
 | m+1=>by rw [List.replicate_succ,List.replicate_succ,List.flatten_cons,List.flatten_cons];exact q.app (RepDs.rep q m)
theorem zlC {α:Type} (xs:List α):∀ m:Nat,(List.replicate m xs).flatten.length=xs.length*m
 | 0=>by simp
 | m+1=>by rw [List.replicate_succ,List.flatten_cons,List.length_append,zlC xs m,Nat.mul_succ,Nat.add_comm]
theorem zhh:OpR X (binaryOp .Mult) (λx y H Q=>∃ p k xs,x=.ref p/\y=.int k/\SqT X.K H p xs/\xs≠[]/\((k=1/\Q (.ref p) H)\/(k=0/\∀ r,H r=none->Q (.ref r) (upd H r (.tup []))) ∨
  (1<k/\k<=16777216/\xs.length*k.toNat<=sizeLine/\∀ r,H r=none->Q (.ref r) (upd H r (.tup (List.replicate k.toNat xs).flatten))))):=by
 intro pins s σ H x y v u Q I rx ry q
 obtain ⟨p,k,xs,rfl,rfl,hq,hn,q⟩:=q
 cases rx
 obtain ⟨t,rfl⟩:=ry
 obtain ⟨its,r,pt,hz⟩:=I.tuple hq
 have hl:=r.length
 obtain ⟨⟨cls,dd,data,sl⟩,ho,hc,n,hd⟩:=id pt
 simp only at hc hd
 subst hc hd
 have hne:its.toArray.isEmpty=false:=by
  cases its with
  | nil=>cases xs with
   | nil=>exact absurd rfl hn
   | cons _ _=>simp at hl
  | cons _ _=>simp
 refine wpAny_binaryOp_repeat_ref (T:="tuple") (U:="int") (by decide) ⟨_,ho,rfl⟩ (λs'=>typeIs_int s' k t) zce F.fills_int_mul F.slot_int_rmul zd4 F.slot_int_index.lookup
  (call_meets F.slot_int_rmul (typeIs_int s k t) F.entry_int_rmul (F.args_int_rmul_2 _ _) (zfm k t p its.toArray n dd sl)
   ⟨ho,rfl,⟨_,ho,rfl⟩,?_⟩)
 rcases q with ⟨rfl,q⟩ | ⟨rfl,q⟩ | ⟨k1,k2,k3,q⟩
 ·exact call_meets F.slot_tuple_mul ⟨_,ho,rfl⟩ F.entry_tuple_mul (F.args_tuple_mul_2 _ _) (zeU t p its.toArray n dd sl) ⟨ho,⟨.ref p,H,I,rfl,q⟩⟩
 ·refine call_meets F.slot_tuple_mul ⟨_,ho,rfl⟩ F.entry_tuple_mul (F.args_tuple_mul_2 _ _) (zeW t p its.toArray n dd sl hne) ⟨ho,?_⟩
  have hf:H s.heap.objs.size=none:=I.hok.fresh (Nat.le_refl _)
  refine ⟨.ref s.heap.objs.size,upd H s.heap.objs.size (.tup []),I.laid (t':=s.toks) (λb u e=>Heap.get?_push_of_some _ e) (Nat.le_refl _) ?_,rfl,q _ hf⟩
  exact ⟨Nat.zero_le _,[],.nil,zcw.new _ _⟩
 ·refine call_meets F.slot_tuple_mul ⟨_,ho,rfl⟩ F.entry_tuple_mul (F.args_tuple_mul_2 _ _) (zfO k t p its.toArray n dd sl hne k1 k2 (by rw [List.size_toArray,<-hl];exact k3)) ⟨ho,?_⟩
  have hf:H s.heap.objs.size=none:=I.hok.fresh (Nat.le_refl _)
  have e:(List.replicate k.toNat its.toArray).foldl (·++·) #[]=((List.replicate k.toNat its).flatten).toArray:=by
   apply Array.ext'
   rw [zb5]
   simp
  rw [e]
  refine ⟨.ref s.heap.objs.size,upd H s.heap.objs.size (.tup (List.replicate k.toNat xs).flatten),I.laid (t':=s.toks) (λb u e=>Heap.get?_push_of_some _ e) (Nat.le_refl _) ?_,rfl,q _ hf⟩
  exact ⟨by rw [zlC];exact k3,_,Vals.rep r _,zcw.new _ _⟩
theorem zqp:OpD X (binaryOp .Mult) (bop .mul):=by
 intro pins s σ H v u v' u' Q I rv ru q
 obtain ⟨μ,h,a,b,z,R0,qa,qb,e,k⟩:=q
 cases a with
 | int i=>
  cases b with
  | int j=>
   simp only [RdD,RepD] at qa qb
   change (if _=true then _ else _)=some _ at e
   split at e
   ·rename_i hf
    cases e
    refine zsd pins s σ H v u v' u' Q I rv ru ⟨i,j,qa,qb,?_,k μ H _ Stp.refl R0 (by simp only [RepD])⟩
    rw [Bool.or_eq_true] at hf
    rcases hf with hf | hf
    ·simp only [zgF,Bool.and_eq_true] at hf
     exact .inl ⟨of_decide_eq_true hf.1,of_decide_eq_true hf.2⟩
    ·simp only [zgF,Bool.and_eq_true] at hf
     exact .inr ⟨of_decide_eq_true hf.1,of_decide_eq_true hf.2⟩
   ·cases e
  | _=>exact zaf e
 | tup xs=>
  cases b with
  | int j=>
   simp only [RdD,RepD] at qa qb
   obtain ⟨p,vs,rfl,q1,z1⟩:=qa
   have l1:=z1.length
   change (if _=true then _ else _)=some _ at e
   split at e
   ·cases e
   ·rename_i hne
    cases e
    simp only [Bool.or_eq_true,Bool.not_eq_true',not_or,decide_eq_true_eq] at hne
    obtain ⟨⟨⟨n1,n2⟩,n3⟩,n4⟩:=hne
    have n4:fit (xs.length*j.toNat)=true:=by simpa using n4
    have n4:xs.length*j.toNat<=sizeLine:=of_decide_eq_true n4
    have hn:vs≠[]:=by
     rintro rfl
     cases xs with
     | nil=>simp at n1
     | cons _ _=>simp at l1
    by_cases h0:j=0
    ·subst h0
     refine zhh pins s σ H _ u v' u' Q I rv ru ⟨p,0,vs,rfl,qb,q1,hn,.inr (.inl ⟨rfl,λr hr=>?_⟩)⟩
     have s2:Stp μ h H μ h (upd H r (.tup [])):=Stp.fresh hr
     refine k μ _ (.ref r) s2 (R0.fresh hr) ?_
     simp only [RepD]
     exact ⟨r,[],rfl,SqT.of zaj,.nil⟩
    ·by_cases h1:j=1
     ·subst h1
      refine zhh pins s σ H _ u v' u' Q I rv ru ⟨p,1,vs,rfl,qb,q1,hn,.inl ⟨rfl,k μ H _ Stp.refl R0 ?_⟩⟩
      simp only [RepD]
      rw [show (List.replicate (1:Int).toNat xs).flatten=xs from by simp]
      exact ⟨p,vs,rfl,q1,z1⟩
     ·refine zhh pins s σ H _ u v' u' Q I rv ru ⟨p,j,vs,rfl,qb,q1,hn,.inr (.inr ⟨by omega,by omega,by rw [<-l1];exact n4,λr hr=>?_⟩)⟩
      have s2:Stp μ h H μ h (upd H r (.tup (List.replicate j.toNat vs).flatten)):=Stp.fresh hr
      refine k μ _ (.ref r) s2 (R0.fresh hr) ?_
      simp only [RepD]
      exact ⟨r,_,rfl,SqT.of zaj,RepDs.stp s2 R0 (RepDs.rep z1 _)⟩
  | _=>exact zaf e
 | _=>cases b<;>exact zaf e
theorem zil (q:RdD K A0 H a v):decide (v=.non)=zjB a:=by
 cases a with
 | non=>simp only [RdD,RepD] at q;subst q;rfl
 | bl b=>simp only [RdD,RepD] at q;subst q;rfl
 | int b=>simp only [RdD,RepD] at q;subst q;rfl
 | str b=>simp only [RdD,RepD] at q;subst q;rfl
 | tup b=>simp only [RdD,RepD] at q;obtain ⟨p,vs,rfl,_⟩:=q;rfl
 | lst b=>obtain ⟨p,vs,rfl,_⟩:=q;rfl
theorem zoQ:OpD X (compareOp .Is) (cop .isN):=by
 intro pins s σ H v u v' u' Q I rv ru q
 obtain ⟨μ,h,a,b,z,R0,qa,qb,e,k⟩:=q
 cases b with
 | non=>
  simp only [RdD,RepD] at qb
  replace e:=Option.some.inj e
  subst e
  exact zsc pins s σ H v u v' u' Q I rv ru ⟨qb,by rw [zil qa];exact k μ H _ Stp.refl R0 (by simp only [RepD])⟩
 | _=>cases a<;>exact zaf e
theorem zjs:OpD X (compareOp .IsNot) (cop .isnotN):=by
 intro pins s σ H v u v' u' Q I rv ru q
 obtain ⟨μ,h,a,b,z,R0,qa,qb,e,k⟩:=q
 cases b with
 | non=>
  simp only [RdD,RepD] at qb
  replace e:=Option.some.inj e
  subst e
  exact zpB pins s σ H v u v' u' Q I rv ru ⟨qb,by rw [zil qa];exact k μ H _ Stp.refl R0 (by simp only [RepD])⟩
 | _=>cases a<;>exact zaf e
theorem zkK {α:Type} {xs:List α} {i:Int} {x:α} (e:at' xs i=some x):∃ j,ixN xs.length i=some j/\xs[j]?=some x:=by
 unfold at' at e
 cases q:ixn xs.length i with
 | none=>rw [q] at e;cases e
 | some j=>rw [q] at e;exact ⟨j,q,e⟩
theorem ix':IxR X (λv u H Q=>∃ μ h a b z,Rep X.K μ h H/\RdD X.K (Live μ h) H a v/\RdD X.K (Live μ h) H b u/\idxD a b=some z/\∀ μ' H' w,Stp μ h H μ' h H'->Rep X.K μ' h H'->RepD X.K (Live μ' h) H' z w->Q w H'):=by
 intro value slice pins s σ H v u v' u' Q I rv ru q hs
 obtain ⟨μ,h,a,b,z,R0,qa,qb,e,k⟩:=q
 cases a with
 | tup xs=>
  cases b with
  | int i=>
   simp only [RdD,RepD] at qa qb
   obtain ⟨p,vs,rfl,q1,z1⟩:=qa
   obtain ⟨j,e1,e2⟩:=zkK (show at' xs i=some z from e)
   obtain ⟨w,e3,qw⟩:=z1.get e2
   refine zqT value slice pins s σ H _ u v' u' Q I rv ru ⟨p,vs,i,w,rfl,qb,q1,?_,k μ H w Stp.refl R0 qw⟩ hs
   unfold atI
   rw [<-z1.length,e1]
   exact e3
  | _=>exact zaf e
 | lst xs=>
  cases b with
  | int i=>
   simp only [RdD,RepD] at qb
   obtain ⟨p,vs,rfl,q1,z1⟩:=qa
   obtain ⟨j,e1,e2⟩:=zkK (show at' xs i=some z from e)
   obtain ⟨w,e3,qw⟩:=z1.get e2
   refine zkN value slice pins s σ H _ u v' u' Q I rv ru ⟨p,vs,i,w,rfl,qb,q1,?_,k μ H w Stp.refl R0 qw⟩ hs
   unfold atI
   rw [<-z1.length,e1]
   exact e3
  | _=>exact zaf e
 | _=>exact zaf e
theorem zrZ (ha:IE X a f) (hb:IE X b g) (hs:zc0 b):IE X (.Subscript a b pos) (λσ=>bnd (f σ) λx=>bnd (g σ) λy=>mD idxD x y):=by
 refine PE.imp (zm7 ix' ha hb hs) λσ H Q q=>?_
 obtain ⟨μ,h,env,R0,re,r,h',e,k⟩:=q
 simp only [mD,zaa,zab,zaE] at e
 obtain ⟨x,h1,e1,y,h2,e2,dx,h3,e3,dy,h4,e4,z,h5,⟨e5,rfl⟩,rfl,rfl⟩:=e
 refine ⟨μ,h,env,R0,re,x,h1,e1,λμ1 H1 v s1 R1 q1=>⟨μ1,h1,env,R1,re.stp s1 R0,y,h2,e2,λμ2 H2 u s2 R2 q2=>?_⟩⟩
 obtain ⟨rfl,zx⟩:=zbK R2 (q1.stp s2 R1) e3
 obtain ⟨rfl,zy⟩:=zbK R2 q2 e4
 exact ⟨μ2,_,dx,dy,z,R2,zx,zy,e5,λμ3 H3 w s3 R3 q3=>k μ3 H3 w ((s1.trans s2).trans s3) R3 q3⟩
end
end IT
namespace HT
open PySem PyProof.Rows
section
variable {prog:Program} {w:World} {A:Around} {E:Value->Shared->Prop} {s:Shared}
theorem getItem_tuple_whole {lo hi:Option Int} (ht:IsTup s.heap t items) (hs:s.heap.IsSliceOf sl vl vu .none) (pl:IsPart vl lo) (pu:IsPart vu hi)
  (hw:sIx items.size 0 lo=0/\sIx items.size items.size hi=items.size) (h:Q (.ref t) s):wpAny (model prog w) A (getItem (.ref t) (.ref sl)) Q E s:=by
 obtain ⟨os,hos,hcs,hds⟩:=id hs
 have hTs:s.TypeIs (.ref sl) "slice":=⟨os,hos,hcs⟩
 unfold getItem
 try with_reducible refine wpAny_holding ?_
 first | refine wpAny_bind (wpAny_pure ?_) | skip
 refine wpAny_bind (wpAny_sequenceKey ht.typeIs (by decide) ?_)
 refine wpAny_bind (wpAny_callSpecial?_slot (name:=Str.ofString "__getitem__") ht.typeIs PyProof.Rows.slot_tuple_getitem
  (wpAny_call_entry PyProof.Rows.slot_tuple_getitem ht.typeIs entry_tuple_getitem ?_ (args_tuple_getitem _ _)))
 show wpAny _ _ (Builtin.Tuple.tupleItemsOf (.ref t) >>= _) _ _ s
 refine wpAny_bind (tupleItemsOf_ ht ?_)
 refine wpAny_bind (wpAny_typeOf hTs ?_)
 rw [if_pos (by decide)]
 refine wpAny_bind (zbt hs pl pu ?_)
 have hyes:(((sIx items.size 0 lo:Nat):Int)==0&&(1:Int)==1&&(sIx items.size items.size hi-sIx items.size 0 lo)==items.size)=true:=by
  rw [hw.1,hw.2]
  simp
 show wpAny _ _ (if (((sIx items.size 0 lo:Nat):Int)==0&&(1:Int)==1&&(sIx items.size items.size hi-sIx items.size 0 lo)==items.size)=true then _ else _) _ _ s
 rw [if_pos hyes]
 unfold Builtin.Tuple.tupleIsExact
 refine wpAny_bind (wpAny_bind (wpAny_typeOf ht.typeIs (wpAny_pure ?_)))
 rw [if_pos (by decide)]
 first
  | exact wpAny_bind (wpAny_rule (wpAny_pure ⟨_,rfl,wpAny_pure h⟩))
  | exact wpAny_bind (wpAny_rule (wpAny_bind (wpAny_pure (wpAny_pure ⟨_,rfl,wpAny_pure h⟩))))
  | exact wpAny_bind (wpAny_rule (wpAny_bind (wpAny_pure ⟨_,rfl,wpAny_pure h⟩)))
end
end HT
namespace IT
open PySem PySem.Spec L2
section
variable {X:Cx}
theorem zpj:SlR X (λx lo hi H Q=>∃ a xs,x=.ref a/\SqT X.K H a xs/\(HT.sIx xs.length 0 lo=0/\HT.sIx xs.length xs.length hi=xs.length)/\Q (.ref a) H):=by
 intro pins s σ H x v vl vu lo hi sl Q I rx hs pl pu h
 obtain ⟨a,xs,rfl,hx,hw,q⟩:=h
 cases rx
 obtain ⟨its,r,ht,hz⟩:=I.tuple hx
 have hlen:its.toArray.size=xs.length:=by rw [List.size_toArray];exact r.length.symm
 refine ⟨"tuple",_,PyProof.Rows.slot_tuple_getitem.lookup,ht.typeIs,?_⟩
 exact HT.getItem_tuple_whole ht hs pl pu (by rw [hlen];exact hw) ⟨.ref a,H,I,rfl,q⟩
theorem zh6 (n d:Nat) (o:Option Int):sIx n d o=HT.sIx n d o:=by cases o<;>rfl
theorem RepDs.cut (q:RepDs K A H xs vs) (lo hi:Option Int):RepDs K A H (IT.cut xs lo hi) (cutV vs lo hi):=by
 unfold IT.cut cutV
 rw [zh6,zh6,q.length]
 exact (q.drop _).take _
theorem sl':SlR X (λv lo hi H Q=>∃ μ h a z,Rep X.K μ h H/\RdD X.K (Live μ h) H a v/\cutD a lo hi=some z/\∀ μ' H' w,Stp μ h H μ' h H'->Rep X.K μ' h H'->RepD X.K (Live μ' h) H' z w->Q w H'):=by
 intro pins s σ H x v vl vu lo hi sl Q I rx hs pl pu q
 obtain ⟨μ,h,a,z,R0,qa,e,k⟩:=q
 cases a with
 | tup xs=>
  simp only [RdD,RepD] at qa
  obtain ⟨p,vs,rfl,q1,z1⟩:=qa
  cases e
  by_cases hw:HT.sIx vs.length 0 lo=0/\HT.sIx vs.length vs.length hi=vs.length
  ·refine zpj pins s σ H _ v vl vu lo hi sl Q I rx hs pl pu ⟨p,vs,rfl,q1,hw,k μ H _ Stp.refl R0 ?_⟩
   simp only [RepD]
   refine ⟨p,vs,rfl,q1,?_⟩
   have e2:cut xs lo hi=xs:=by
    unfold cut
    rw [zh6,zh6,z1.length,hw.1,hw.2,List.drop_zero,Nat.sub_zero,<-z1.length,List.take_length]
   rw [e2]
   exact z1
  ·refine zqL pins s σ H _ v vl vu lo hi sl Q I rx hs pl pu ⟨p,vs,rfl,q1,hw,λr hr=>?_⟩
   have s2:Stp μ h H μ h (upd H r (.tup (cutV vs lo hi))):=Stp.fresh hr
   refine k μ _ (.ref r) s2 (R0.fresh hr) ?_
   simp only [RepD]
   exact ⟨r,cutV vs lo hi,rfl,SqT.of zaj,RepDs.stp s2 R0 (z1.cut lo hi)⟩
 | _=>cases e
inductive tO (K:PySem.W.Frag) (f:IT.Env->M R) (σ:St) (H:Hp) (Q:Option Int->Hp->Prop):Prop where
 | mk (μ:List Addr) (h:Sto) (env:IT.Env) (R0:Rep K μ h H) (re:RepE K μ h H env σ) (d:D) (h':Sto) (o:Option Int) (e:f env h=some (.d d,h')) (ep:part d=some o) (k:∀ μ' H',Stp μ h H μ' h' H'->Rep K μ' h' H'->Q o H')
theorem PO.imp (h:PO X oe t) (i:∀ σ H Q,t' σ H Q->t σ H Q):PO X oe t':=λpins s σ H Q I q=>h pins s σ H Q I (i σ H Q q)
theorem zqA:PO X none (tO X.K λ_=>ok (.d .non)):=by
 refine PO.imp zoS λσ H Q q0=>?_
 obtain ⟨μ,h,env,R0,re,d,h',o,e,ep,k⟩:=q0
 simp only [zab,R.d.injEq] at e
 obtain ⟨rfl,rfl⟩:=e
 simp only [part,Option.some.injEq] at ep
 subst ep
 exact k μ H Stp.refl R0
theorem zmw (h:IE X e f):PO X (some e) (tO X.K f):=by
 intro pins s σ H Q I ⟨μ,h0,env,R0,re,d,h',o,ef,ep,k⟩
 rw [evalPart_some]
 refine thn (h pins s σ H (λx H1=>(∃ i,x=.int i/\Q (some i) H1)\/(x=.non/\Q none H1)) I ⟨μ,h0,env,R0,re,.d d,h',ef,λμ1 H1 v s1 R1 q1=>?_⟩) λu s1 ⟨x,H1,I1,r1,q1⟩=>?_
 ·cases d with
  | int i=>
   simp only [RepR,RepD] at q1
   simp only [part,Option.some.injEq] at ep
   subst ep
   exact .inl ⟨i,q1,k μ1 H1 s1 R1⟩
  | non=>
   simp only [RepR,RepD] at q1
   simp only [part,Option.some.injEq] at ep
   subst ep
   exact .inr ⟨q1,k μ1 H1 s1 R1⟩
  | _=>simp [part] at ep
 ·rcases q1 with ⟨i,rfl,q⟩ | ⟨rfl,q⟩
  ·obtain ⟨t,rfl⟩:=r1
   exact ⟨some i,H1,I1,.int i t,q⟩
  ·cases r1
   exact ⟨none,H1,I1,.none,q⟩
theorem zs4 (ha:IE X a f) (hl:PO X lo (tO X.K g)) (hu:PO X hi (tO X.K k)):IE X (.Subscript a (.Slice lo hi none p2) pos)
  (λσ=>bnd (f σ) λx=>bnd (g σ) λl=>bnd (k σ) λu=>bnd (rd x) λx=>bnd (rd l) λl=>bnd (rd u) λu=>bnd (opt (sliD x l u)) λz=>ok (.d z)):=by
 refine PE.imp (zmE sl' ha hl hu) λσ H Q q0=>?_
 obtain ⟨μ,h,env,R0,re,r,h',e,kk⟩:=q0
 simp only [zaa,zab,zaE] at e
 obtain ⟨x,h1,e1,l,h2,e2,u,h3,e3,dx,h4,e4,dl,h5,e5,du,h6,e6,z,h7,⟨e7,rfl⟩,rfl,rfl⟩:=e
 (delta sliD at e7;(try dsimp only at e7))
 have isd:∀ (r:R) (d:D) (h h':Sto),rd r h=some (d,h')->∀ o,part d=some o->r=.d d/\h'=h:=by
  intro r d h h' e o ep
  cases r with
  | d x=>simp only [rd,zab] at e;exact ⟨by rw [e.1],e.2.symm⟩
  | loc l=>
   obtain ⟨o,_,_,rfl,_⟩:=zeK e
   simp [part] at ep
 cases pl:part dl with
 | none=>rw [pl] at e7;cases e7
 | some lo'=>
  cases pu:part du with
  | none=>rw [pl,pu] at e7;cases e7
  | some hi'=>
   rw [pl,pu] at e7
   replace e7:cutD dx lo' hi'=some z:=e7
   obtain ⟨rfl,hh5⟩:=isd l dl h4 h5 e5 lo' pl
   subst hh5
   obtain ⟨rfl,hh6⟩:=isd u du _ h6 e6 hi' pu
   subst hh6
   refine ⟨μ,h,env,R0,re,x,h1,e1,λμ1 H1 v s1 R1 q1=>⟨μ1,h1,env,R1,re.stp s1 R0,dl,h2,lo',e2,pl,λμ2 H2 s2 R2=>⟨μ2,h2,env,R2,re.stp (s1.trans s2) R0,du,h3,hi',e3,pu,λμ3 H3 s3 R3=>?_⟩⟩⟩
   obtain ⟨rfl,zx⟩:=zbK R3 ((q1.stp s2 R1).stp s3 R2) e4
   exact ⟨μ3,_,dx,z,R3,zx,e7,λμ4 H4 w s4 R4 q4=>kk μ4 H4 w (((s1.trans s2).trans s3).trans s4) R4 q4⟩
inductive zos (K:PySem.W.Frag) (g:List D->Option D) (vs:List V) (H:Hp) (Q:VK):Prop where
 | mk (μ:List Addr) (h:Sto) (ds:List D) (z:D) (R0:Rep K μ h H) (pr:Paired (RdD K (Live μ h) H) ds vs) (e:g ds=some z) (k:∀ μ' H' w,Stp μ h H μ' h H'->Rep K μ' h H'->RepD K (Live μ' h) H' z w->Q w H')
noncomputable def zqy (X:Cx) (f:Value) (g:List D->Option D):Prop:=zgw X f λvs H Q=>zos X.K g vs H Q
theorem zeX
  (q:tE X.K (λσ=>bnd (fs σ) λrs=>bnd (rds rs) λds=>bnd (opt (biD t ds)) λz=>ok (.d z)) σ H Q) :
  tAs X.K fs σ H λvs H1=>zos X.K (biD t) vs H1 Q:=by
 obtain ⟨μ,h,env,R0,re,r,h',e,k⟩:=q
 simp only [zaa,zab,zaE] at e
 obtain ⟨rs,h1,e1,ds,h2,e2,z,h3,⟨e3,rfl⟩,rfl,rfl⟩:=e
 refine ⟨μ,h,env,R0,re,rs,h1,e1,λμ1 H1 vs s1 R1 q1=>?_⟩
 obtain ⟨rfl,zs⟩:=zoh R1 q1 e2
 exact ⟨μ1,_,ds,z,R1,zs,e3,λμ2 H2 w s2 R2 q2=>k μ2 H2 w (s1.trans s2) R2 q2⟩
theorem zmm:zqy X (.builtin "len") (biD .len):=by
 intro pins s σ H vs us Q I r q
 obtain ⟨μ,h,ds,z,R0,pr,e,k⟩:=q
 cases pr with
 | nil=>exact zaf e
 | @cons d v ds vs qd pr=>
  cases pr with
  | cons _ _=>cases d<;>exact zaf e
  | nil=>
   cases d with
   | tup xs=>
    simp only [RdD,RepD] at qd
    obtain ⟨p,ws,rfl,q1,z1⟩:=qd
    replace e:=Option.some.inj e
    subst e
    exact zfq pins s σ H _ us Q I r ⟨.ref p,ws.length,rfl,.inr ⟨ws,q1,rfl⟩,k μ H _ Stp.refl R0 (by simp only [RepD];rw [z1.length])⟩
   | lst xs=>
    obtain ⟨p,ws,rfl,q1,z1⟩:=qd
    replace e:=Option.some.inj e
    subst e
    exact zfq pins s σ H _ us Q I r ⟨.ref p,ws.length,rfl,.inl ⟨ws,q1,rfl⟩,k μ H _ Stp.refl R0 (by simp only [RepD];rw [z1.length])⟩
   | _=>exact zaf e
theorem zhd:zqy X (.type "tuple") (biD .tuple):=by
 intro pins s σ H vs us Q I r q
 obtain ⟨μ,h,ds,z,R0,pr,e,k⟩:=q
 cases pr with
 | nil=>exact zaf e
 | @cons d v ds vs qd pr=>
  cases pr with
  | cons _ _=>cases d<;>exact zaf e
  | nil=>
   cases d with
   | lst xs=>
    obtain ⟨p,ws,rfl,q1,z1⟩:=qd
    replace e:=Option.some.inj e
    subst e
    refine zff pins s σ H _ us Q I r ⟨p,ws,rfl,.inl ⟨q1,λl hl=>?_⟩⟩
    have s2:Stp μ h H μ h (upd H l (.tup ws)):=Stp.fresh hl
    refine k μ _ (.ref l) s2 (R0.fresh hl) ?_
    simp only [RepD]
    exact ⟨l,ws,rfl,SqT.of zaj,RepDs.stp s2 R0 z1⟩
   | _=>exact zaf e
end
section
variable {X:Cx}
theorem Rep.placeL (R0:Rep K μ h H) {l:Nat} {o:Ob} (e:μ[l]?=some a) (ho:h[l]?=some o) (il:o.isL=true):∃ vs,H a=some (.lst vs)/\RepDs K (Live μ h) H o.items vs:=
 (R0.obj l a o e ho).isL il
theorem Rep.placeO (R0:Rep K μ h H) {l:Nat} (e:μ[l]?=some a):∃ o,h[l]?=some o:=by
 have hl:l<h.length:=by rw [<-R0.len];exact (List.getElem?_eq_some_iff.mp e).1
 exact ⟨h[l],List.getElem?_eq_getElem hl⟩
theorem zj6 {f:IT.Env->M R} (ho:IE X o f) (ha:IA X (e::es) fs) (hname:name=("append":Str))
  (hbase:attributeBase o name X.env (eval o X.env)=eval o X.env)
  (hfew:((backTo cpos (starEach (e::es) X.env)).all (λx=>!x.1)&&(backToKw cpos (keywordEach [] X.env)).all (λx=>x.1.isSome)
   && decide ((e::es).length+([]:List Keyword).length+(if ([]:List Keyword).isEmpty then 0 else 1)<30))=true)
  (hline:(apos.endLine==cpos.line)=true) (hs:starEach (e::es) X.env=(false,eval e X.env)::starEach es X.env) (hplain:(backTo cpos (starEach es X.env)).any (·.1)=false) :
  IE X (.Call (.Attribute o name apos) (e::es) [] cpos) (λσ=>bnd (f σ) λx=>bnd (zdo x) λ_=>bnd (fs σ) λrs=>meth .append x rs):=by
 subst hname
 refine PE.imp (zm0 PySem.F.plainAttrs_list PySem.F.slot_list_append PySem.F.type_list_append zlo ho ha hbase hfew hline hs hplain) λσ H Q q0=>?_
 obtain ⟨μ,h,env,R0,re,r,h',e,k⟩:=q0
 simp only [zaa] at e
 obtain ⟨x,h1,e1,_,h1',e0,rs,h2,e2,e3⟩:=e
 obtain ⟨l,o1,rfl,ho1,il1,rfl⟩:=zcZ e0
 refine ⟨μ,h,env,R0,re,.loc l,_,e1,λμ1 H1 v s1 R1 q1=>?_⟩
 ·skip
  obtain ⟨a,ea,rfl⟩:=q1
  obtain ⟨vs1,hH1,z1⟩:=R1.placeL ea ho1 il1
  refine ⟨.inl ⟨rfl,vs1,.inl (.inl hH1)⟩,μ1,_,env,R1,re.stp s1 R0,rs,h2,e2,λμ2 H2 ws s2 R2 q2=>?_⟩
  cases q2 with
  | nil=>exact zaf e3
  | @cons rr w rs' ws' qr q2=>
   cases q2 with
   | cons _ _=>exact zaf e3
   | nil=>
    (delta meth at e3;(try dsimp only at e3);simp only [zaa] at e3)
    obtain ⟨d,h3,e4,e5⟩:=e3
    obtain ⟨s3,R3,zd⟩:=zmC R2 qr e4
    have ea2:=s2.pre l a ea
    split at e5
    ·rename_i xs hx
     split at e5
     ·rename_i hlen
      simp only [Option.some.injEq,Prod.mk.injEq] at e5
      obtain ⟨rfl,rfl⟩:=e5
      obtain ⟨vs3,hH3,z3⟩:=R3.placeL ea2 hx rfl
      have hlen':vs3.length<sizeLine:=by
       have:=z3.length
       have h4:xs.length<big:=of_decide_eq_true hlen
       have h5:big=sizeLine:=rfl
       simp only [Ob.items] at this
       omega
      refine ⟨a,vs3,w,rfl,rfl,hH3,hlen',?_⟩
      obtain ⟨s4,R4⟩:=write R3 ea2 hx (z3.app (RepDs.one zd))
      exact k μ2 _ .non (((s1.trans s2).trans s3).trans s4) R4 (by simp only [RepR,RepD])
     ·cases e5
    ·cases e5
noncomputable def spF (K:PySem.W.Frag) (np:Nat) (m:List R->M R):Sp:=λvs H Q _=>vs.length=np/\∃ μ h rs,Rep K μ h H/\za1 K μ h H rs vs/\Post K μ h H (RepR K) (m rs h) Q
structure zrP (X:Cx) (n:Nat) (x:Str) (np:Nat) (dfl:List D) (m:List R->M R):Prop where
 ex:∃ f fd ps dvs,FnOk X.prog X.w X.K X.mg X.base CX0 n f fd ps (spF X.K np m)/\X.mg x=some (.ref f)/\PySem.W.keepIn X.K (.ref f)=true/\(∀ A H,RepDs X.K A H dfl dvs)/\(∀ j,j<=dfl.length->∃ ds,zb8 X.K fd ps ds/\Vals (dvs.drop j) ds)
 fill:∀ rs,m rs=m (zaM np dfl rs)
 len:∀ rs h p,m rs h=some p->(zaM np dfl rs).length=np
theorem zcS (h:rs.length+dfl.length<np):zaM np dfl rs=rs:=by unfold zaM;rw [if_pos h]
theorem zcM (h:¬ rs.length+dfl.length<np):zaM np dfl rs=rs++(dfl.drop (rs.length+dfl.length-np)).map R.d:=by unfold zaM;rw [if_neg h]
theorem za1.app (a:za1 K μ h H rs vs) (b:za1 K μ h H ss ws):za1 K μ h H (rs++ss) (vs++ws):=by
 induction a with
 | nil=>exact b
 | cons q _ ih=>exact .cons q ih
theorem RepDs.rs:∀ {ds:List D} {vs:List V},RepDs K (Live μ h) H ds vs->za1 K μ h H (ds.map R.d) vs
 | [],vs,q=>by simp only [RepDs] at q;subst q;exact .nil
 | x::xs,vs,q=>by
  simp only [RepDs] at q
  obtain ⟨v,r,rfl,h1,h2⟩:=q
  exact .cons h1 h2.rs
theorem zqm {p pos:Pos} {fs:IT.Env->M (List R)} (hF:zrP X n x np dfl m) (hr:Room n X.A) (hg:Gl X x) (ha:IA X (e::es) fs) (hf:∀ σ h rs h',fs σ h=some (rs,h')->rs.length=(e::es).length)
  (hdb:(x==("__debug__":Str))=false) (he:starEach (e::es) X.env=(false,eval e X.env)::starEach es X.env) (hpl:(backTo pos (starEach es X.env)).any (·.1)=false) :
  IE X (.Call (.Name x p) (e::es) [] pos) (λσ=>bnd (fs σ) λrs=>m rs):=by
 obtain ⟨f,fd,ps,dvs,F,hm,hk,hd,hb⟩:=hF.ex
 by_cases hj:(e::es).length+dfl.length-np<=dfl.length/\¬ (e::es).length+dfl.length<np
 ·obtain ⟨hj,hj2⟩:=hj
  obtain ⟨ds,hb,hv⟩:=hb _ hj
  refine PE.imp (zlc F hr hg hm hk hb hv zmn ha hdb he hpl) λσ H Q q0=>?_
  obtain ⟨μ,h,env,R0,re,r,h',ee,k⟩:=q0
  simp only [zaa] at ee
  obtain ⟨rs,h1,e1,e2⟩:=ee
  refine ⟨μ,h,env,R0,re,rs,h1,e1,λμ1 H1 vs s1 R1 q1=>?_⟩
  have hlen:=hF.len _ _ _ e2
  rw [hF.fill rs] at e2
  have qq:za1 X.K μ1 h1 H1 (zaM np dfl rs) (vs++dvs.drop ((e::es).length+dfl.length-np)):=by
   rw [zcM (by rw [hf _ _ _ _ e1];exact hj2),hf _ _ _ _ e1]
   exact q1.app (RepDs.drop _ (hd _ _)).rs
  exact ⟨by rw [<-qq.length];exact hlen,μ1,h1,zaM np dfl rs,R1,qq,r,h',e2,λμ2 H2 v s2 R2 q2=>k μ2 H2 v (s1.trans s2) R2 q2⟩
 ·obtain ⟨ds,hb,hv⟩:=hb dfl.length (Nat.le_refl _)
  refine PE.imp (zlc F hr hg hm hk hb hv zmn ha hdb he hpl) λσ H Q q0=>?_
  obtain ⟨μ,h,env,R0,re,r,h',ee,k⟩:=q0
  simp only [zaa] at ee
  obtain ⟨rs,h1,e1,e2⟩:=ee
  refine ⟨μ,h,env,R0,re,rs,h1,e1,λμ1 H1 vs s1 R1 q1=>?_⟩
  exfalso
  have hlen:=hF.len _ _ _ e2
  have hrs:=hf _ _ _ _ e1
  by_cases hs:rs.length+dfl.length<np
  ·rw [zcS hs] at hlen
   omega
  ·rw [zcM hs] at hlen
   simp only [List.length_append,List.length_map,List.length_drop] at hlen
   omega
inductive tG (K:PySem.W.Frag) (t:Tg) (v:V) (σ:St) (H:Hp) (Q:St->Hp->Prop):Prop where
 | mk (μ:List Addr) (h:Sto) (env:IT.Env) (r:R) (env':IT.Env) (R0:Rep K μ h H) (re:RepE K μ h H env σ) (qr:RepR K μ h H r v) (e:zaN t r env h=some (env',h)) (k:∀ σ',RepE K μ h H env' σ'->Q σ' H)
inductive tGs (K:PySem.W.Frag) (ts:List Tg) (vs:List V) (σ:St) (H:Hp) (Q:St->Hp->Prop):Prop where
 | mk (μ:List Addr) (h:Sto) (env:IT.Env) (xs:List D) (env':IT.Env) (R0:Rep K μ h H) (re:RepE K μ h H env σ) (qr:RepDs K (Live μ h) H xs vs) (e:bindTs ts xs env h=some (env',h)) (k:∀ σ',RepE K μ h H env' σ'->Q σ' H)
theorem PG.imp (h:PG X tg t) (i:∀ v σ H Q,t' v σ H Q->t v σ H Q):PG X tg t':=λpins s σ H v u Q I r q=>h pins s σ H v u Q I r (i v σ H Q q)
theorem PGs.imp (h:PGs X tg t) (i:∀ v σ H Q,t' v σ H Q->t v σ H Q):PGs X tg t':=λpins s σ H v u Q I r q=>h pins s σ H v u Q I r (i v σ H Q q)
theorem zoU (hN:X.N.Nodup) (hi:X.N[i]?=some x) (hx:Loc X.env.scope x) (hf:X.fn x=true\/X.env.scope.names.lookup x=some .local):PG X (.Name x pos) (tG X.K (.name i)):=by
 refine PG.imp (zlh hN hi hx hf) λv σ H Q qW=>?_
 obtain ⟨μ,h,env,r,env',R0,re,qr,e,k⟩:=qW
 simp only [zaN,zab] at e
 obtain ⟨rfl,_⟩:=e
 exact k _ (re.set i qr)
theorem zqt:PGs X [] (tGs X.K []):=by
 refine PGs.imp zkG λvs σ H Q qW=>?_
 obtain ⟨μ,h,env,xs,env',R0,re,qx,e,k⟩:=qW
 cases xs with
 | nil=>
  simp only [RepDs] at qx
  simp only [bindTs,zab] at e
  obtain ⟨rfl,_⟩:=e
  exact ⟨qx,k σ re⟩
 | cons _ _=>exact zaf e
theorem za3:∀ (t:Tg) (r:R) (env env':IT.Env) (h h':Sto),zaN t r env h=some (env',h')->h'=h:=by
 intro t
 refine Tg.rec (motive_1:=λt=>∀ (r:R) (env env':IT.Env) (h h':Sto),zaN t r env h=some (env',h')->h'=h)
  (motive_2:=λts=>∀ (xs:List D) (env env':IT.Env) (h h':Sto),bindTs ts xs env h=some (env',h')->h'=h) ?_ ?_ ?_ ?_ t
 ·intro i r env env' h h' e
  simp only [zaN,zab] at e
  exact e.2.symm
 ·intro ts ih r env env' h h' e
  simp only [zaN,zaa] at e
  obtain ⟨d,h1,e1,e2⟩:=e
  have hh:h1=h:=by
   cases r with
   | d x=>simp only [rd,zab] at e1;exact e1.2.symm
   | loc l=>
    exact (zeK e1).choose_spec.2.2.2
  subst hh
  cases d with
  | tup xs=>exact ih xs env env' _ h' e2
  | _=>cases e2
 ·intro xs env env' h h' e
  cases xs with
  | nil=>simp only [bindTs,zab] at e;exact e.2.symm
  | cons _ _=>exact zaf e
 ·intro t ts iht ihts xs env env' h h' e
  cases xs with
  | nil=>exact zaf e
  | cons x xs=>
   simp only [bindTs,zaa] at e
   obtain ⟨env1,h1,e1,e2⟩:=e
   have:=iht _ _ _ _ _ e1
   subst this
   exact ihts _ _ _ _ _ e2
theorem zc8:∀ (ts:List Tg) (xs:List D) (env env':IT.Env) (h h':Sto),bindTs ts xs env h=some (env',h')->xs.length=ts.length
 | [],[],_,_,_,_,_=>rfl
 | [],_::_,_,_,_,_,e=>by exact zaf e
 | _::_,[],_,_,_,_,e=>by exact zaf e
 | t::ts,x::xs,env,env',h,h',e=>by
  simp only [bindTs,zaa] at e
  obtain ⟨env1,h2,e3,e4⟩:=e
  simp only [List.length_cons]
  rw [zc8 ts xs env1 env' h2 h' e4]
theorem zn4 (h1:PG X e (tG X.K t)) (h2:PGs X es (tGs X.K ts)) (hs:(assignEach (e::es) X.env).map (·.2)=assign e X.env::(assignEach es X.env).map (·.2)):PGs X (e::es) (tGs X.K (t::ts)):=by
 refine PGs.imp (zfG h1 h2 hs) λvs σ H Q qW=>?_
 obtain ⟨μ,h,env,xs,env',R0,re,qx,e,k⟩:=qW
 cases xs with
 | nil=>exact zaf e
 | cons x xs=>
  simp only [RepDs] at qx
  obtain ⟨v,r,rfl,q1,q2⟩:=qx
  simp only [bindTs,zaa] at e
  obtain ⟨env1,h1',e1,e2⟩:=e
  have:=za3 _ _ _ _ _ _ e1
  subst this
  refine ⟨v,r,rfl,μ,_,env,.d x,env1,R0,re,q1,e1,λσ1 re1=>⟨μ,_,env1,xs,env',R0,re1,q2,e2,k⟩⟩
theorem zsk (hc:X.calm=true) (h:PGs X es (tGs X.K ts)) (hl:es.length=ts.length) (hn:(assignEach es X.env).length=es.length) (hst:(assignEach es X.env).findIdx? (·.1)=none):PG X (.Tuple es n pos) (tG X.K (.tup ts)):=by
 refine PG.imp (zoz (n:=es.length) hc h hn hst) λv σ H Q qW=>?_
 obtain ⟨μ,h,env,r,env',R0,re,qr,e,k⟩:=qW
 simp only [zaN,zaa] at e
 obtain ⟨d,h1,e1,e2⟩:=e
 obtain ⟨rfl,zd⟩:=zbK R0 qr e1
 cases d with
 | tup xs=>
  simp only [RdD,RepD] at zd
  obtain ⟨a,vs,rfl,q1,z1⟩:=zd
  refine ⟨a,vs,rfl,q1,?_,μ,_,env,xs,env',R0,re,z1,e2,k⟩
  rw [<-z1.length,hl]
  exact zc8 _ _ _ _ _ _ e2
 | _=>cases e2
noncomputable def RepI (K:PySem.W.Frag) (μ:List Addr) (h:Sto) (H:Hp):Ite->V->Prop
 | .r r,v=>RepR K μ h H r v
 | .en i r,v=>∃ p w,v=.ref p/\H p=some (.tup [.int i,w])/\RepR K μ h H r w
inductive tGI (K:PySem.W.Frag) (t:Tg) (v:V) (σ:St) (H:Hp) (Q:St->Hp->Prop):Prop where
 | mk (μ:List Addr) (h:Sto) (env:IT.Env) (x:Ite) (env':IT.Env) (R0:Rep K μ h H) (re:RepE K μ h H env σ) (qx:RepI K μ h H x v) (e:zaD t x env h=some (env',h)) (k:∀ σ',RepE K μ h H env' σ'->Q σ' H)
inductive tGe (K:PySem.W.Frag) (a b:Tg) (vs:List V) (σ:St) (H:Hp) (Q:St->Hp->Prop):Prop where
 | mk (μ:List Addr) (h:Sto) (env:IT.Env) (i:Int) (r:R) (w:V) (env1 env':IT.Env) (R0:Rep K μ h H) (re:RepE K μ h H env σ) (ev:vs=[.int i,w]) (qr:RepR K μ h H r w) (e1:zaN a (.d (.int i)) env h=some (env1,h)) (e2:zaN b r env1 h=some (env',h)) (k:∀ σ',RepE K μ h H env' σ'->Q σ' H)
theorem ztV (ha:PG X ea (tG X.K a)) (hb:PG X eb (tG X.K b)) (h1:(assignEach [ea,eb] X.env).map (·.2)=assign ea X.env::(assignEach [eb] X.env).map (·.2)) (h2:(assignEach [eb] X.env).map (·.2)=assign eb X.env::(assignEach [] X.env).map (·.2)):PGs X [ea,eb] (tGe X.K a b):=by
 refine PGs.imp (zfG ha (zfG hb zkG h2) h1) λvs σ H Q q0=>?_
 obtain ⟨μ,h,env,i,r,w,env1,env',R0,re,rfl,qr,e1,e2,k⟩:=q0
 exact ⟨.int i,[w],rfl,μ,h,env,.d (.int i),env1,R0,re,by simp only [RepR,RepD],e1,λσ1 re1=>⟨w,[],rfl,μ,h,env1,r,env',R0,re1,qr,e2,λσ2 re2=>⟨rfl,k σ2 re2⟩⟩⟩
theorem zga (e:zaD t x env h=some (env',h')):h'=h:=by
 cases x with
 | r r=>rw [zaD] at e;exact za3 _ _ _ _ _ _ e
 | en i r=>
  match t,e with
  | .tup [a,b],e=>
   rw [zaD,zaa] at e
   obtain ⟨env1,h1,e1,e2⟩:=e
   have:=za3 _ _ _ _ _ _ e1
   subst this
   exact za3 _ _ _ _ _ _ e2
  | .name _,e=>exact zaf e
  | .tup [],e=>exact zaf e
  | .tup [_],e=>exact zaf e
  | .tup (_::_::_::_),e=>exact zaf e
theorem zmG (hg:PG X e (tG X.K (.name i))):PG X e (tGI X.K (.name i)):=by
 refine PG.imp hg λv σ H Q q0=>?_
 obtain ⟨μ,h,env,x,env',R0,re,qx,eb,k⟩:=q0
 cases x with
 | r r=>exact ⟨μ,h,env,r,env',R0,re,qx,by rw [zaD] at eb;exact eb,k⟩
 | en i r=>exact zaf eb
theorem zpJ (hn:ts.length≠2) (hg:PG X e (tG X.K (.tup ts))):PG X e (tGI X.K (.tup ts)):=by
 refine PG.imp hg λv σ H Q q0=>?_
 obtain ⟨μ,h,env,x,env',R0,re,qx,eb,k⟩:=q0
 cases x with
 | r r=>exact ⟨μ,h,env,r,env',R0,re,qx,by rw [zaD] at eb;exact eb,k⟩
 | en i r=>
  match ts,hn,eb with
  | [],_,eb=>exact zaf eb
  | [_],_,eb=>exact zaf eb
  | [_,_],hn,_=>exact absurd rfl hn
  | _::_::_::_,_,eb=>exact zaf eb
theorem zqE (hc:X.calm=true) (hs:PGs X [ea,eb] (tGs X.K [a,b])) (he:PGs X [ea,eb] (tGe X.K a b)) (hn:(assignEach [ea,eb] X.env).length=2) (hst:(assignEach [ea,eb] X.env).findIdx? (·.1)=none):PG X (.Tuple [ea,eb] n pos) (tGI X.K (.tup [a,b])):=by
 have both:PGs X [ea,eb] (λvs σ H Q=>tGs X.K [a,b] vs σ H Q\/tGe X.K a b vs σ H Q):=λpins s σ H v u Q I r q=>by
  rcases q with q | q
  ·exact hs pins s σ H v u Q I r q
  ·exact he pins s σ H v u Q I r q
 refine PG.imp (zoz (n:=2) hc both hn hst) λv σ H Q q0=>?_
 obtain ⟨μ,h,env,x,env',R0,re,qx,eb,k⟩:=q0
 cases x with
 | r r=>
  rw [zaD] at eb
  simp only [zaN,zaa] at eb
  obtain ⟨d,h1,e1,e2⟩:=eb
  obtain ⟨rfl,zd⟩:=zbK R0 qx e1
  cases d with
  | tup xs=>
   simp only [RdD,RepD] at zd
   obtain ⟨p,vs,rfl,q1,z1⟩:=zd
   refine ⟨p,vs,rfl,q1,?_,.inl ⟨μ,_,env,xs,env',R0,re,z1,e2,k⟩⟩
   rw [<-z1.length]
   exact zc8 _ _ _ _ _ _ e2
  | _=>cases e2
 | en i r=>
  obtain ⟨p,w,rfl,hp,qr⟩:=qx
  rw [zaD,zaa] at eb
  obtain ⟨env1,h1,e1,e2⟩:=eb
  have:=za3 _ _ _ _ _ _ e1
  subst this
  exact ⟨p,[.int i,w],rfl,SqT.of hp,rfl,.inr ⟨μ,_,env,i,r,w,env1,env',R0,re,rfl,qr,e1,e2,k⟩⟩
end
structure Wlk (K:PySem.W.Frag) (J:L2.It) (w:Wk) (μ:List Addr) (h:Sto) (H:Hp):Prop where
 go:∀ μ1 h1 H1 (i:Nat) x,Stp μ h H μ1 h1 H1->Rep K μ1 h1 H1->zaz w.l h h1=true->w.xs[i]?=some x->J.go i H1/\∀ v H',J.yld i H1 v H'->Stp μ1 h1 H1 μ1 h1 H'/\Rep K μ1 h1 H'/\RepI K μ1 h1 H' x v
 stop:∀ μ1 h1 H1,Stp μ h H μ1 h1 H1->Rep K μ1 h1 H1->zaz w.l h h1=true->J.stop w.xs.length H1
theorem ziP {xs:List D} {i:Nat} (e:(xs.map dI)[i]?=some x):∃ d,xs[i]?=some d/\x=.r (.d d):=by
 rw [List.getElem?_map,Option.map_eq_some_iff] at e
 obtain ⟨d,e1,e2⟩:=e
 exact ⟨d,e1,e2.symm⟩
section
variable {K:PySem.W.Frag} {μ:List Addr} {h:Sto} {H:Hp}
theorem ziI {a:Addr} {xs:List D} (R0:Rep K μ h H) (q:LsR K (Live μ h) H a vs) (z:RepDs K (Live μ h) H xs vs):Wlk K (Itl K a) ⟨xs.map dI,none⟩ μ h H:=by
 refine ⟨λμ1 h1 H1 i x st R1 _ e=>?_,λμ1 h1 H1 st R1 _=>?_⟩
 ·obtain ⟨d,ed,rfl⟩:=ziP e
  have q1:=st.lsR q
  have z1:=RepDs.stp st R0 z
  obtain ⟨v,e1,z2⟩:=z1.get ed
  refine ⟨⟨vs,v,q1.sq,e1⟩,λv' H' qW=>?_⟩
  obtain ⟨hH,hv⟩:=qW
  subst hH
  have:=hv vs q1.sq
  rw [e1] at this
  cases this
  exact ⟨Stp.refl,R1,z2⟩
 ·exact ⟨vs,(st.lsR q).sq,by rw [List.length_map,<-z.length];exact Nat.le_refl _⟩
theorem zoZ {a:Addr} {xs:List D} (R0:Rep K μ h H) (q:SqT K H a vs) (z:RepDs K (Live μ h) H xs vs):Wlk K (Itt K a) ⟨xs.map dI,none⟩ μ h H:=by
 have qs:∀ μ1 h1 H1,Stp μ h H μ1 h1 H1->SqT K H1 a vs:=λμ1 h1 H1 st=>q.imp (st.rdT R0 a vs) λz=>z
 refine ⟨λμ1 h1 H1 i x st R1 _ e=>?_,λμ1 h1 H1 st R1 _=>?_⟩
 ·obtain ⟨d,ed,rfl⟩:=ziP e
  have q1:=qs _ _ _ st
  have z1:=RepDs.stp st R0 z
  obtain ⟨v,e1,z2⟩:=z1.get ed
  refine ⟨⟨vs,v,q1,e1⟩,λv' H' qW=>?_⟩
  obtain ⟨hH,hv⟩:=qW
  subst hH
  have:=hv vs q1
  rw [e1] at this
  cases this
  exact ⟨Stp.refl,R1,z2⟩
 ·exact ⟨vs,qs _ _ _ st,by rw [List.length_map,<-z.length];exact Nat.le_refl _⟩
theorem Ob.same_isL {o o':Ob} (s:o.same o'=true) (il:o.isL=true):o'.isL=true/\o'.items=o.items:=by
 cases o with
 | lst xs=>simp only [Ob.same,Bool.and_eq_true] at s;exact ⟨s.1,(D.sames_eq _ _ s.2).symm⟩
 | fro xs=>simp only [Ob.same,Bool.and_eq_true] at s;exact ⟨s.1,(D.sames_eq _ _ s.2).symm⟩
 | ins _ _=>cases il
 | ols _=>cases il
 | dic _=>cases il
 | dfr _=>cases il
theorem zef:∀ {a b:List (D×D)},za2 a b=true->a=b
  | [],[],_=>rfl
  | [],_::_,h=>by cases h
  | _::_,[],h=>by cases h
  | (p1,p2)::r,(q1,q2)::t,h=>by
    simp only [za2,Bool.and_eq_true] at h
    rw [D.same_eq _ _ h.1.1,D.same_eq _ _ h.1.2,zef h.2]
theorem zb3:∀ a:List (D×D),za2 a a=true
 | []=>rfl
 | p::r=>by simp only [za2,D.same_refl,zb3 r,Bool.and_self]
theorem zfI (ho:h[l]?=some o) (s:zaz (some l) h h1=true):∃ o',h1[l]?=some o'/\o.same o'=true:=by
 simp only [zaz,ho] at s
 cases q:h1[l]? with
 | none=>rw [q] at s;cases s
 | some o'=>rw [q] at s;exact ⟨o',rfl,s⟩
theorem zlb {a:Addr} {l:Nat} (R0:Rep K μ h H) (ea:μ[l]?=some a) (ho:h[l]?=some o) (il:o.isL=true):Wlk K (Itl K a) ⟨o.items.map dI,some l⟩ μ h H:=by
 refine ⟨λμ1 h1 H1 i x st R1 sy e=>?_,λμ1 h1 H1 st R1 sy=>?_⟩
 ·obtain ⟨d,ed,rfl⟩:=ziP e
  obtain ⟨o',ho',eo⟩:=zfI ho sy
  obtain ⟨il',eo⟩:=Ob.same_isL eo il
  obtain ⟨vs,q1,z1⟩:=R1.placeL (st.pre l a ea) ho' il'
  rw [eo] at z1
  obtain ⟨v,e1,z2⟩:=z1.get ed
  refine ⟨⟨vs,v,.inl (.inl q1),e1⟩,λv' H' qW=>?_⟩
  obtain ⟨hH,hv⟩:=qW
  subst hH
  have:=hv vs (.inl (.inl q1))
  rw [e1] at this
  cases this
  exact ⟨Stp.refl,R1,z2⟩
 ·obtain ⟨o',ho',eo⟩:=zfI ho sy
  obtain ⟨il',eo⟩:=Ob.same_isL eo il
  obtain ⟨vs,q1,z1⟩:=R1.placeL (st.pre l a ea) ho' il'
  rw [eo] at z1
  exact ⟨vs,.inl (.inl q1),by rw [List.length_map,<-z1.length];exact Nat.le_refl _⟩
theorem zde {α β:Type} {F:α->β->Prop} {xs:List α} {ys:List β} {i:Nat} {x:α} (h:Paired F xs ys) (e:xs[i]?=some x):∃ y,ys[i]?=some y/\F x y:=by
 induction h generalizing i with
 | nil=>cases e
 | cons r t ih=>cases i with
  | zero=>cases e;exact ⟨_,rfl,r⟩
  | succ i=>exact ih (i:=i) e
theorem zkz {l:Nat} {ls:List Nat} (R0:Rep K μ h H) (ea:μ[l]?=some a) (ho:h[l]?=some (.ols ls)):Wlk K (Itl K a) ⟨ls.map λl=>.r (.loc l),some l⟩ μ h H:=by
 have at1:∀ μ1 h1 H1,Stp μ h H μ1 h1 H1->Rep K μ1 h1 H1->zaz (some l) h h1=true->∃ vs,H1 a=some (.lst vs)/\Paired (λ(l:Nat) (v:V)=>∃ b,μ1[l]?=some b/\v=.ref b) ls vs:=by
  intro μ1 h1 H1 st R1 sy
  obtain ⟨o',ho',eo⟩:=zfI ho sy
  cases o' with
  | ols ls'=>
   simp only [Ob.same] at eo
   have:=eq_of_beq eo
   subst this
   exact R1.obj l a _ (st.pre l a ea) ho'
  | _=>cases eo
 refine ⟨λμ1 h1 H1 i x st R1 sy e=>?_,λμ1 h1 H1 st R1 sy=>?_⟩
 ·rw [List.getElem?_map,Option.map_eq_some_iff] at e
  obtain ⟨k,e,rfl⟩:=e
  obtain ⟨vs,q1,z1⟩:=at1 _ _ _ st R1 sy
  obtain ⟨v,e1,b,eb,rfl⟩:=zde z1 e
  refine ⟨⟨vs,.ref b,.inl (.inl q1),e1⟩,λv' H' qW=>?_⟩
  obtain ⟨hH,hv⟩:=qW
  subst hH
  have:=hv vs (.inl (.inl q1))
  rw [e1] at this
  cases this
  exact ⟨Stp.refl,R1,b,eb,rfl⟩
 ·obtain ⟨vs,q1,z1⟩:=at1 _ _ _ st R1 sy
  exact ⟨vs,.inl (.inl q1),by rw [List.length_map,<-z1.length];exact Nat.le_refl _⟩
theorem zf6:∀ (n:Nat) (lo:Int) (i:Nat) (x:D),(zaU lo n)[i]?=some x->i<n/\x=.int (lo+i)
 | 0,lo,i,x,e=>by simp [zaU] at e
 | n+1,lo,i,x,e=>by
  cases i with
  | zero=>simp [zaU] at e;exact ⟨by omega,by rw [<-e];simp⟩
  | succ i=>
   simp only [zaU,List.getElem?_cons_succ] at e
   obtain ⟨h1,h2⟩:=zf6 n (lo+1) i x e
   refine ⟨by omega,?_⟩
   rw [h2]
   congr 1
   push_cast
   omega
theorem zcs:∀ (n:Nat) (lo:Int),(zaU lo n).length=n
 | 0,_=>rfl
 | n+1,lo=>by simp [zaU,zcs n]
theorem zkg (lo:Int) (n:Nat):Wlk K (Itr lo n) ⟨(zaU lo n).map dI,none⟩ μ h H:=by
 refine ⟨λμ1 h1 H1 i x st R1 _ e=>?_,λμ1 h1 H1 st R1 _=>?_⟩
 ·obtain ⟨d,ed,rfl⟩:=ziP e
  obtain ⟨h1',rfl⟩:=zf6 n lo i d ed
  exact ⟨h1',λv H' ⟨hH,hv⟩=>by subst hH;exact ⟨Stp.refl,R1,by rw [hv];simp only [RepI,RepR,RepD]⟩⟩
 ·show n<=((zaU lo n).map dI).length
  rw [List.length_map,zcs]
  exact Nat.le_refl _
end
inductive tI (K:PySem.W.Frag) (f:IT.Env->M Wk) (σ:St) (H:Hp) (R:It->Hp->Prop):Prop where
 | mk (μ:List Addr) (h:Sto) (env:IT.Env) (R0:Rep K μ h H) (re:RepE K μ h H env σ) (w:Wk) (h':Sto) (e:f env h=some (w,h')) (k:∀ μ' H' J,Stp μ h H μ' h' H'->Rep K μ' h' H'->Wlk K J w μ' h' H'->w.xs.length<=sizeLine->R J H')
section
variable {X:Cx} {tg:Expr}
theorem PI.imp (h:PI X tg l t) (i:∀ σ H R,t' σ H R->t σ H R):PI X tg l t':=λpins s σ H R I q=>h pins s σ H R I (i σ H R q)
theorem zr6 (hl:PE X l tl):PI X tg l (λσ H R=>tl σ H λx H1=>(∃ a xs,x=.ref a/\SqL X.K H1 a xs/\(xs.length<=sizeLine->R (Itl X.K a) H1))\/(∃ a xs,x=.ref a/\SqT X.K H1 a xs/\(xs.length<=sizeLine->R (Itt X.K a) H1))):=by
 intro pins s σ H R I h
 refine thn (hl pins s σ H _ I h) λv s1 qW=>?_
 obtain ⟨x,H1,I1,r1,q1⟩:=qW
 rcases q1 with ⟨a,xs,e,hq,q⟩ | ⟨a,xs,e,hq,q⟩
 ·subst e
  cases r1
  obtain ⟨its,rv,p,hz⟩:=I1.list hq
  refine wpAny_pyIter_list p.isList ?_
  refine ⟨s1.heap.objs.size,[s1.heap.objs.size],_,_,H1,rfl,I1.kept (t':=s1.toks) λb o e=>Heap.get?_push_of_some _ e,zl8 a _,⟨_,Heap.get?_push_size _ rfl,rfl,rfl⟩,λb hb=>?_,q hz⟩
  have e:b=s1.heap.objs.size:=by simpa using hb
  subst e
  exact I1.fpOk (Nat.le_refl _) (I1.hok.fresh (Nat.le_refl _))
 ·subst e
  cases r1
  obtain ⟨its,rv,p,hz⟩:=I1.tuple hq
  refine wpAny_pyIter_tuple (show s1.heap.IsTuple a its.toArray from p) ?_
  refine ⟨s1.heap.objs.size,[s1.heap.objs.size],_,_,H1,rfl,I1.kept (t':=s1.toks) λb o e=>Heap.get?_push_of_some _ e,zjl a _,⟨_,Heap.get?_push_size _ rfl,rfl,rfl⟩,λb hb=>?_,q hz⟩
  have e:b=s1.heap.objs.size:=by simpa using hb
  subst e
  exact I1.fpOk (Nat.le_refl _) (I1.hok.fresh (Nat.le_refl _))
theorem zbf (e:zbc r h=some (o,h')):h'=h/\match o with
  | some ls=>∃ l,r=.loc l/\h[l]?=some (.ols ls)
  | none=>True:=by
 cases r with
 | d x=>simp only [zbc,Option.some.injEq,Prod.mk.injEq] at e;obtain ⟨rfl,rfl⟩:=e;exact ⟨rfl,trivial⟩
 | loc l=>
  (delta zbc at e;(try dsimp only at e))
  split at e
  ·rename_i ls hl
   simp only [Option.some.injEq,Prod.mk.injEq] at e
   obtain ⟨rfl,rfl⟩:=e
   exact ⟨rfl,l,rfl,hl⟩
  ·simp only [Option.some.injEq,Prod.mk.injEq] at e
   obtain ⟨rfl,rfl⟩:=e
   exact ⟨rfl,trivial⟩
noncomputable def WkIs (K:PySem.W.Frag) (v:V) (w:Wk) (μ:List Addr) (h:Sto) (H:Hp):Prop:=
 (∃ a vs,v=.ref a/\SqL K H a vs/\vs.length=w.xs.length/\Wlk K (Itl K a) w μ h H)\/(∃ a vs,v=.ref a/\SqT K H a vs/\vs.length=w.xs.length/\Wlk K (Itt K a) w μ h H)
theorem ztp (R1:Rep K μ h H) (q1:RepR K μ h H r v) (e:zaY r h=some (w,h')):h'=h/\WkIs K v w μ h H:=by
 (delta zaY at e;simp only [zaa] at e)
 obtain ⟨o,h1,e1,e2⟩:=e
 obtain ⟨rfl,ho⟩:=zbf e1
 cases o with
 | some ls=>
  obtain ⟨l,rfl,ho⟩:=ho
  obtain ⟨a,ea,rfl⟩:=q1
  simp only [zab] at e2
  obtain ⟨rfl,rfl⟩:=e2
  obtain ⟨vs,q2,z2⟩:=R1.obj l a _ ea ho
  exact ⟨rfl,.inl ⟨a,vs,rfl,.inl (.inl q2),by rw [List.length_map];exact z2.length.symm,zkz R1 ea ho⟩⟩
 | none=>
  simp only [zaa] at e2
  obtain ⟨d,h2,e3,e4⟩:=e2
  cases r with
  | loc l=>
   obtain ⟨a,ea,rfl⟩:=q1
   obtain ⟨o,ho,il,rfl,rfl⟩:=zeK e3
   obtain ⟨vs,q2,z2⟩:=R1.placeL ea ho il
   (delta wkOf items at e4;(try dsimp only at e4);simp only [zab] at e4)
   obtain ⟨rfl,rfl⟩:=e4
   exact ⟨rfl,.inl ⟨a,vs,rfl,.inl (.inl q2),by rw [List.length_map];exact z2.length.symm,zlb R1 ea ho il⟩⟩
  | d x=>
   simp only [rd,zab] at e3
   obtain ⟨rfl,rfl⟩:=e3
   cases x with
   | tup xs=>
    (delta wkOf items at e4;(try dsimp only at e4);simp only [zab] at e4)
    obtain ⟨rfl,rfl⟩:=e4
    simp only [RepR,RepD] at q1
    obtain ⟨a,vs,rfl,q2,z2⟩:=q1
    exact ⟨rfl,.inr ⟨a,vs,rfl,q2,by rw [List.length_map];exact z2.length.symm,zoZ R1 q2 z2⟩⟩
   | lst xs=>
    (delta wkOf items at e4;(try dsimp only at e4);simp only [zab] at e4)
    obtain ⟨rfl,rfl⟩:=e4
    simp only [RepR,RepD] at q1
    obtain ⟨a,vs,rfl,q2,z2⟩:=q1
    exact ⟨rfl,.inl ⟨a,vs,rfl,q2.sq,by rw [List.length_map];exact z2.length.symm,ziI R1 q2 z2⟩⟩
   | _=>exact zaf e4
theorem zr1 (hl:IE X l f):PI X tg l (tI X.K λσ=>bnd (f σ) λr=>zaY r):=by
 refine PI.imp (zr6 hl) λσ H R q0=>?_
 obtain ⟨μ,h,env,R0,re,w,h',e,k⟩:=q0
 simp only [zaa] at e
 obtain ⟨r,h1,e1,e2⟩:=e
 refine ⟨μ,h,env,R0,re,r,h1,e1,λμ1 H1 v s1 R1 q1=>?_⟩
 obtain ⟨rfl,W⟩:=ztp R1 q1 e2
 rcases W with ⟨a,vs,rfl,q2,hl,W⟩ | ⟨a,vs,rfl,q2,hl,W⟩
 ·exact .inl ⟨a,vs,rfl,q2,λhz=>k μ1 H1 _ s1 R1 W (by rw [<-hl];exact hz)⟩
 ·exact .inr ⟨a,vs,rfl,q2,λhz=>k μ1 H1 _ s1 R1 W (by rw [<-hl];exact hz)⟩
theorem zrq (hg:Gl X "range") (hm:X.mg "range"=none) (ha:IE X e f) (hs:starEach [e] X.env=[(false,eval e X.env)]):PI X tg (.Call (.Name "range" p) [e] [] pos) (tI X.K λσ=>bnd (f σ) λr=>zfo r):=by
 refine PI.imp (zmt hg hm (zaS ha zb2 hs) hs) λσ H R q0=>?_
 obtain ⟨μ,h,env,R0,re,w,h',e,k⟩:=q0
 simp only [zaa] at e
 obtain ⟨r,h1,e1,e2⟩:=e
 refine ⟨μ,h,env,R0,re,r,h1,e1,λμ1 H1 v s1 R1 q1=>?_⟩
 (delta zfo at e2;(try dsimp only at e2))
 split at e2
 ·rename_i n
  split at e2
  ·rename_i hb
   rw [Bool.and_eq_true] at hb
   obtain ⟨rfl,rfl⟩:=zab.mp e2
   simp only [RepR,RepD] at q1
   have h3:n<=16777216:=of_decide_eq_true hb.2
   exact ⟨n,by rw [q1],of_decide_eq_true hb.1,by omega,k μ1 H1 _ s1 R1 (zkg 0 n.toNat) (by show ((zaU 0 n.toNat).map dI).length<=sizeLine;rw [List.length_map,zcs];show n.toNat<=16777216;omega)⟩
  ·cases e2
 ·cases e2
theorem zqB (hg:Gl X "range") (hm:X.mg "range"=none) (ha:IE X a f) (hb:IE X b g) (hs:starEach [a,b] X.env=[(false,eval a X.env),(false,eval b X.env)]) (hs2:starEach [b] X.env=[(false,eval b X.env)]) :
  PI X tg (.Call (.Name "range" p) [a,b] [] pos) (tI X.K λσ=>bnd (f σ) λr=>bnd (g σ) λq=>zg1 r q):=by
 refine PI.imp (zkI hg hm (zaS ha (zaS hb zb2 hs2) (by rw [hs,hs2])) hs hs2) λσ H R q0=>?_
 obtain ⟨μ,h,env,R0,re,w,h',e,k⟩:=q0
 simp only [zaa] at e
 obtain ⟨r,h1,e1,q,h2,e2,e3⟩:=e
 refine ⟨μ,h,env,R0,re,r,h1,e1,λμ1 H1 v s1 R1 q1=>⟨μ1,h1,env,R1,re.stp s1 R0,q,h2,e2,λμ2 H2 u s2 R2 q2=>?_⟩⟩
 (delta zg1 at e3;(try dsimp only at e3))
 split at e3
 ·rename_i m n
  split at e3
  ·rename_i hbb
   simp only [Bool.and_eq_true] at hbb
   obtain ⟨rfl,rfl⟩:=zab.mp e3
   simp only [RepR,RepD] at q1 q2
   have h3:n-m<=16777216:=of_decide_eq_true hbb.2
   exact ⟨m,n,by rw [q1,q2],⟨of_decide_eq_true hbb.1.1.1.1,of_decide_eq_true hbb.1.1.1.2,of_decide_eq_true hbb.1.1.2,of_decide_eq_true hbb.1.2⟩,k μ2 H2 _ (s1.trans s2) R2 (zkg m (n-m).toNat) (by show ((zaU m (n-m).toNat).map dI).length<=sizeLine;rw [List.length_map,zcs];show (n-m).toNat<=16777216;omega)⟩
  ·cases e3
 ·cases e3
noncomputable def ztt (K:PySem.W.Frag) (μ:List Addr) (h:Sto) (D:Ends) (fl:Fl) (σ:St) (H:Hp):Prop:=match fl with
 | .nx=>D.nx σ H
 | .brk=>D.bk σ H
 | .cnt=>D.ct σ H
 | .ret r=>∀ v,RepR K μ h H r v->D.rt v H
inductive tS (K:PySem.W.Frag) (f:IT.Env->M (Fl×IT.Env)) (D:Ends) (σ:St) (H:Hp):Prop where
 | mk (μ:List Addr) (h:Sto) (env:IT.Env) (R0:Rep K μ h H) (re:RepE K μ h H env σ) (fl:Fl) (env':IT.Env) (h':Sto) (e:f env h=some ((fl,env'),h')) (k:∀ μ' H' σ',Stp μ h H μ' h' H'->Rep K μ' h' H'->RepE K μ' h' H' env' σ'->ztt K μ' h' D fl σ' H')
theorem PS.imp (h:PS X st t) (i:∀ D σ H,t' D σ H->t D σ H):PS X st t':=λpins s σ H D I q=>h pins s σ H D I (i D σ H q)
theorem PSs.imp (h:PSs X st t) (i:∀ D σ H,t' D σ H->t D σ H):PSs X st t':=λpins s σ H D I q=>h pins s σ H D I (i D σ H q)
theorem zra (he:IE X e f):PS X (.Return (some e) pos) (tS X.K λσ=>bnd (f σ) λr=>ok (.ret r,σ)):=by
 refine PS.imp (zqW he) λD σ H q0=>?_
 obtain ⟨μ,h,env,R0,re,fl,env',h',e,k⟩:=q0
 simp only [zaa,zab,Prod.mk.injEq] at e
 obtain ⟨r,h1,e1,⟨rfl,rfl⟩,rfl⟩:=e
 exact ⟨μ,h,env,R0,re,r,h1,e1,λμ1 H1 v s1 R1 q1=>k μ1 H1 σ s1 R1 (re.stp s1 R0) v q1⟩
theorem zsa (he:IE X e f) (hs:swapsWith e none pos.line X.env=pure false):PS X (.Expr e pos) (tS X.K λσ=>bnd (f σ) λ_=>ok (.nx,σ)):=by
 refine PS.imp (zqC he hs) λD σ H q0=>?_
 obtain ⟨μ,h,env,R0,re,fl,env',h',e,k⟩:=q0
 simp only [zaa,zab,Prod.mk.injEq] at e
 obtain ⟨r,h1,e1,⟨rfl,rfl⟩,rfl⟩:=e
 exact ⟨μ,h,env,R0,re,r,h1,e1,λμ1 H1 v s1 R1 q1=>k μ1 H1 σ s1 R1 (re.stp s1 R0)⟩
theorem zoN (he:IE X e f) (hg:PG X tge (tG X.K t)) (hs:swapsWithSole [tge] e pos.line X.env=pure false) (hw:swappedStores [tge] e X.env=pure none) (h1:(assignEach [tge] X.env).map (·.2)=[assign tge X.env]) :
  PS X (.Assign [tge] e pos) (tS X.K λσ=>bnd (f σ) λr=>bnd (zaN t r σ) λσ'=>ok (.nx,σ')):=by
 refine PS.imp (zoC he hg hs hw h1) λD σ H q0=>?_
 obtain ⟨μ,h,env,R0,re,fl,env',h',e,k⟩:=q0
 simp only [zaa,zab,Prod.mk.injEq] at e
 obtain ⟨r,h1,e1,env1,h2,e2,⟨rfl,rfl⟩,rfl⟩:=e
 have:=za3 _ _ _ _ _ _ e2
 subst this
 exact ⟨μ,h,env,R0,re,r,_,e1,λμ1 H1 v s1 R1 q1=>⟨μ1,_,env,r,env1,R1,re.stp s1 R0,q1,e2,λσ' re'=>k μ1 H1 σ' s1 R1 re'⟩⟩
theorem zs7 (hc:IT' X c ft) (ha:PSs X a (tS X.K fa)) (hb:PSs X b (tS X.K fb)) :
  PS X (.If c a b pos) (tS X.K λσ=>bnd (ft σ) λt=>if t then fa σ else fb σ):=by
 refine PS.imp (zs5 hc ha hb) λD σ H q0=>?_
 obtain ⟨μ,h,env,R0,re,fl,env',h',e,k⟩:=q0
 simp only [zaa] at e
 obtain ⟨t,h1,e1,e2⟩:=e
 refine ⟨μ,h,env,R0,re,t,h1,e1,λμ1 H1 v s1 R1 hv=>?_⟩
 subst hv
 cases t with
 | true=>
  simp only [if_true] at e2 ⊢
  exact ⟨μ1,h1,env,R1,re.stp s1 R0,fl,env',h',e2,λμ2 H2 σ2 s2 R2 q2=>k μ2 H2 σ2 (s1.trans s2) R2 q2⟩
 | false=>
  simp only [Bool.false_eq_true,if_false] at e2 ⊢
  exact ⟨μ1,h1,env,R1,re.stp s1 R0,fl,env',h',e2,λμ2 H2 σ2 s2 R2 q2=>k μ2 H2 σ2 (s1.trans s2) R2 q2⟩
theorem zqx:PSs X [] (tS X.K λσ=>ok (.nx,σ)):=by
 refine PSs.imp zo6 λD σ H q0=>?_
 obtain ⟨μ,h,env,R0,re,fl,env',h',e,k⟩:=q0
 simp only [zab,Prod.mk.injEq] at e
 obtain ⟨⟨rfl,rfl⟩,rfl⟩:=e
 exact k μ H σ Stp.refl R0 re
theorem zmM (h1:PS X st (tS X.K f)) (h2:PSs X sts (tS X.K g)):PSs X (st::sts) (tS X.K λσ=>bnd (f σ) λp=>match p.1 with | .nx=>g p.2 | _=>ok p):=by
 refine PSs.imp (zn3 h1 h2) λD σ H q0=>?_
 obtain ⟨μ,h,env,R0,re,fl,env',h',e,k⟩:=q0
 simp only [zaa] at e
 obtain ⟨⟨fl1,env1⟩,h1,e1,e2⟩:=e
 refine ⟨μ,h,env,R0,re,fl1,env1,h1,e1,λμ1 H1 σ1 s1 R1 q1=>?_⟩
 cases fl1 with
 | nx=>exact ⟨μ1,h1,env1,R1,q1,fl,env',h',e2,λμ2 H2 σ2 s2 R2 q2=>k μ2 H2 σ2 (s1.trans s2) R2 q2⟩
 | brk=>simp only [zab,Prod.mk.injEq] at e2;obtain ⟨⟨rfl,rfl⟩,rfl⟩:=e2;exact k μ1 H1 σ1 s1 R1 q1
 | cnt=>simp only [zab,Prod.mk.injEq] at e2;obtain ⟨⟨rfl,rfl⟩,rfl⟩:=e2;exact k μ1 H1 σ1 s1 R1 q1
 | ret r=>simp only [zab,Prod.mk.injEq] at e2;obtain ⟨⟨rfl,rfl⟩,rfl⟩:=e2;exact k μ1 H1 σ1 s1 R1 q1
theorem Ob.same_refl {o:Ob} (n:∀ c fs,o≠.ins c fs):o.same o=true:=by
 cases o with
 | lst xs=>simp only [Ob.same,Ob.isL,Ob.items,Bool.true_and];exact D.sames_refl _
 | fro xs=>simp only [Ob.same,Ob.isL,Ob.items,Bool.true_and];exact D.sames_refl _
 | ins c fs=>exact absurd rfl (n c fs)
 | ols ls=>simp only [Ob.same,beq_self_eq_true]
 | dic kvs=>exact zb3 kvs
 | dfr kvs=>exact zb3 kvs
theorem Ob.same_trans {a b c:Ob} (h1:a.same b=true) (h2:b.same c=true):a.same c=true:=by
 cases a with
 | ins _ _=>cases h1
 | dic ls=>
  cases b with
  | dic ls'=>have:=zef (show za2 ls ls'=true from h1);subst this;exact h2
  | _=>cases h1
 | dfr ls=>
  cases b with
  | dfr ls'=>have:=zef (show za2 ls ls'=true from h1);subst this;exact h2
  | _=>cases h1
 | ols ls=>
  cases b with
  | ols ls'=>simp only [Ob.same] at h1;have:=eq_of_beq h1;subst this;exact h2
  | _=>cases h1
 | lst xs=>
  obtain ⟨i1,e1⟩:=Ob.same_isL h1 rfl
  obtain ⟨i2,e2⟩:=Ob.same_isL h2 i1
  simp only [Ob.same,i2,Bool.true_and]
  rw [e2,e1]
  exact D.sames_refl _
 | fro xs=>
  obtain ⟨i1,e1⟩:=Ob.same_isL h1 rfl
  obtain ⟨i2,e2⟩:=Ob.same_isL h2 i1
  simp only [Ob.same,i2,Bool.true_and]
  rw [e2,e1]
  exact D.sames_refl _
noncomputable def WlOk (w:Wk) (h:Sto):Prop:=∀ i,w.l=some i->∃ o,h[i]?=some o/\∀ c fs,o≠.ins c fs
theorem zeq (l:Option Nat) (h:Sto) (hl:∀ i,l=some i->∃ o,h[i]?=some o/\∀ c fs,o≠.ins c fs):zaz l h h=true:=by
 cases l with
 | none=>rfl
 | some i=>
  obtain ⟨o,ho,n⟩:=hl i rfl
  simp only [zaz,ho]
  exact Ob.same_refl n
theorem zbp (a:zaz l h h1=true) (b:zaz l h1 h2=true):zaz l h h2=true:=by
 cases l with
 | none=>rfl
 | some i=>
  simp only [zaz] at a b ⊢
  cases e0:h[i]? with
  | none=>rw [e0] at a;cases a
  | some o0=>
   cases e1:h1[i]? with
   | none=>rw [e0,e1] at a;cases a
   | some o1=>
    cases e2:h2[i]? with
    | none=>rw [e1,e2] at b;cases b
    | some o2=>
     rw [e0,e1] at a
     rw [e1,e2] at b
     exact Ob.same_trans a b
theorem zrj (hp:PassesOwn (model X.prog X.w) X.A X.env X.xe) (hc:X.calm=true) (hi:PI X tg iter (tI X.K fi)) (hg:PG X tg (tGI X.K t)) (hb:PSs X body (tS X.K fb))
  (hs:∀ x,foldedSetIterable iter X.env x=pure x) (hwl:∀ σ h w h',fi σ h=some (w,h')->WlOk w h') :
  PS X (.For tg iter body [] pos) (tS X.K λσ=>bnd (fi σ) λw=>loop w.l (λx σ=>bnd (zaD t x σ) λσ'=>fb σ') w.xs σ):=by
 refine PS.imp (zqZ hp hc hi hg hb hs) λD σ H q0=>?_
 obtain ⟨μ,h,env,R0,re,fl,env',h',e,k⟩:=q0
 simp only [zaa] at e
 obtain ⟨w,h1,e1,e2⟩:=e
 refine ⟨μ,h,env,R0,re,w,h1,e1,λμ1 H1 J s1 R1 W1 _=>?_⟩
 refine ⟨λi m σ2 H2=>∃ μ2 h2 env2,Stp μ1 h1 H1 μ2 h2 H2/\zaz w.l h1 h2=true/\Rep X.K μ2 h2 H2/\RepE X.K μ2 h2 H2 env2 σ2/\i+m=w.xs.length ∧
   loop w.l (λx σ=>bnd (zaD t x σ) λσ'=>fb σ') (w.xs.drop i) env2 h2=some ((fl,env'),h'),⟨w.xs.length,μ1,h1,env,Stp.refl,zeq _ _ (hwl _ _ _ _ e1),R1,re.stp s1 R0,by omega,by rw [List.drop_zero];exact e2⟩,?_⟩
 rintro i m σ2 H2 ⟨μ2,h2,env2,s2,sy2,R2,re2,him,el⟩
 cases hx:w.xs[i]? with
 | none=>
  have hi':w.xs.length<=i:=by simpa using hx
  have hi2:i=w.xs.length:=by omega
  subst hi2
  rw [List.drop_of_length_le (Nat.le_refl _)] at el
  simp only [loop,zab,Prod.mk.injEq] at el
  obtain ⟨⟨rfl,rfl⟩,rfl⟩:=el
  exact .inl ⟨W1.stop μ2 h2 H2 s2 R2 sy2,k μ2 H2 σ2 (s1.trans s2) R2 re2⟩
 | some x=>
  have hil:i<w.xs.length:=(List.getElem?_eq_some_iff.mp hx).1
  have hdrop:w.xs.drop i=x::w.xs.drop (i+1):=by
   rw [List.drop_eq_getElem_cons hil]
   have:=(List.getElem?_eq_some_iff.mp hx).2
   rw [this]
  rw [hdrop] at el
  simp only [loop] at el
  obtain ⟨go,yld⟩:=W1.go μ2 h2 H2 i x s2 R2 sy2 hx
  cases ef:bnd (zaD t x env2) (λσ'=>fb σ') h2 with
  | none=>rw [ef] at el;cases el
  | some p=>
   obtain ⟨⟨fl3,env3⟩,h3⟩:=p
   rw [ef] at el
   simp only [zaa] at ef
   obtain ⟨env4,h4,e4,e5⟩:=ef
   have:=zga e4
   subst this
   refine .inr ⟨go,λσ' H'=>∃ m',m'<m/\∃ μ5 h5 env5,Stp μ1 h1 H1 μ5 h5 H'/\zaz w.l h1 h5=true/\Rep X.K μ5 h5 H'/\RepE X.K μ5 h5 H' env5 σ'/\(i+1)+m'=w.xs.length ∧
    loop w.l (λx σ=>bnd (zaD t x σ) λσ'=>fb σ') (w.xs.drop (i+1)) env5 h5=some ((fl,env'),h'),λσ' H' hN=>hN,λv H' hy=>?_⟩
   obtain ⟨sy,Ry,zx⟩:=yld v H' hy
   refine ⟨μ2,_,env2,x,env4,Ry,re2.stp sy R2,zx,e4,λσ4 re4=>⟨μ2,_,env4,Ry,re4,fl3,env3,h3,e5,λμ5 H5 σ5 s5' R5 re5=>?_⟩⟩
   have s5:=sy.trans s5'
   cases fl3 with
   | nx=>
    simp only at el
    split at el
    ·rename_i sy5
     exact ⟨m-1,by omega,μ5,h3,env3,s2.trans s5,zbp sy2 sy5,R5,re5,by omega,el⟩
    ·cases el
   | cnt=>
    simp only at el
    split at el
    ·rename_i sy5
     exact ⟨m-1,by omega,μ5,h3,env3,s2.trans s5,zbp sy2 sy5,R5,re5,by omega,el⟩
    ·cases el
   | brk=>
    simp only [Option.some.injEq,Prod.mk.injEq] at el
    obtain ⟨⟨rfl,rfl⟩,rfl⟩:=el
    exact k μ5 H5 σ5 ((s1.trans s2).trans s5) R5 re5
   | ret r=>
    simp only [Option.some.injEq,Prod.mk.injEq] at el
    obtain ⟨⟨rfl,rfl⟩,rfl⟩:=el
    exact k μ5 H5 σ5 ((s1.trans s2).trans s5) R5 re5
end
end IT
namespace PySem
section
variable {prog:Program} {w:World} {A:Around} {R:Result->Shared->Prop} {s:Shared}
theorem zhD (I:Nat->Shared->Prop)
  (turn : ∀ n s,I n s->wpAny (model prog w) A (pyNext it) (λr s₁=>match r with
   | none=>R (.ok .next) s₁
   | some v=>wpAny (model prog w) A (letOwnedTupleGo target it v) (λ_ s₁'=>wpAny (model prog w) A (assign target env v) (λ_ s₂=>
     wpAny (model prog w) A (forIn ifs true λc r=>if r=true then do let ok<-isTrue c env (eval c env);pure (ForInStep.yield ok) else pure (ForInStep.yield r)) (λok s₃=>
      if ok=true then wpAny (model prog w) A (eval elt env) (λx s₄=>
       wpAny (model prog w) A (call (.builtin "list.append") [acc,x]) (λ_ s₅=>∃ m,m<n/\I m s₅) (λ_ _=>False) s₄) (λ_ _=>False) s₃
      else ∃ m,m<n/\I m s₃) (λ_ _=>False) s₂) (λ_ _=>False) s₁') (λ_ _=>False) s₁) (λ_ _=>False) s)
  (n:Nat) (h:I n s) :
  codeAny (model prog w) A (.compLoop (.ListComp elt [⟨target,iter,ifs,0⟩] scope pos) 0 it acc env) R s:=by
 refine codeAny_loop rfl I (λn s hI=>?_) n h
 show wpAny _ A ((compTurn (.ListComp elt [⟨target,iter,ifs,0⟩] scope pos) 0 it acc env).onRaise (λx=>do noteFrame x env;theTreesLotGoes x)) _ _ s
 refine wpAny_noted ?_
 rw [compTurn_list]
 refine wpAny_bind (wpAny_standAt (wpAny_bind (wpAny_mono (turn n s hI) (λr s₁ h₁=>?_) λ_ _ h'=>h'.elim)))
 cases r with
 | none=>exact wpAny_pure h₁
 | some v=>
  refine wpAny_bind (wpAny_mono h₁ (λ_ s₁' h₁'=>?_) λ_ _ h'=>h'.elim)
  refine wpAny_bind (wpAny_mono h₁' (λ_ s₂ h₂=>wpAny_bind (wpAny_mono h₂ (λok s₃ h₃=>?_) λ_ _ h'=>h'.elim)) λ_ _ h'=>h'.elim)
  cases ok with
  | false=>exact wpAny_pure ⟨rfl,h₃⟩
  | true=>
   exact wpAny_bind (wpAny_bind (wpAny_mono h₃ (λx s₄ h₄=>wpAny_bind (wpAny_mono h₄ (λ_ s₅ h₅=>wpAny_pure (wpAny_pure ⟨rfl,h₅⟩)) λ_ _ h'=>h'.elim)) λ_ _ h'=>h'.elim))
end
theorem zcK (h:∀ x∈scope.names,x.2=.free->∃ c,env.cells.lookup x.1=some c) :
  ∃ cl,closureFor scope env=pure cl/\(∀ x c,cl.lookup x=some c->env.cells.lookup x=some c)/\∀ x∈scope.names,x.2=.free->∃ c,cl.lookup x.1=some c:=by
 unfold closureFor
 have gen:∀ (l:List (Str×NameKind)) (cs:List (Str×Addr)),(∀ x∈l,x.2=.free->∃ c,env.cells.lookup x.1=some c)->(∀ x c,cs.lookup x=some c->env.cells.lookup x=some c) →
   ∃ cl,(forIn l cs λ(x:Str×NameKind) (r:List (Str×Addr))=>(if x.2==.free then do let c<-cellOf env x.1;pure (ForInStep.yield ((x.1,c)::r)) else pure (ForInStep.yield r):Sem (ForInStep (List (Str×Addr)))))=pure cl ∧
    (∀ x c,cl.lookup x=some c->env.cells.lookup x=some c)/\(∀ x c,cs.lookup x=some c->∃ c',cl.lookup x=some c')/\∀ x∈l,x.2=.free->∃ c,cl.lookup x.1=some c:=by
  intro l
  induction l with
  | nil=>intro cs _ h2;exact ⟨cs,rfl,h2,λx c e=>⟨c,e⟩,λx hx=>absurd hx (by simp)⟩
  | cons y l ih=>
   intro cs h1 h2
   by_cases hy:y.2=.free
   ·obtain ⟨c,hc⟩:=h1 y (by simp) hy
    have hcell:cellOf env y.1=pure c:=by unfold cellOf;rw [hc]
    obtain ⟨cl,e,a1,a2,a3⟩:=ih ((y.1,c)::cs) (λx hx=>h1 x (by simp [hx])) (λx c' e=>by
     rw [List.lookup_cons] at e
     split at e
     ·rename_i hb
      cases e
      rw [eq_of_beq hb]
      exact hc
     ·exact h2 x c' e)
    refine ⟨cl,?_,a1,λx c' e'=>?_,λx hx hf=>?_⟩
    ·rw [List.forIn_cons,if_pos (by rw [hy];rfl),hcell]
     exact e
    ·by_cases hb:(x==y.1)=true
     ·exact a2 x c (by rw [List.lookup_cons,hb])
     ·exact a2 x c' (by rw [List.lookup_cons];simp only [Bool.not_eq_true] at hb;rw [hb];exact e')
    ·rcases List.mem_cons.mp hx with rfl | hx
     ·exact a2 x.1 c (by rw [List.lookup_cons];simp)
     ·exact a3 x hx hf
   ·obtain ⟨cl,e,a1,a2,a3⟩:=ih cs (λx hx=>h1 x (by simp [hx])) h2
    refine ⟨cl,?_,a1,a2,λx hx hf=>?_⟩
    ·rw [List.forIn_cons,if_neg (by intro z;exact hy (eq_of_beq z))]
     exact e
    ·rcases List.mem_cons.mp hx with rfl | hx
     ·exact absurd hf hy
     ·exact a3 x hx hf
 obtain ⟨cl,e,a1,_,a3⟩:=gen scope.names [] h (λx c e=>by simp at e)
 refine ⟨cl,?_,a1,a3⟩
 show (forIn scope.names ([]:List (Str×Addr)) (λ(x:Str×NameKind) (r:List (Str×Addr))=>(if x.2==.free then do let c<-cellOf env x.1;pure (ForInStep.yield ((x.1,c)::r)) else pure (ForInStep.yield r):Sem (ForInStep (List (Str×Addr))))) >>= λcs=>pure cs)=pure cl
 rw [e]
 rfl
end PySem
namespace IT
open PySem PySem.Spec L2
noncomputable def clrS:List Nat->St->St
 | [],σ=>σ
 | i::r,σ=>clrS r (σ.set i none)
theorem zeZ:∀ (own:List Nat) (σ:St),(clrS own σ).length=σ.length
 | [],_=>rfl
 | i::r,σ=>by simp [clrS,zeZ r]
theorem ze2:∀ (own:List Nat) (σ:St) (i:Nat) (v:V),(clrS own σ)[i]?=some (some v)->σ[i]?=some (some v)/\i ∉ own
 | [],σ,i,v,e=>⟨e,by simp⟩
 | j::r,σ,i,v,e=>by
  obtain ⟨e1,n1⟩:=ze2 r (σ.set j none) i v e
  by_cases hij:i=j
  ·subst hij
   rw [List.getElem?_set] at e1
   simp only [if_true] at e1
   split at e1<;>cases e1
  ·rw [List.getElem?_set_ne (Ne.symm hij)] at e1
   exact ⟨e1,by simp [hij,n1]⟩
noncomputable def blk (X:Cx) (N':List Str) (s₂:Shared) (H₂:Hp) (cenv:PySem.Env) (fp:List Addr) (pins:List (Addr×Obj)):Cx:=
 { X with N:=N',s₀:=s₂,H₀:=H₂,env:=cenv,outer:=X.stack,ex:=fp,fn:=λ_=>false,pn:=X.pn++pins }
noncomputable def PTs (X:Cx) (ifs:List Expr) (t:TT):Prop:=
 ∀ (pins:List (Addr×Obj)) (s:Shared) (σ:St) (H:Hp) (Q:Bool->Hp->Prop),Inv X pins σ H s->t σ H Q →
  wpAny (model X.prog X.w) X.A (forIn ifs true λc r=>if r=true then do let ok<-isTrue c X.env (eval c X.env);pure (ForInStep.yield ok) else pure (ForInStep.yield r)) (TP X pins σ Q) X.xe s
theorem zp3:PTs X [] (λ_ H Q=>Q true H):=λpins s σ H Q I q=>wpAny_tests_nil ⟨H,I,q⟩
theorem zoW (h:PT X c t):PTs X [c] t:=λpins s σ H Q I q=>wpAny_tests_one (h pins s σ H Q I q)
noncomputable def zjw (wi:TI) (own:List Nat) (g:TG) (tc:TT) (te:TE):TE:=λσ H Q=>wi σ H λJ H1=>∃ W:Nat->Nat->List V->Hp->Prop,(∃ m,W 0 m [] H1)/\∀ i m vs H,W i m vs H →
 (J.stop i H/\vs.length<=sizeLine/\∀ a,H a=none->Q (.ref a) (upd H a (.lst vs))) ∨
 (J.go i H/\vs.length<sizeLine/\∀ x H',J.yld i H x H'->g x (clrS own σ) H' λσ2 H2=>tc σ2 H2 λb H3=>if b=true then te σ2 H3 λv H4=>∃ m',m'<m/\W (i+1) m' (vs++[v]) H4 else ∃ m',m'<m/\W (i+1) m' vs H3)
section
variable {X:Cx}
theorem zox {cl:List (Str×Addr)} (hcell:∀ y∈scope.names,y.2≠.cell) (hcl2:∀ x∈scope.names,x.2=.free->∃ c,cl.lookup x.1=some c):∀ x,Vis (relabel scope X.env) x->(relabel scope X.env).names.lookup x≠some .local->∃ c,cl.lookup x=some c:=by
 intro x hv hnl
 have : ∀ (l:List (Str×NameKind)),(∀ y∈l,y.2≠.cell)->(∀ y∈l,y.2=.free->∃ c,cl.lookup y.1=some c)->∀ k,(k=.cell\/k=.free) →
   (l.map λ(n,k)=>if (k==NameKind.free&&X.env.scope.kind==.function&&X.env.kindOf n==some .cell) then (n,NameKind.cell) else (n,k)).lookup x=some k->∃ c,cl.lookup x=some c:=by
  intro l
  induction l with
  | nil=>intro _ _ k _ e;simp at e
  | cons y l ih=>
   intro h1 h2 k hkk e
   obtain ⟨n,kd⟩:=y
   rw [List.map_cons] at e
   by_cases hb:(kd==NameKind.free&&X.env.scope.kind==.function&&X.env.kindOf n==some .cell)=true
   ·simp only [hb,if_true] at e
    rw [List.lookup_cons] at e
    split at e
    ·rename_i hx
     rw [eq_of_beq hx]
     refine h2 (n,kd) (by simp) ?_
     rw [Bool.and_eq_true,Bool.and_eq_true] at hb
     exact eq_of_beq hb.1.1
    ·exact ih (λy hy=>h1 y (by simp [hy])) (λy hy=>h2 y (by simp [hy])) k hkk e
   ·simp only [hb] at e
    rw [List.lookup_cons] at e
    split at e
    ·rename_i hx
     have e':kd=k:=by simpa using e
     subst e'
     rw [eq_of_beq hx]
     rcases hkk with z | z
     ·exact absurd z (h1 (n,kd) (by simp))
     ·exact h2 (n,kd) (by simp) z
    ·exact ih (λy hy=>h1 y (by simp [hy])) (λy hy=>h2 y (by simp [hy])) k hkk e
 rcases hv with z | z | z
 ·exact absurd z hnl
 ·exact this scope.names hcell hcl2 .cell (.inl rfl) z
 ·exact this scope.names hcell hcl2 .free (.inr rfl) z
theorem zoP {own:List Nat} {H₂:Hp} {s₂:Shared} {fp:List Addr} {h₄:Heap} {tk:Nat}
  (hkind:scope.kind=.function) (hcell:∀ y∈scope.names,y.2≠.cell)
  (hN:∀ (i:Nat) (x:Str),N'[i]?=some x->Vis (relabel scope X.env) x->i∈own\/(X.N[i]?=some x/\(X.env.kindOf x=some .cell\/X.env.kindOf x=some .free)/\(relabel scope X.env).names.lookup x≠some .local))
  (hlen:N'.length=X.N.length) (hcl1:∀ x c,cl.lookup x=some c->X.env.cells.lookup x=some c) (hcl2:∀ x∈scope.names,x.2=.free->∃ c,cl.lookup x.1=some c)
  (I:Inv X pins σ H₂ s₂) (hf:∀ b∈fp,FpOk X pins H₂ b) (hex:∀ b∈fp,b<s₂.heap.objs.size)
  (hk:∀ b o,s₂.heap.get? b=some o->h₄.get? b=some o) (hns:∃ m,h₄.Ns (s₂.heap.objs.size+1) m) (hacc:h₄.get? s₂.heap.objs.size=some { cls:=.type "list",data:=.seq #[] }) :
  Inv (blk X N' s₂ H₂ (compEnvC scope cl (s₂.heap.objs.size+1) X.env) fp pins) [(s₂.heap.objs.size,{ cls:=.type "list",data:=.seq #[] })] (clrS own σ) H₂ { s₂ with heap:=h₄,toks:=tk }:=by
 have fsub:∀ b∈frs X.stack,b=X.env.locals\/b∈X.fs:=λb hb=>List.mem_cons.mp (I.stkSub b hb)
 have fresh:∀ b,s₂.heap.objs.size<=b->H₂ b=none:=λb hb=>I.hok.fresh hb
 have flt:∀ b∈frs X.stack,b<s₂.heap.objs.size:=λb hb=>by
  obtain ⟨_,o,ho,_⟩:=I.stack.mem hb
  exact Heap.lt_size ho
 have vis_free:=zox (X:=X) hcell hcl2
 refine ⟨⟨I.ok.mod,?_,I.ok.glob,I.ok.blt,Nat.le_succ _,λx y c e1 e2=>I.ok.inj x y c (hcl1 x c e1) (hcl1 y c e2),λx hx=>?_,λx c e=>absurd (show false=true from e) Bool.false_ne_true,I.ok.hd,I.ok.frames,.inl rfl,λb hb=>⟨?_,λx c e=>?_⟩,I.bs,Nat.le_trans I.ok.bsz I.sz,λb o e hb=>?_,λb hb hb2=>?_,I.stack,I.stkFree⟩,
  rfl,I.bare,Un.kept hk,?_,λx c e=>?_,fresh _ (Nat.le_succ _),λx c e=>I.freeC x c (hcl1 x c e),λp hp=>?_,I.hok.kept hk,?_⟩
 ·exact hkind
 ·rcases hx with z | z
  ·exact vis_free x (.inr (.inl z)) (by
    have z':(relabel scope X.env).names.lookup x=some .cell:=z
    rw [z'];decide)
  ·exact vis_free x (.inr (.inr z)) (by
    have z':(relabel scope X.env).names.lookup x=some .free:=z
    rw [z'];decide)
 ·exact Nat.ne_of_lt (Nat.lt_succ_of_lt (hex b hb))
 ·exact (hf b hb).2.2.2.2.1 x c (hcl1 x c e)
 ·rcases (hf b hb).2.2.2.1 with z | z
  ·exact I.ok.noex b o e z
  ·have h1:b<X.base.objs.size:=Heap.lt_size e
   have h2:=I.ok.bsz
   exact absurd (Nat.lt_of_lt_of_le h1 (Nat.le_trans h2 z)) (Nat.lt_irrefl _)
 ·rcases fsub b hb2 with z | z
  ·exact (hf b hb).2.1 z
  ·exact (hf b hb).2.2.1 z
 ·obtain ⟨m,hm⟩:=hns
  obtain ⟨mX,_,hl⟩:=I.loc
  refine ⟨m,hm,λi x v e1 e2 e3=>?_⟩
  obtain ⟨e2',ni⟩:=ze2 own σ i v e2
  rcases hN i x e1 e3 with z | ⟨z,zk,nl⟩
  ·exact absurd z ni
  ·have vx:Vis X.env.scope x:=by
    rcases zk with q | q
    ·exact .inr (.inl q)
    ·exact .inr (.inr q)
   obtain ⟨u,ru,lk⟩:=hl i x v z e2' vx
   refine ⟨u,ru,?_⟩
   rcases lk with ⟨q,_⟩ | ⟨_,c,ec,hcv⟩
   ·rcases zk with q' | q'
    ·rw [q] at q';cases q'
    ·rw [q] at q';cases q'
   ·obtain ⟨c',ec'⟩:=vis_free x e3 nl
    have:=hcl1 x c' ec'
    rw [ec] at this
    cases this
    refine .inr ⟨?_,c,ec',hcv.keeps hk⟩
    rcases e3 with q | q | q
    ·exact absurd q nl
    ·exact .inl q
    ·exact .inr q
 ·obtain ⟨v,q⟩:=I.cell x c (hcl1 x c e)
  exact ⟨v,q.keeps hk⟩
 ·rcases List.mem_append.mp hp with z | z
  ·obtain ⟨e1,e2,e3,e4,e5⟩:=I.pin p z
   refine ⟨hk _ _ e1,e2,Nat.ne_of_lt (Nat.lt_succ_of_lt (Heap.lt_size e1)),λhb=>?_,e5⟩
   rcases fsub p.1 hb with q | q
   ·exact e3 q
   ·exact e4 q
  ·have ep:p=(s₂.heap.objs.size,({ cls:=.type "list",data:=.seq #[] }:Obj)):=by simpa using z
   subst ep
   exact ⟨hacc,fresh _ (Nat.le_refl _),Nat.ne_of_lt (Nat.lt_succ_self _),λhb=>absurd (flt _ hb) (Nat.lt_irrefl _),λv q=>by cases q⟩
 ·show (clrS own σ).length=N'.length
  rw [zeZ,hlen]
  exact I.len
theorem zgN {own:List Nat} {σ σ':St} {H₂ H':Hp} {s₂ s':Shared} {fp:List Addr}
  (hcell:∀ y∈scope.names,y.2≠.cell)
  (hN:∀ (i:Nat) (x:Str),N'[i]?=some x->Vis (relabel scope X.env) x->i∈own\/(X.N[i]?=some x/\(X.env.kindOf x=some .cell\/X.env.kindOf x=some .free)/\(relabel scope X.env).names.lookup x≠some .local))
  (hlen:N'.length=X.N.length) (hcl1:∀ x c,cl.lookup x=some c->X.env.cells.lookup x=some c) (hcl2:∀ x∈scope.names,x.2=.free->∃ c,cl.lookup x.1=some c)
  (I:Inv X pins σ H₂ s₂) (hf:∀ b∈fp,FpOk X pins H₂ b) (J:Inv (blk X N' s₂ H₂ (compEnvC scope cl C X.env) fp pins) pl σ' H' s'):Inv (blk X N' s₂ H₂ (compEnvC scope cl C X.env) fp pins) pl (clrS own σ) H' s':=by
 refine ⟨J.ok,J.os,J.bare,J.base,?_,J.cell,J.free,J.freeC,J.pin,J.hok,?_⟩
 ·obtain ⟨m,hm,_⟩:=J.loc
  obtain ⟨mX,_,hl⟩:=I.loc
  refine ⟨m,hm,λi x v e1 e2 e3=>?_⟩
  obtain ⟨e2',ni⟩:=ze2 own σ i v e2
  rcases hN i x e1 e3 with z | ⟨z,zk,nl⟩
  ·exact absurd z ni
  ·have vx:Vis X.env.scope x:=by
    rcases zk with q | q
    ·exact .inr (.inl q)
    ·exact .inr (.inr q)
   obtain ⟨u,ru,lk⟩:=hl i x v z e2' vx
   refine ⟨u,ru,?_⟩
   rcases lk with ⟨q,_⟩ | ⟨_,c,ec,o,ho,hd⟩
   ·rcases zk with q' | q'
    ·rw [q] at q';cases q'
    ·rw [q] at q';cases q'
   ·obtain ⟨c',ec'⟩:=zox (X:=X) hcell hcl2 x e3 nl
    have:=hcl1 x c' ec'
    rw [ec] at this
    cases this
    have hcv:s'.heap.IsCell c (some u):=by
     obtain ⟨sl,q⟩:=J.base.any ho (I.freeC x c ec) λhb=>(hf c hb).2.2.2.2.1 x c ec rfl
     exact ⟨_,q,hd⟩
    refine .inr ⟨?_,c,ec',hcv⟩
    rcases e3 with q | q | q
    ·exact absurd q nl
    ·exact .inl q
    ·exact .inr q
 ·show (clrS own σ).length=N'.length
  rw [zeZ,hlen]
  exact I.len
theorem znr
  (I:Inv X pins σ H₂ s₂) (hf:∀ b∈fp,FpOk X pins H₂ b) (J:Inv (blk X N' s₂ H₂ cenv fp pins) pl σ' H' s') (hacc:s₂.heap.objs.size<=acc) (hn:H' acc=none)
  (ho:s'.heap.get? acc=some { cls:=.type "list",data:=.seq its.toArray n }) (r:Vals vs its) (hz:vs.length<=sizeLine):Inv X pins σ (upd H' acc (.lst vs)) s':=by
 have lt:∀ b o,s₂.heap.get? b=some o->b≠acc:=λb o e z=>absurd (Nat.lt_of_lt_of_le (Heap.lt_size e) (by rw [z];exact hacc)) (Nat.lt_irrefl _)
 refine I.call' (ch:=fp) J.os ⟨J.base.keep,J.base.slot,λb o e n hx=>?_,J.base.there,λb xs e=>?_,λb o u e=>?_,λb ps e=>?_⟩ (λb u e=>?_) J.bare (λb hb=>?_)
 ·rw [zak (lt b o e)]
  exact J.base.free b o e n hx
 ·have:=J.base.tups b xs e
  rw [zak (zap this hn)]
  exact this
 ·have:=J.base.frzs b o u e
  rw [zak (zap this hn)]
  exact this
 ·obtain ⟨more,this⟩:=J.base.tbls b ps e
  refine ⟨more,?_⟩
  rw [zak (zap this hn)]
  exact this
 ·by_cases hb:b=acc
  ·subst hb
   rw [zaj] at e
   cases e
   exact ⟨hz,its,n,r,ho⟩
  ·rw [zak hb] at e
   exact (J.hok b u e).stay (λc o _ q=>q) (λc q=>by rw [zak (zap q hn)];exact q) λc xs q=>by rw [zak (zap q hn)];exact q
 ·obtain ⟨_,h1,_,h3,h4,h5⟩:=hf b hb
  exact ⟨h3,h1,h4,h5⟩
end
section
variable {X:Cx}
structure Gone (X:Cx) (pins:List (Addr×Obj)) (H:Hp) (C:Addr) (s:Shared):Prop where
 ns:∃ m,s.heap.Ns C m
 free:H C=none
 loc:C≠X.env.locals
 fs:C ∉ X.fs
 new:X.s₀.heap.objs.size<=C
 cel:∀ x c,X.env.cells.lookup x=some c->c≠C
 pin:∀ p∈X.pn++pins,p.1≠C
inductive CI (P:List Value->Nat->Hp->Shared->Prop) (tn:Nat->Heap->Prop) (fp:List Addr) (W:Nat->Nat->List V->Hp->Prop) (n:Nat) (s':Shared):Prop
 | mk (i:Nat) (vs:List V) (H':Hp) (its:List Value) (nn:Nat) (J:P its nn H' s') (st:tn i s'.heap) (fr:∀ b∈fp,H' b=none) (rv:Vals vs its) (w:W i n vs H')
theorem zgS
  {cl:List (Str×Addr)} {RR:Value->Addr->Result->Shared->Prop}
  (hx:X.xe=λ_ _=>False) (hc:X.calm=true) (hkind:scope.kind=.function) (hcell:∀ y∈scope.names,y.2≠.cell)
  (hN:∀ (i:Nat) (x:Str),N'[i]?=some x->Vis (relabel scope X.env) x->i∈own\/(X.N[i]?=some x/\(X.env.kindOf x=some .cell\/X.env.kindOf x=some .free)/\(relabel scope X.env).names.lookup x≠some .local))
  (hlen:N'.length=X.N.length) (hcl1:∀ x c,cl.lookup x=some c->X.env.cells.lookup x=some c) (hcl2:∀ x∈scope.names,x.2=.free->∃ c,cl.lookup x.1=some c)
  (hi:PI X tg iter wi)
  (hB:∀ s₂ H₂ C fp,PG (blk X N' s₂ H₂ (compEnvC scope cl C X.env) fp pins) tg g/\PTs (blk X N' s₂ H₂ (compEnvC scope cl C X.env) fp pins) ifs tc/\PE (blk X N' s₂ H₂ (compEnvC scope cl C X.env) fp pins) elt te)
  (I:Inv X pins σ H s) (q:zjw wi own g tc te σ H Q)
  (hRR:∀ a C s' H',Inv X pins σ H' s'->Q (.ref a) H'->Gone X pins H' C s'->RR (.ref a) C (.ok .next) s') :
  wpAny (model X.prog X.w) X.A (eval iter X.env) (λx s₁=>wpAny (model X.prog X.w) X.A (pyIter x) (λit s₂=>wpAny (model X.prog X.w) X.A (newList []) (λacc s₃=>
   wpAny (model X.prog X.w) X.A (newFunctionEnv scope X.env.globals cl [] X.env.qual none .none (some X.env)) (λcenv s₄=>
    codeAny (model X.prog X.w) X.A (.compStart (.ListComp elt [⟨tg,iter,ifs,0⟩] scope pos) 0 it acc { cenv with scope:=relabel scope X.env }) (RR acc cenv.locals) s₄) X.xe s₃) X.xe s₂) X.xe s₁) X.xe s:=by
 refine thn (hi pins s σ H _ I q) λv s1 h1=>thn h1 λitv s2 h2=>?_
 obtain ⟨it,fp,tn,J,H2,e,I2,T,st2,f2,W,⟨m0,w0⟩,turn⟩:=h2
 subst e
 refine wpAny_newObj_type (wpAny_newFunctionEnv hcell (by intro y hy;simp at hy) (λh₁ hns₁ hsb₁=>?_) hkind)
 dsimp only at hns₁ hsb₁ ⊢
 generalize hG:s2.heap.push { cls:=.type "list",dict:=none,data:=.seq ([]:List Value).toArray }=G at hns₁ hsb₁ ⊢
 have hGs:G.objs.size=s2.heap.objs.size+1:=by rw [<-hG,Heap.size_push]
 rw [hGs] at hns₁ hsb₁ ⊢
 have hold:∀ b o,s2.heap.get? b=some o->h₁.get? b=some o:=λb o e=>hsb₁.extBut b o (Nat.ne_of_lt (Nat.lt_succ_of_lt (Heap.lt_size e))) (Heap.get?_push_of_some _ (hG▸Heap.get?_push_of_some _ e))
 have hacc:h₁.get? s2.heap.objs.size=some { cls:=.type "list",data:=.seq #[] }:=hsb₁.extBut _ _ (Nat.ne_of_lt (Nat.lt_succ_self _)) (Heap.get?_push_of_some _ (hG▸Heap.get?_push_size _ rfl))
 have hex:∀ b∈fp,b<s2.heap.objs.size:=λb hb=>by
  obtain ⟨o,ho,_⟩:=T.obj _ _ st2 b hb
  exact Heap.lt_size ho
 have J0:=zoP (X:=X) (own:=own) (tk:=s2.toks+([]:List (Str×Value)).length) hkind hcell hN hlen hcl1 hcl2 I2 f2 hex hold ⟨_,hns₁⟩ hacc
 have st4:tn 0 h₁:=T.keep _ _ _ st2 λb hb o e=>hold b o e
 have frame:∀ b∈frs X.stack,b≠X.env.locals->b∈X.fs:=λb hb hne=>by
  rcases List.mem_cons.mp (I2.stkSub b hb) with z | z
  ·exact absurd z hne
  ·exact z
 have stat:∀ {H':Hp} {pl:List (Addr×Obj)},(∀ b∈fp,H' b=none)->(∀ p∈pl,∀ b∈fp,p.1≠b)->∀ b∈fp,FpOk (blk X N' s2 H2 (compEnvC scope cl (s2.heap.objs.size+1) X.env) fp pins) pl H' b:=by
  intro H' pl hn hp b hb
  obtain ⟨g0,g1,g2,g3,g4,g5⟩:=f2 b hb
  refine ⟨hn b hb,Nat.ne_of_lt (Nat.lt_succ_of_lt (hex b hb)),λhs=>?_,.inl hb,λx c e=>g4 x c (hcl1 x c e),λp hpp=>?_⟩
  ·exact g2 (frame b hs g1)
  ·rcases List.mem_append.mp hpp with z | z
   ·exact g5 p z
   ·exact hp p z b hb
 have accne:∀ b∈fp,s2.heap.objs.size≠b:=λb hb z=>absurd (hex b hb) (by rw [<-z];exact Nat.lt_irrefl _)
 have loop:codeAny (model X.prog X.w) X.A (.compLoop (.ListComp elt [⟨tg,iter,ifs,0⟩] scope pos) 0 (.ref it) (.ref s2.heap.objs.size) (compEnvC scope cl (s2.heap.objs.size+1) X.env)) (RR (.ref s2.heap.objs.size) (s2.heap.objs.size+1))
   { s2 with heap:=h₁,toks:=s2.toks+([]:List (Str×Value)).length }:=by
  refine zhD (CI (λits nn H' s'=>Inv (blk X N' s2 H2 (compEnvC scope cl (s2.heap.objs.size+1) X.env) fp pins) [(s2.heap.objs.size,{ cls:=.type "list",data:=.seq its.toArray nn })] (clrS own σ) H' s') tn fp W) ?_ m0 ⟨0,[],H2,[],0,J0,st4,λb hb=>(f2 b hb).1,.nil,w0⟩
  rintro n s3 ⟨i,vs,H3,its,nn,J3,st3,fr3,rv,w3⟩
  have pne:∀ p∈[(s2.heap.objs.size,({ cls:=.type "list",data:=.seq its.toArray nn }:Obj))],∀ b∈fp,p.1≠b:=by
   intro p hp b hb
   have ep:p=(s2.heap.objs.size,({ cls:=.type "list",data:=.seq its.toArray nn }:Obj)):=by simpa using hp
   rw [ep]
   exact accne b hb
  rcases turn i n vs H3 w3 with ⟨stop,hz,qn⟩ | ⟨go,hz,step⟩
  ·refine wpAny_mono (T.done (blk X N' s2 H2 (compEnvC scope cl (s2.heap.objs.size+1) X.env) fp pins) rfl rfl rfl hc i _ s3 _ H3 (λ_ _=>False) J3 (stat fr3 pne) st3 stop) (λr s4 qW=>?_) λ_ _ z=>z
   obtain ⟨hr,I4⟩:=qW
   subst hr
   obtain ⟨ea,na,_,_,_⟩:=I4.pin (s2.heap.objs.size,_) (List.mem_append_right _ (List.mem_singleton.mpr rfl))
   have I5:=znr (X:=X) I2 f2 I4 (Nat.le_refl _) na ea rv hz
   obtain ⟨m,hm,_⟩:=I4.loc
   refine hRR _ _ s4 _ I5 (qn _ na) ⟨⟨m,hm⟩,?_,?_,λhb=>?_,?_,λx c e=>?_,λp hp=>?_⟩
   ·rw [zak (Nat.ne_of_gt (Nat.lt_succ_self _))]
    exact I4.free
   ·exact Nat.ne_of_gt (Nat.lt_succ_of_lt I2.lt)
   ·exact I2.nofs (Nat.le_succ _) hb
   ·exact Nat.le_trans I2.sz (Nat.le_succ _)
   ·obtain ⟨v,z⟩:=I2.cell x c e
    exact Nat.ne_of_lt (Nat.lt_succ_of_lt z.lt)
   ·exact Nat.ne_of_lt (Nat.lt_succ_of_lt (Heap.lt_size (I2.pin p hp).1))
  ·refine wpAny_mono (T.item (blk X N' s2 H2 (compEnvC scope cl (s2.heap.objs.size+1) X.env) fp pins) rfl rfl rfl hc i _ s3 _ H3 (λ_ _=>False) J3 (stat fr3 pne) st3 go) (λr s4 qW=>?_) λ_ _ z=>z
   obtain ⟨u,hr,h4⟩:=qW
   subst hr
   refine wpAny_mono h4 (λ_ s5 qW=>?_) λ_ _ z=>z
   obtain ⟨x,H5,I5,r5,y5,st5,fr5⟩:=qW
   have I5':=I5.pinned (stat fr5 pne) (T.obj _ _ st5)
   obtain ⟨hg,ht,he⟩:=hB s2 H2 (s2.heap.objs.size+1) fp
   have nx:∀ {e:Value} {s:Shared},(blk X N' s2 H2 (compEnvC scope cl (s2.heap.objs.size+1) X.env) fp pins).xe e s->False:=λz=>by
    have z':X.xe _ _:=z
    rw [hx] at z'
    exact z'
   refine wpAny_mono (hg _ s5 _ H5 x u _ I5' r5 (step x H5 y5)) (λ_ s6 qW=>?_) λ_ _ z=>nx z
   obtain ⟨σ6,H6,I6,q6⟩:=qW
   refine wpAny_mono (ht _ s6 σ6 H6 _ I6 q6) (λok s7 qW=>?_) λ_ _ z=>nx z
   obtain ⟨H7,I7,q7⟩:=qW
   have keepIt:∀ {σ8:St} {H8:Hp} {s8:Shared},Inv (blk X N' s2 H2 (compEnvC scope cl (s2.heap.objs.size+1) X.env) fp pins) ([(s2.heap.objs.size,({ cls:=.type "list",data:=.seq its.toArray nn }:Obj))]++zgf fp s5.heap) σ8 H8 s8 →
     tn (i+1) s8.heap/\∀ b∈fp,H8 b=none:=λ{σ8 H8 s8} I8=>by
    refine ⟨T.keep _ _ _ st5 λb hb o e=>(I8.pin (b,o) (List.mem_append_right _ (List.mem_append_right _ (zbL hb e)))).1,λb hb=>?_⟩
    obtain ⟨o,e,d⟩:=T.obj _ _ st5 b hb
    exact (I8.pin (b,o) (List.mem_append_right _ (List.mem_append_right _ (zbL hb e)))).2.1
   cases ok with
   | false=>
    simp only [Bool.false_eq_true,if_false] at q7 ⊢
    obtain ⟨m',hm',w7⟩:=q7
    obtain ⟨k1,k2⟩:=keepIt I7
    exact ⟨m',hm',i+1,vs,H7,its,nn,zgN hcell hN hlen hcl1 hcl2 I2 f2 I7.unpinned,k1,k2,rv,w7⟩
   | true=>
    simp only [if_true] at q7 ⊢
    refine wpAny_mono (he _ s7 σ6 H7 _ I7 q7) (λy s8 qW=>?_) λ_ _ z=>nx z
    obtain ⟨vy,H8,I8,r8,m',hm',w8⟩:=qW
    obtain ⟨k1,k2⟩:=keepIt I8
    obtain ⟨ea,na,nl,nf,nd⟩:=I8.unpinned.pin (s2.heap.objs.size,_) (List.mem_append_right _ (List.mem_singleton.mpr rfl))
    have hl:=rv.length
    refine call_meets F.slot_list_append ⟨_,ea,rfl⟩ F.entry_list_append (F.args_list_append_2 _ _) (PySem.list_append s2.heap.objs.size its.toArray nn y (by rw [List.size_toArray];omega)) ⟨ea,?_⟩
    have J8:=zgN hcell hN hlen hcl1 hcl2 I2 f2 (I8.unpinned)
    have J8':Inv (blk X N' s2 H2 (compEnvC scope cl (s2.heap.objs.size+1) X.env) fp pins) [] (clrS own σ) H8 s8:=J8.pins_of λp hp=>absurd hp (by simp)
    have up:=Heap.get?_update_self (Obj.mapSeq λx_1=>x_1.push y) ea rfl
    obtain ⟨n',en⟩:∃ n',Obj.mapSeq (λx_1=>x_1.push y) ({ cls:=.type "list",data:=.seq its.toArray nn }:Obj)={ cls:=.type "list",data:=.seq (its.toArray.push y) n' }:=⟨_,rfl⟩
    have J9:=J8'.turned (t':=s8.toks) (it:=s2.heap.objs.size) (h':=s8.heap.update s2.heap.objs.size (Obj.mapSeq λx_1=>x_1.push y)) (λb o hb e=>(Heap.get?_update_other _ _ (Ne.symm hb)).trans e) na nl (.inr (Nat.le_refl _))
     (fun x c e=>by
      obtain ⟨v,z⟩:=I2.cell x c (hcl1 x c e)
      exact Nat.ne_of_lt z.lt)
     (fun p hp=>by
      have hp':p∈X.pn++pins:=by simpa [blk] using hp
      exact Nat.ne_of_lt (Heap.lt_size (I2.pin p hp').1))
    refine ⟨m',hm',i+1,vs++[vy],H8,its++[y],n',?_,T.keep _ _ _ k1 λb hb o e=>(Heap.get?_update_other _ _ (accne b hb)).trans e,k2,rv.append (.cons r8 .nil),w8⟩
    refine J9.pins_of λp hp=>?_
    have ep:p=(s2.heap.objs.size,({ cls:=.type "list",data:=.seq (its++[y]).toArray n' }:Obj)):=by simpa using hp
    subst ep
    refine ⟨?_,na,nl,nf,λv q=>by cases q⟩
    show (s8.heap.update s2.heap.objs.size (Obj.mapSeq λx_1=>x_1.push y)).get? s2.heap.objs.size=_
    rw [up]
    show some (Obj.mapSeq (λx_1=>x_1.push y) ({ cls:=.type "list",data:=.seq its.toArray nn }:Obj))=_
    rw [en]
    simp
 exact codeAny_compStart_list loop (T.self _ 0 _ _ _ st4 loop)
end
section
variable {X:Cx}
structure ziX (X:Cx) (scope:Scope) (N':List Str) (own:List Nat):Prop where
 kind:scope.kind=.function
 cell:∀ y∈scope.names,y.2≠.cell
 names:∀ x∈scope.names,x.2=.local->scope.names.lookup x.1=some .local
 free:∀ x∈scope.names,x.2=.free->X.env.kindOf x.1=some .cell\/X.env.kindOf x.1=some .free
 slots:∀ (i:Nat) (x:Str),N'[i]?=some x->Vis (relabel scope X.env) x->i∈own\/(X.N[i]?=some x/\(X.env.kindOf x=some .cell\/X.env.kindOf x=some .free)/\(relabel scope X.env).names.lookup x≠some .local)
 len:N'.length=X.N.length
theorem Gone.turned (g:Gone X pins H C s) (I:Inv X pins σ H s) (sb:Heap.SameBut C s.heap h'):Inv X pins σ H { s with heap:=h' }:=
 I.turned (t':=s.toks) (λb o hb e=>(sb.2 b hb).trans e) g.free g.loc (.inr g.new) g.cel g.pin
theorem zkx
  (hx:X.xe=λ_ _=>False) (hc:X.calm=true) (K:ziX X scope N' own) (hi:PI X tg iter wi)
  (hB:∀ cl pins s₂ H₂ C fp,PG (blk X N' s₂ H₂ (compEnvC scope cl C X.env) fp pins) tg g/\PTs (blk X N' s₂ H₂ (compEnvC scope cl C X.env) fp pins) ifs tc/\PE (blk X N' s₂ H₂ (compEnvC scope cl C X.env) fp pins) elt te)
  (hs:∀ x,foldedSetIterable iter X.env x=pure x):PE X (.ListComp elt [⟨tg,iter,ifs,0⟩] scope pos) (zjw wi own g tc te):=by
 intro pins s σ H Q I q
 obtain ⟨cl,hclos,hcl1,hcl2⟩:=zcK (scope:=scope) (env:=X.env) (λx hx hf=>I.ok.has x.1 (K.free x hx hf))
 rw [eval_ListComp]
 refine wpAny_comprehension_free (use:=none) rfl hs hclos K.kind K.names (zgS hx hc K.kind K.cell K.slots K.len hcl1 hcl2 hi (hB cl pins) I q ?_)
 intro a C s' H' I' q' gn
 obtain ⟨m,hm⟩:=gn.ns
 exact ⟨m,hm,λh' sb=>⟨.ref a,H',gn.turned I' sb,rfl,q'⟩⟩
theorem zhs
  (hx:X.xe=λ_ _=>False) (hc:X.calm=true) (K:ziX X scope N' own) (hi:PI X tg iter wi)
  (hB:∀ cl pins s₂ H₂ C fp,PG (blk X N' s₂ H₂ (compEnvC scope cl C X.env) fp pins) tg g/\PTs (blk X N' s₂ H₂ (compEnvC scope cl C X.env) fp pins) ifs tc/\PE (blk X N' s₂ H₂ (compEnvC scope cl C X.env) fp pins) elt te)
  (hs:∀ x,foldedSetIterable iter X.env x=pure x) (hsw:swapsWith (.ListComp elt [⟨tg,iter,ifs,0⟩] scope pos) (some (.Name y py)) spos.line X.env=pure true)
  (hg:PG X (.Name y py) (zmP iy)):PS X (.Assign [.Name y py] (.ListComp elt [⟨tg,iter,ifs,0⟩] scope pos) spos) (tAsg (zjw wi own g tc te) (zmP iy)):=by
 intro pins s σ H D I q
 obtain ⟨cl,hclos,hcl1,hcl2⟩:=zcK (scope:=scope) (env:=X.env) (λx hx hf=>I.ok.has x.1 (K.free x hx hf))
 rw [exec_Assign_Name_used _ _ _ _ hsw]
 refine wpAny_bind (wpAny_standAt (wpAny_bind ?_))
 show wpAny _ X.A (do let _<-comprehension (.ListComp elt [⟨tg,iter,ifs,0⟩] scope pos) scope X.env _ (newList []) false (eval iter X.env) (some (assign (.Name y py) X.env))) _ _ s
 refine wpAny_bind (wpAny_mono (wpAny_comprehension_free (use:=some (assign (.Name y py) X.env)) (Q:=λ_ s'=>SP X pins D .next s') rfl hs hclos K.kind K.names
  (zgS hx hc K.kind K.cell K.slots K.len hcl1 hcl2 hi (hB cl pins) I q ?_)) (λ_ s' hq=>wpAny_pure (wpAny_pure hq)) λ_ _ e=>e)
 intro a C s' H' I' q' gn
 obtain ⟨m,o,es,ep,ho,hd,hr⟩:=id gn.ns
 have Ip:Inv X (pins++[(C,o)]) σ H' s':=I'.pins_of λp hp=>(List.mem_append.mp hp).elim (λz=>I'.pin p (List.mem_append_right _ z)) λz=>by
  have ep:p=(C,o):=by simpa using z
  subst ep
  exact ⟨ho,gn.free,gn.loc,gn.fs,λv z=>by rw [hd] at z;cases z⟩
 refine thn (hg _ s' σ H' (.ref a) (.ref a) _ Ip rfl q') λ_ s'' qW=>?_
 obtain ⟨σ2,H2,I2,q2⟩:=qW
 obtain ⟨e1,e2,_,_,_⟩:=I2.pin (C,o) (List.mem_append_right _ (List.mem_append_right _ (List.mem_singleton.mpr rfl)))
 have gn2:Gone X pins H2 C s'':=⟨⟨m,o,es,ep,e1,hd,hr⟩,e2,gn.loc,gn.fs,gn.new,gn.cel,gn.pin⟩
 exact ⟨m,⟨o,es,ep,e1,hd,hr⟩,λh' sb=>⟨σ2,H2,gn2.turned I2.unpinned sb,q2⟩⟩
theorem RepE.clr:∀ (own:List Nat) {env:IT.Env} {σ:St},RepE K μ h H env σ->RepE K μ h H (clr own env) (clrS own σ)
 | [],env,σ,q=>q
 | i::r,env,σ,q=>by
  refine RepE.clr r ⟨by simp [q.len],λj rr e=>?_⟩
  by_cases hj:j=i
  ·subst hj
   rw [List.getElem?_set] at e
   simp only [if_true] at e
   split at e<;>cases e
  ·rw [List.getElem?_set_ne (Ne.symm hj)] at e ⊢
   exact q.get j rr e
structure ElK {α:Type} (K:PySem.W.Frag) (kp:R->M α) (Rel:List Addr->Sto->Hp->α->V->Prop):Prop where
 kp:∀ {μ h H r v d h'},Rep K μ h H->RepR K μ h H r v->kp r h=some (d,h')->Stp μ h H μ h' H/\Rep K μ h' H/\Rel μ h' H d v
 stp:∀ {μ h H μ' h' H' d v},Stp μ h H μ' h' H'->Rep K μ h H->Rel μ h H d v->Rel μ' h' H' d v
noncomputable def zgr {α:Type} (kp:R->M α) (t:Tg) (ft:IT.Env->M Bool) (fe:IT.Env->M R) (σ:IT.Env) (x:Ite):M (Option α):=
 bnd (zaD t x (clr t.slots σ)) λσ'=>bnd (ft σ') λb=>if b then bnd (fe σ') λr=>bnd (kp r) λd=>ok (some d) else ok none
noncomputable def tLsG {α:Type} (K:PySem.W.Frag) (Rel:List Addr->Sto->Hp->α->V->Prop) (f:IT.Env->M (List α)):TE:=λσ H Q=>∃ μ h env,Rep K μ h H/\RepE K μ h H env σ/\∃ xs h',f env h=some (xs,h') ∧
 ∀ μ' H' a vs,Stp μ h H μ' h' H'->Rep K μ' h' H'->Paired (Rel μ' h' H') xs vs->H' a=none->Q (.ref a) (upd H' a (.lst vs))
theorem zeJ {α β:Type} {F:α->β->Prop} {xs xs':List α} {ys ys':List β} (h:Paired F xs ys) (q:Paired F xs' ys'):Paired F (xs++xs') (ys++ys'):=by
 induction h with
 | nil=>exact q
 | cons r t ih=>exact .cons r ih
inductive CR {α:Type} (K:PySem.W.Frag) (Rel:List Addr->Sto->Hp->α->V->Prop) (tr:List Ite->M (List α)) (w:Wk) (μ1:List Addr) (h1:Sto) (H1:Hp) (h':Sto) (zs:List α) (i m:Nat) (vs:List V) (H2:Hp):Prop
 | mk (μ2:List Addr) (h2:Sto) (ys rest:List α) (s2:Stp μ1 h1 H1 μ2 h2 H2) (sy2:zaz w.l h1 h2=true) (R2:Rep K μ2 h2 H2) (zy:Paired (Rel μ2 h2 H2) ys vs) (him:i+m=w.xs.length) (hyl:ys.length<=i) (el':tr (w.xs.drop i) h2=some (rest,h')) (eys:ys++rest=zs)
theorem zet {α:Type} {K:PySem.W.Frag} {kp:R->M α} {Rel:List Addr->Sto->Hp->α->V->Prop} (el:ElK K kp Rel) {t:Tg} {fi:IT.Env->M Wk} {ft:IT.Env->M Bool} {fe:IT.Env->M R} (hwl:∀ σ h w h',fi σ h=some (w,h')->WlOk w h') {σ:St} {H:Hp} {Q:VK}
  (q:tLsG K Rel (λσ=>bnd (fi σ) λw=>zaZ w.l (zgr kp t ft fe σ) w.xs) σ H Q):zjw (tI K fi) t.slots (tGI K t) (tTv K ft) (tE K fe) σ H Q:=by
 obtain ⟨μ,h,env,R0,re,zs,h',e,k⟩:=q
 simp only [zaa] at e
 obtain ⟨w,h1,e1,e2⟩:=e
 refine ⟨μ,h,env,R0,re,w,h1,e1,λμ1 H1 J s1 R1 W1 hz=>?_⟩
 refine ⟨CR K Rel (zaZ w.l (zgr kp t ft fe env)) w μ1 h1 H1 h' zs,⟨w.xs.length,μ1,h1,[],zs,Stp.refl,zeq _ _ (hwl _ _ _ _ e1),R1,.nil,by omega,Nat.le_refl _,by rw [List.drop_zero];exact e2,rfl⟩,?_⟩
 rintro i m vs H2 ⟨μ2,h2,ys,rest,s2,sy2,R2,zy,him,hyl,el',eys⟩
 have hl:=zy.length
 cases hxx:w.xs[i]? with
 | none=>
  have hi':w.xs.length<=i:=by simpa using hxx
  have hi2:i=w.xs.length:=by omega
  subst hi2
  rw [List.drop_of_length_le (Nat.le_refl _)] at el'
  simp only [zaZ,zab] at el'
  obtain ⟨rfl,rfl⟩:=el'
  rw [List.append_nil] at eys
  subst eys
  exact .inl ⟨W1.stop μ2 h2 H2 s2 R2 sy2,by omega,λa ha=>k μ2 H2 a vs (s1.trans s2) R2 zy ha⟩
 | some x=>
  have hil:i<w.xs.length:=(List.getElem?_eq_some_iff.mp hxx).1
  have hdrop:w.xs.drop i=x::w.xs.drop (i+1):=by
   rw [List.drop_eq_getElem_cons hil]
   have:=(List.getElem?_eq_some_iff.mp hxx).2
   rw [this]
  rw [hdrop] at el'
  simp only [zaZ] at el'
  obtain ⟨go,yld⟩:=W1.go μ2 h2 H2 i x s2 R2 sy2 hxx
  cases ef:zgr kp t ft fe env x h2 with
  | none=>rw [ef] at el';cases el'
  | some p=>
   obtain ⟨od,h3⟩:=p
   rw [ef] at el'
   simp only [zgr,zaa] at ef
   obtain ⟨env4,h4,e4,tt,h5,e5,e6⟩:=ef
   have:=zga e4
   subst this
   refine .inr ⟨go,by omega,λv H' hy=>?_⟩
   obtain ⟨sY,RY,zx⟩:=yld v H' hy
   refine ⟨μ2,_,clr t.slots env,x,env4,RY,RepE.clr _ ((re.stp (s1.trans s2) R0).stp sY R2),zx,e4,λσ4 re4=>⟨μ2,_,env4,RY,re4,tt,h5,e5,λμ5 H5 b s5' R5 hb=>?_⟩⟩
   have s5:=sY.trans s5'
   subst hb
   simp only at el'
   split at el'
   ·rename_i sy3
    simp only [zaa,zab] at el'
    obtain ⟨rest',h6,el'',er,rfl⟩:=el'
    cases tt with
    | false=>
     simp only [Bool.false_eq_true,if_false,zab] at e6 ⊢
     obtain ⟨rfl,rfl⟩:=e6
     refine ⟨m-1,by omega,μ5,_,ys,rest',s2.trans s5,zbp sy2 sy3,R5,L2.Paired.mapP zy λd v z=>el.stp s5 R2 z,by omega,by omega,el'',?_⟩
     rw [<-eys,<-er]
    | true=>
     simp only [if_true,zaa,zab] at e6 ⊢
     obtain ⟨r,h7,e7,d,h8,e8,rfl,rfl⟩:=e6
     refine ⟨μ5,h5,env4,R5,re4.stp s5' RY,r,h7,e7,λμ6 H6 v6 s6 R6 q6=>?_⟩
     obtain ⟨s7,R7,zd⟩:=el.kp R6 q6 e8
     refine ⟨m-1,by omega,μ6,_,ys++[d],rest',((s2.trans s5).trans s6).trans s7,zbp sy2 sy3,R7,zeJ (L2.Paired.mapP zy λd v z=>el.stp s7 R6 (el.stp s6 R5 (el.stp s5 R2 z))) (.cons zd .nil),by omega,by simp;omega,el'',?_⟩
     rw [<-eys,<-er]
     simp
   ·cases el'
theorem ztF (K:PySem.W.Frag):ElK K fz (λμ h H d v=>RepD K (Live μ h) H d v):=⟨zmC,λs r q=>RepD.stp s r q⟩
theorem ztD (K:PySem.W.Frag):ElK K za5 (λμ h H l v=>∃ b,μ[l]?=some b/\v=.ref b):=by
 refine ⟨λ{μ h H r v d h'} R0 q e=>?_,λs r ⟨b,e1,e2⟩=>⟨b,s.pre _ _ e1,e2⟩⟩
 cases r with
 | d x=>cases e
 | loc l=>
  (delta za5 at e;(try dsimp only at e))
  split at e
  ·simp only [Option.some.injEq,Prod.mk.injEq] at e
   obtain ⟨rfl,rfl⟩:=e
   exact ⟨Stp.refl,R0,q⟩
  ·cases e
theorem ziE {K:PySem.W.Frag} {A:Addr->Prop} {H:Hp} {xs:List D} {vs:List V} (h:Paired (RepD K A H) xs vs):RepDs K A H xs vs:=by
 induction h with
 | nil=>exact .nil
 | cons r t ih=>exact .cons r ih
noncomputable def zq3 (t:Tg) (ft:IT.Env->M Bool) (fe:IT.Env->M R) (σ:IT.Env) (x:Ite):M (Option D):=zgr fz t ft fe σ x
theorem zmu {t:Tg} {fi:IT.Env->M Wk} (hwl:∀ σ h w h',fi σ h=some (w,h')->WlOk w h') {H:Hp} {Q:VK}
  (q:tLs K (λσ=>bnd (fi σ) λw=>zaZ w.l (zq3 t ft fe σ) w.xs) σ H Q):zjw (tI K fi) t.slots (tGI K t) (tTv K ft) (tE K fe) σ H Q:=by
 refine zet (ztF K) hwl ?_
 obtain ⟨μ,h,env,R0,re,zs,h',e,k⟩:=q
 exact ⟨μ,h,env,R0,re,zs,h',e,λμ' H' a vs st R1 z ha=>k μ' H' a vs st R1 (ziE z) ha⟩
end
end IT
namespace IT
open PySem PySem.Spec L2
section
variable {X:Cx}
theorem znN:PS X st (tS X.K λ_ _=>none):=λpins s σ H D I ⟨μ,h,env,R0,re,fl,env',h',e,k⟩=>by cases e
theorem znS:IE X e (λ_ _=>none):=λpins s σ H Q I ⟨μ,h,env,R0,re,r,h',e,k⟩=>by cases e
theorem RepDs.rev:∀ {xs:List D} {vs:List V},RepDs K A H xs vs->RepDs K A H xs.reverse vs.reverse
 | [],vs,q=>by simp only [RepDs] at q;subst q;exact .nil
 | x::xs,vs,q=>by
  simp only [RepDs] at q
  obtain ⟨v,r,rfl,q1,q2⟩:=q
  rw [List.reverse_cons,List.reverse_cons]
  exact (RepDs.rev q2).app (.one q1)
theorem zsA (ha:IE X a f) (hst:PE X st (tC (.int (-1)))):IL X (.Subscript a (.Slice none none (some st) p2) pos) (λσ=>bnd (f σ) λr=>bnd (rd r) λd=>opt (revD d)):=by
 intro pins s σ H Q I ⟨μ,h,env,R0,re,xs,h',e,k⟩
 simp only [zaa,zaE] at e
 obtain ⟨r,h1,e1,d,h2,e2,e3,rfl⟩:=e
 refine PyProof.Rows.Subscript_ (thn (ha pins s σ H (λv H1=>∃ a vs,v=.ref a/\SqL X.K H1 a vs/\∀ l,H1 l=none->Q (.ref l) (upd H1 l (.lst vs.reverse))) I ⟨μ,h,env,R0,re,r,h1,e1,λμ1 H1 v s1 R1 q1=>?_⟩) λv s1 ⟨x,H1,I1,r1,q1⟩=>?_)
 ·obtain ⟨rfl,z⟩:=zbK R1 q1 e2
  cases d with
  | lst ys=>
   obtain ⟨a,vs,rfl,q,zs⟩:=z
   replace e3:=Option.some.inj e3
   subst e3
   exact ⟨a,vs,rfl,q,λl hl=>k μ1 H1 l _ s1 R1 (RepDs.rev zs) hl⟩
  | _=>exact zaf e3
 ·obtain ⟨a',vs,rfl,hq,q⟩:=q1
  cases r1
  refine wpAny_Slice (by
   rw [evalPart_none]
   refine wpAny_pure ?_
   refine wpAny_pure ?_
   rw [evalPart_some]
   refine thn (hst pins s1 σ H1 (λx H'=>x=.int (-1)/\H'=H1) I1 ⟨rfl,rfl⟩) λu s3 qW=>?_
   obtain ⟨x,H3,I3,r3,q3⟩:=qW
   obtain ⟨rfl,rfl⟩:=q3
   obtain ⟨t,rfl⟩:=r3
   have I4:Inv X pins σ H3 { s3 with heap:=s3.heap.push { cls:=.type "slice",data:=.fields #[.none,.none,.int (-1) t] } }:=I3.kept (t':=s3.toks) λb ob q=>Heap.get?_push_of_some _ q
   obtain ⟨its,ri,pl,hz⟩:=I4.list hq
   have hlen:=ri.length
   show wpAny (model X.prog X.w) X.A (PyProof.Rows.subscriptTail a (.Slice none none (some st) p2) (.ref a') (.ref s3.heap.objs.size)) (EP X pins σ Q) X.xe { s3 with heap:=s3.heap.push { cls:=.type "slice",data:=.fields #[.none,.none,.int (-1) t] } }
   refine PyProof.Rows.tail_any (ops:=[.ref a',.ref s3.heap.objs.size]) pl.isList.typeIs PySem.slot_list_getitem.lookup ?_ (by with_unfolding_all rfl)
   refine wpAny_getItem_list_slice pl.isList (Heap.IsSliceOf.new ..) .none .none (.int (-1) t) (by decide) ?_ (by rw [List.size_toArray];omega)
   rw [PySem.W.krv_pick]
   exact ⟨.ref _,_,I4.lnew (t':=s3.toks) ri.reverse (by rw [List.length_reverse];exact hz),rfl,q _ I4.fresh⟩)
theorem zgl:∀ {xs:List D} {bs:List Bool},zau xs=some bs->bs.length=xs.length
 | [],bs,e=>by simp only [zau,Option.some.injEq] at e;subst e;rfl
 | x :: xs,bs,e=>by
  simp only [zau] at e
  split at e
  ·split at e
   ·rename_i es
    simp only [Option.some.injEq] at e
    subst e
    simp only [List.length_cons,zgl es]
   ·cases e
  ·cases e
theorem ziV:∀ {xs:List D} {bs:List Bool} {i:Nat} {d:D},zau xs=some bs->xs[i]?=some d->∃ b,bs[i]?=some b/\tru d=some b
 | [],bs,i,d,e,ed=>by simp at ed
 | x :: xs,bs,i,d,e,ed=>by
  simp only [zau] at e
  split at e
  ·rename_i b eb
   split at e
   ·rename_i l es
    simp only [Option.some.injEq] at e
    subst e
    cases i with
    | zero=>
     simp only [List.getElem?_cons_zero,Option.some.injEq] at ed
     subst ed
     exact ⟨b,rfl,eb⟩
    | succ i=>
     obtain ⟨c,e1,e2⟩:=ziV (i:=i) (d:=d) es (by simpa using ed)
     exact ⟨c,by simpa using e1,e2⟩
   ·cases e
  ·cases e
theorem zkC (bs:List Bool):(List.range bs.length).all (λi=>bs.getD i false)=bs.all id:=by
 rw [Bool.eq_iff_iff,List.all_eq_true,List.all_eq_true]
 constructor
 ·intro h b hb
  obtain ⟨i,hi,e⟩:=List.getElem_of_mem hb
  have:=h i (by simpa using hi)
  rw [List.getD_eq_getElem?_getD,List.getElem?_eq_getElem hi] at this
  simpa [e] using this
 ·intro h i hi
  have hi':i<bs.length:=by simpa using hi
  rw [List.getD_eq_getElem?_getD,List.getElem?_eq_getElem hi']
  exact h _ (List.getElem_mem hi')
theorem zlZ (bs:List Bool):(List.range bs.length).any (λi=>bs.getD i false)=bs.any id:=by
 rw [Bool.eq_iff_iff,List.any_eq_true,List.any_eq_true]
 constructor
 ·rintro ⟨i,hi,h⟩
  have hi':i<bs.length:=by simpa using hi
  rw [List.getD_eq_getElem?_getD,List.getElem?_eq_getElem hi'] at h
  exact ⟨_,List.getElem_mem hi',by simpa using h⟩
 ·rintro ⟨b,hb,h⟩
  obtain ⟨i,hi,e⟩:=List.getElem_of_mem hb
  refine ⟨i,by simpa using hi,?_⟩
  rw [List.getD_eq_getElem?_getD,List.getElem?_eq_getElem hi]
  simpa [e] using h
noncomputable def zhm (prog:Program) (w:World) (A:Around) (Hs:Shared->Prop) (P:Nat->Value->Prop) (tr:Nat->Bool):Prop:=
 ∀ i v (t:Shared) (Q:Bool->Shared->Prop) (E:Value->Shared->Prop),P i v->Hs t->(∀ tk,Q (tr i) { t with toks:=tk })->wpAny (model prog w) A (truthy v) Q E t
theorem zbM (h:i<n):(List.range n).drop i=i::(List.range n).drop (i+1):=by
 rw [List.drop_eq_getElem_cons (by simpa using h)]
 simp
section
variable {prog:Program} {w:World} {A:Around} {R:Result->Shared->Prop} {I:Addr} {fp wr:List Addr} {n:Nat} {P:Nat->Value->Prop} {St:Nat->Heap->Prop} {Hs:Shared->Prop}
theorem zk1 (W:Walks prog w A.in1 I fp wr n P St) (tr:Nat->Bool) (hs:∀ t h' tk,Hs t->(∀ b o,b ∉ wr->t.heap.get? b=some o->h'.get? b=some o)->Hs { t with heap:=h',toks:=tk }) (htr:zhm prog w A.in1 Hs P tr) (k:Nat) :
  ∀ (i:Nat) (t:Shared),n-i=k->i<=n->St i t.heap->Hs t →
   (∀ h' tk,(∀ b o,b ∉ wr->t.heap.get? b=some o->h'.get? b=some o)->R (.ok (.ret (.bool (((List.range n).drop i).any tr)))) { t with heap:=h',toks:=tk })->codeAny (model prog w) A (.builtin "any.loop" ⟨[.ref I],[]⟩) R t:=by
 induction k with
 | zero=>
  intro i t hk hi st ht hR
  obtain rfl:i=n:=by omega
  refine codeAny_builtin F.entry_any_loop ?_
  rw [Around.under_plainId F.plain_any_loop _]
  refine wpAny_bind (m:=pyNext (.ref I)) (W.done t _ _ st λh' tk e=>wpAny_bind (wpAny_rule (wpAny_pure ?_)))
  have z:=hR h' tk e
  rwa [List.drop_of_length_le (by simp)] at z
 | succ k ih=>
  intro i t hk hi st ht hR
  have hlt:i<n:=by omega
  refine codeAny_builtin F.entry_any_loop ?_
  rw [Around.under_plainId F.plain_any_loop _]
  refine wpAny_bind (m:=pyNext (.ref I)) (W.item i t _ _ hlt st λv h' tk hP st' e=>wpAny_bind (wpAny_holding (htr i v _ _ _ hP (hs t h' tk ht e) λtk2=>wpAny_bind (wpAny_letGo ?_))))
  cases hb:tr i with
  | false=>
   simp only [Bool.false_eq_true,if_false]
   refine wpAny_pure ⟨plainId_quiet F.plain_any_loop _,ih (i+1) _ (by omega) hlt st' (hs t h' tk2 ht e) λh2 tk3 e2=>?_⟩
   have z:=hR h2 tk3 λb o hbw eb=>e2 b o hbw (e b o hbw eb)
   rwa [zbM hlt,List.any_cons,hb,Bool.false_or] at z
  | true=>
   simp only [if_true]
   refine wpAny_bind (wpAny_rule (wpAny_pure ?_))
   have z:=hR h' tk2 e
   rwa [zbM hlt,List.any_cons,hb,Bool.true_or] at z
theorem zlz (W:Walks prog w A.in1 I fp wr n P St) (tr:Nat->Bool) (hs:∀ t h' tk,Hs t->(∀ b o,b ∉ wr->t.heap.get? b=some o->h'.get? b=some o)->Hs { t with heap:=h',toks:=tk }) (htr:zhm prog w A.in1 Hs P tr) (k:Nat) :
  ∀ (i:Nat) (t:Shared),n-i=k->i<=n->St i t.heap->Hs t →
   (∀ h' tk,(∀ b o,b ∉ wr->t.heap.get? b=some o->h'.get? b=some o)->R (.ok (.ret (.bool (((List.range n).drop i).all tr)))) { t with heap:=h',toks:=tk })->codeAny (model prog w) A (.builtin "all.loop" ⟨[.ref I],[]⟩) R t:=by
 induction k with
 | zero=>
  intro i t hk hi st ht hR
  obtain rfl:i=n:=by omega
  refine codeAny_builtin F.entry_all_loop ?_
  rw [Around.under_plainId F.plain_all_loop _]
  refine wpAny_bind (m:=pyNext (.ref I)) (W.done t _ _ st λh' tk e=>wpAny_bind (wpAny_rule (wpAny_pure ?_)))
  have z:=hR h' tk e
  rwa [List.drop_of_length_le (by simp)] at z
 | succ k ih=>
  intro i t hk hi st ht hR
  have hlt:i<n:=by omega
  refine codeAny_builtin F.entry_all_loop ?_
  rw [Around.under_plainId F.plain_all_loop _]
  refine wpAny_bind (m:=pyNext (.ref I)) (W.item i t _ _ hlt st λv h' tk hP st' e=>wpAny_bind (wpAny_holding (htr i v _ _ _ hP (hs t h' tk ht e) λtk2=>wpAny_bind (wpAny_letGo ?_))))
  cases hb:tr i with
  | true=>
   simp only [if_true]
   refine wpAny_pure ⟨plainId_quiet F.plain_all_loop _,ih (i+1) _ (by omega) hlt st' (hs t h' tk2 ht e) λh2 tk3 e2=>?_⟩
   have z:=hR h2 tk3 λb o hbw eb=>e2 b o hbw (e b o hbw eb)
   rwa [zbM hlt,List.all_cons,hb,Bool.true_and] at z
  | false=>
   simp only [Bool.false_eq_true,if_false]
   refine wpAny_bind (wpAny_rule (wpAny_pure ?_))
   have z:=hR h' tk2 e
   rwa [zbM hlt,List.all_cons,hb,Bool.false_and] at z
end
theorem zd3 (hc:X.calm=true) (all:Bool):zqy X (.builtin (if all then "all" else "any")) (biD (if all then .all else .any)):=by
 intro pins s σ H vs us Q I r q
 obtain ⟨μ,h,ds,z,R0,pr,e,k⟩:=q
 cases pr with
 | nil=>cases all<;>exact zaf e
 | @cons d v ds vs qd pr=>
  cases pr with
  | cons _ _=>cases all<;>cases d<;>exact zaf e
  | nil=>
   cases d with
   | lst xs=>
    obtain ⟨p,ws,rfl,q1,z1⟩:=qd
    have eb:∃ bs,zau xs=some bs/\z=.bl (if all then bs.all id else bs.any id):=by
     cases hb:zau xs with
     | none=>cases all<;>(change (match zau xs with | some bs=>_ | none=>_)=_ at e;rw [hb] at e;exact zaf e)
     | some bs=>cases all<;>(change (match zau xs with | some bs=>_ | none=>_)=_ at e;rw [hb] at e;exact ⟨bs,rfl,(Option.some.inj e).symm⟩)
    obtain ⟨bs,eb,rfl⟩:=eb
    obtain ⟨u,rfl,rx⟩:=zlN r
    cases rx
    obtain ⟨its,ri,pl,hz⟩:=I.list q1
    have hl1:=z1.length
    have hl2:=ri.length
    have hl3:=zgl eb
    have hne:p≠s.heap.objs.size:=by
     obtain ⟨o,n,eo,_⟩:=id pl
     exact Nat.ne_of_lt (Heap.lt_size eo)
    have W:=Walks.list (prog:=X.prog) (w:=X.w) (A:=X.A.in1) (I.ok.hd hc) s.heap.objs.size p hne its.toArray
    let Hs:Shared->Prop:=λt=>∃ h' tk,t={ s with heap:=h',toks:=tk }/\∀ a o,s.heap.get? a=some o->h'.get? a=some o
    have hs:∀ t h' tk,Hs t->(∀ b o,b ∉ [s.heap.objs.size]->t.heap.get? b=some o->h'.get? b=some o)->Hs { t with heap:=h',toks:=tk }:=by
     rintro t h' tk ⟨h1,tk1,rfl,e1⟩ e2
     exact ⟨h',tk,rfl,λa o ea=>e2 a o (by simp;exact Nat.ne_of_lt (Heap.lt_size ea)) (e1 a o ea)⟩
    have htr:zhm X.prog X.w X.A.in1 Hs (λi v=>its.toArray[i]?=some v) (λi=>bs.getD i false):=by
     rintro i v t Q1 E1 ei ⟨h1,tk1,rfl,e1⟩ hq
     have ei':its[i]?=some v:=by simpa using ei
     have hi:i<its.length:=(List.getElem?_eq_some_iff.mp ei').1
     obtain ⟨d,ed⟩:∃ d,xs[i]?=some d:=⟨xs[i]'(by omega),List.getElem?_eq_getElem _⟩
     obtain ⟨b,e2,e3⟩:=ziV eb ed
     obtain ⟨v2,e4,e5⟩:=z1.get ed
     have rv:RelV v2 v:=by
      have:=zn7 ri e4 hi
      rwa [(List.getElem?_eq_some_iff.mp ei').2] at this
     have e6:bs.getD i false=b:=by rw [List.getD_eq_getElem?_getD,e2];rfl
     simp only [e6] at hq
     exact zlK (I.kept (t':=tk1) e1) (RdD.of e5) rv e3 hq
    have st0:(s.heap.push { cls:=.type "list_iterator",data:=.fields #[.ref p,.int 0 0] }).IsListIter s.heap.objs.size p 0/\(s.heap.push { cls:=.type "list_iterator",data:=.fields #[.ref p,.int 0 0] }).IsList p its.toArray:=by
     refine ⟨⟨_,Heap.get?_push_size _ rfl,rfl,rfl⟩,?_⟩
     obtain ⟨o,eo,hcl,n,hd⟩:=pl.isList
     exact ⟨o,Heap.get?_push_of_some _ eo,hcl,n,hd⟩
    have hs0:Hs { s with heap:=s.heap.push { cls:=.type "list_iterator",data:=.fields #[.ref p,.int 0 0] } }:=⟨_,s.toks,rfl,λa o ea=>Heap.get?_push_of_some _ ea⟩
    have hsz:its.toArray.size=bs.length:=by simp;omega
    have fin:∀ (b:Bool) (h':Heap) (tk:Nat),(∀ b o,b ∉ [s.heap.objs.size]->(s.heap.push { cls:=.type "list_iterator",data:=.fields #[.ref p,.int 0 0] }).get? b=some o->h'.get? b=some o)->Q (.bl b) H->EP X pins σ Q (.bool b) { s with heap:=h',toks:=tk }:=by
     intro b h' tk hk q
     refine ⟨.bl b,H,I.kept (t':=tk) λa o ea=>hk a o (by simp;exact Nat.ne_of_lt (Heap.lt_size ea)) (Heap.get?_push_of_some _ ea),rfl,q⟩
    have hq:=k μ H (.bl (if all then bs.all id else bs.any id)) Stp.refl R0 (by simp only [RepD])
    cases all with
    | true=>
     refine call_function_tree F.kind_all F.plain_all F.entry_all (F.args_all1 _) ?_
     unfold Builtin.«all»
     refine wpAny_bind (m:=oneArg "all" _) (wpAny_pure (wpAny_bind (wpAny_pyIter_list pl.isList (wpAny_pure ⟨plainId_quiet F.plain_all_loop _,zlz W _ hs htr _ 0 _ rfl (Nat.zero_le _) st0 hs0 λh' tk hk=>?_⟩))))
     rw [List.drop_zero,hsz,zkC]
     exact fin _ h' tk hk hq
    | false=>
     refine call_function_tree F.kind_any F.plain_any F.entry_any (F.args_any1 _) ?_
     unfold Builtin.«any»
     refine wpAny_bind (m:=oneArg "any" _) (wpAny_pure (wpAny_bind (wpAny_pyIter_list pl.isList (wpAny_pure ⟨plainId_quiet F.plain_any_loop _,zk1 W _ hs htr _ 0 _ rfl (Nat.zero_le _) st0 hs0 λh' tk hk=>?_⟩))))
     rw [List.drop_zero,hsz,zlZ]
     exact fin _ h' tk hk hq
   | _=>cases all<;>exact zaf e
end
noncomputable def tyS:Ty->String
 | .bool=>"bool"
section
variable {K:PySem.W.Frag}
theorem zqa (t:Ty):PySem.W.kitOne K (.type "NoneType") (.type (tyS t))=some (isiD t .non):=by cases t<;>rfl
theorem zrK (t:Ty) (b:Bool):PySem.W.kitOne K (.type "bool") (.type (tyS t))=some (isiD t (.bl b)):=by cases t<;>rfl
theorem zph (t:Ty) (i:Int):PySem.W.kitOne K (.type "int") (.type (tyS t))=some (isiD t (.int i)):=by cases t<;>rfl
theorem zp7 (t:Ty) (x:List Nat):PySem.W.kitOne K (.type "str") (.type (tyS t))=some (isiD t (.str x)):=by cases t<;>rfl
theorem zps (t:Ty) (x:List D):PySem.W.kitOne K (.type "tuple") (.type (tyS t))=some (isiD t (.tup x)):=by cases t<;>rfl
theorem zqr (t:Ty) (x:List D):PySem.W.kitOne K (.type "list") (.type (tyS t))=some (isiD t (.lst x)):=by cases t<;>rfl
end
section
variable {X:Cx}
theorem zmS (t:Ty):zgw X (.builtin "isinstance") (λvs H Q=>∃ A d v,RdD X.K A H d v/\vs=[v,.ty (tyS t)]/\Q (.bl (isiD t d)) H):=by
 intro pins s σ H vs us Q I r q
 obtain ⟨A,d,v,qd,rfl,q⟩:=q
 cases r with
 | cons r1 r=>
  cases r with
  | cons r2 r=>
   cases r
   rename_i u1 u2
   have e2:u2=Value.type (tyS t):=r2
   subst e2
   have fin:∀ tk:Nat,EP X pins σ Q (.bool (isiD t d)) { s with toks:=tk }:=λtk=>⟨.bl (isiD t d),H,I.tok tk,rfl,q⟩
   cases d with
   | non=>
    simp only [RdD,RepD] at qd;subst qd
    have e1:u1=Value.none:=r1
    subst e1
    exact PySem.W.kia_one PySem.W.kitx_none I.kIn True.intro (zqa t) (λz=>nomatch z) fin
   | bl b=>
    simp only [RdD,RepD] at qd;subst qd
    have e1:u1=Value.bool b:=r1
    subst e1
    exact PySem.W.kia_one PySem.W.kitx_bool I.kIn True.intro (zrK t b) (λz=>nomatch z) fin
   | int i=>
    simp only [RdD,RepD] at qd;subst qd
    obtain ⟨t',e1⟩:=(show ∃ t',u1=Value.int i t' from r1)
    subst e1
    exact PySem.W.kia_one PySem.W.kitx_int I.kIn True.intro (zph t i) (λz=>nomatch z) fin
   | str x=>
    simp only [RdD,RepD] at qd;subst qd
    obtain ⟨t',e1⟩:=(show ∃ t',u1=Value.str (zaH x) t' from r1)
    subst e1
    exact PySem.W.kia_one PySem.W.kitx_str I.kIn True.intro (zp7 t x) (λz=>nomatch z) fin
   | tup xs=>
    simp only [RdD,RepD] at qd
    obtain ⟨a,ws,rfl,q1,_⟩:=qd
    have e1:u1=Value.ref a:=r1
    subst e1
    obtain ⟨its,ri,⟨o,h1,h2,_⟩,hz⟩:=I.tuple q1
    exact PySem.W.kia_one PySem.W.kitx_tuple I.kIn ⟨o,h1,h2⟩ (zps t xs) (λz=>nomatch z) fin
   | lst xs=>
    obtain ⟨a,ws,rfl,q1,_⟩:=qd
    have e1:u1=Value.ref a:=r1
    subst e1
    obtain ⟨its,ri,⟨o,n,h1,h2,_⟩,hz⟩:=I.list q1
    exact PySem.W.kia_one PySem.W.kitx_list I.kIn ⟨o,h1,h2⟩ (zqr t xs) (λz=>nomatch z) fin
theorem zpz (t:Ty):bootBuiltins (Str.ofString (tyS t))=some (.type (tyS t)):=by cases t<;>decide +kernel
theorem zqM (hg:Gl X "isinstance") (hm:X.mg "isinstance"=none) (he:IE X e f) (hx:x=Str.ofString (tyS t)) (hg2:Gl X x) (hm2:X.mg x=none) (hs:starEach [e,.Name x p2] X.env=[(false,eval e X.env),(false,eval (.Name x p2) X.env)]) :
  IE X (.Call (.Name "isinstance" p) [e,.Name x p2] [] pos) (λσ=>bnd (f σ) λr=>bnd (rd r) λd=>ok (.d (.bl (isiD t d)))):=by
 subst hx
 have hn:Str.ofString (tyS t) ≠ "__name__":=by cases t<;>decide
 have hdb:(Str.ofString (tyS t)==("__debug__":Str))=false:=by cases t<;>decide
 have h2:PE X (.Name (Str.ofString (tyS t)) p2) (tC (.ty (tyS t))):=zpT hg2 hm2 (zpz t) rfl hn hdb
 refine PE.imp (zbR (zmS t) hg hm PyProof.Rows.boot_isinstance (zaS he (zaS h2 zb2 rfl) hs) (by decide) (by decide) hs rfl) λσ H Q q0=>?_
 obtain ⟨μ,h,env,R0,re,r,h',e,k⟩:=q0
 simp only [zaa,zab] at e
 obtain ⟨r1,h1,e1,d,h2',e2,rfl,rfl⟩:=e
 refine ⟨μ,h,env,R0,re,r1,h1,e1,λμ1 H1 v s1 R1 q1=>?_⟩
 obtain ⟨rfl,z⟩:=zbK R1 q1 e2
 exact ⟨_,d,v,z,rfl,k μ1 H1 _ s1 R1 (by simp only [RepR,RepD])⟩
theorem RepDs.dropLast (q:RepDs K A H xs vs):RepDs K A H xs.dropLast vs.dropLast:=by
 rw [List.dropLast_eq_take,List.dropLast_eq_take,q.length]
 exact q.take _
theorem RepDs.eraseIdx (k:Nat) (q:RepDs K A H xs vs):RepDs K A H (xs.eraseIdx k) (vs.eraseIdx k):=by
 rw [List.eraseIdx_eq_take_drop_succ,List.eraseIdx_eq_take_drop_succ]
 exact (q.take k).app (q.drop (k+1))
theorem zrH (ho:IE X o f) (hname:name=("pop":Str)) (hbase:attributeBase o name X.env (eval o X.env)=eval o X.env) (hline:(apos.endLine==cpos.line)=true) :
  IE X (.Call (.Attribute o name apos) [] [] cpos) (λσ=>bnd (f σ) λx=>bnd (zdo x) λ_=>bnd (ok []) λrs=>meth .pop x rs):=by
 subst hname
 refine PE.imp (zoJ PySem.F.plainAttrs_list PySem.F.slot_list_pop PySem.F.type_list_pop zso ho hbase hline) λσ H Q q0=>?_
 obtain ⟨μ,h,env,R0,re,r,h',e,k⟩:=q0
 simp only [zaa,zab] at e
 obtain ⟨x,h1,e1,_,h1',e0,rs,h2,⟨rfl,rfl⟩,e3⟩:=e
 obtain ⟨l,o1,rfl,ho1,il1,rfl⟩:=zcZ e0
 refine ⟨μ,h,env,R0,re,.loc l,_,e1,λμ1 H1 v s1 R1 q1=>?_⟩
 ·skip
  obtain ⟨a,ea,rfl⟩:=q1
  obtain ⟨vs1,hH1,z1⟩:=R1.placeL ea ho1 il1
  (delta meth at e3;(try dsimp only at e3))
  rw [ho1] at e3
  cases o1 with
  | fro xs=>simp at e3
  | ins _ _=>cases il1
  | ols _=>cases il1
  | dic _=>cases il1
  | dfr _=>cases il1
  | lst xs=>
   simp only at e3
   split at e3
   ·rename_i y hy
    simp only [Option.some.injEq,Prod.mk.injEq] at e3
    obtain ⟨rfl,rfl⟩:=e3
    simp only [Ob.items] at z1
    obtain ⟨w,hw,zw⟩:=z1.get hy
    refine ⟨.inl ⟨rfl,vs1,.inl (.inl hH1)⟩,a,vs1,w,rfl,rfl,hH1,by rw [<-z1.length];exact hw,?_⟩
    obtain ⟨s4,R4⟩:=write R1 ea ho1 z1.dropLast
    exact k μ1 _ w (s1.trans s4) R4 (zw.stp s4 R1)
   ·cases e3
end
end IT
namespace IT
open PySem PySem.Spec L2
open PySem.StrLaws Builtin.Str
section
variable {X:Cx}
theorem zlq (ho:IE X o f) (ha:IA X (e::es) fs) (hname:name=("extend":Str))
  (hbase:attributeBase o name X.env (eval o X.env)=eval o X.env)
  (hfew:((backTo cpos (starEach (e::es) X.env)).all (λx=>!x.1)&&(backToKw cpos (keywordEach [] X.env)).all (λx=>x.1.isSome)
   && decide ((e::es).length+([]:List Keyword).length+(if ([]:List Keyword).isEmpty then 0 else 1)<30))=true)
  (hline:(apos.endLine==cpos.line)=true) (hs:starEach (e::es) X.env=(false,eval e X.env)::starEach es X.env) (hplain:(backTo cpos (starEach es X.env)).any (·.1)=false) :
  IE X (.Call (.Attribute o name apos) (e::es) [] cpos) (λσ=>bnd (f σ) λx=>bnd (zdo x) λ_=>bnd (fs σ) λrs=>meth .extend x rs):=by
 subst hname
 refine PE.imp (zm0 PySem.F.plainAttrs_list PySem.F.slot_list_extend PySem.F.type_list_extend zi5 ho ha hbase hfew hline hs hplain) λσ H Q q0=>?_
 obtain ⟨μ,h,env,R0,re,r,h',e,k⟩:=q0
 simp only [zaa] at e
 obtain ⟨x,h1,e1,_,h1',e0,rs,h2,e2,e3⟩:=e
 obtain ⟨l,o1,rfl,ho1,il1,rfl⟩:=zcZ e0
 refine ⟨μ,h,env,R0,re,.loc l,_,e1,λμ1 H1 v s1 R1 q1=>?_⟩
 ·skip
  obtain ⟨a,ea,rfl⟩:=q1
  obtain ⟨vs1,hH1,z1⟩:=R1.placeL ea ho1 il1
  refine ⟨.inl ⟨rfl,vs1,.inl (.inl hH1)⟩,μ1,_,env,R1,re.stp s1 R0,rs,h2,e2,λμ2 H2 ws s2 R2 q2=>?_⟩
  cases q2 with
  | nil=>exact zaf e3
  | @cons rr w rs' ws' qr q2=>
   cases q2 with
   | cons _ _=>exact zaf e3
   | nil =>
    (delta meth at e3;(try dsimp only at e3);simp only [zaa] at e3)
    obtain ⟨d,h3,e4,e5⟩:=e3
    obtain ⟨rfl,zd⟩:=zbK R2 qr e4
    have ea2:=s2.pre l a ea
    cases d with
    | lst ys=>
     obtain ⟨b,vs2,rfl,sq,zz⟩:=zd
     simp only at e5
     split at e5
     ·rename_i xs hx
      split at e5
      ·rename_i hlen
       simp only [Option.some.injEq,Prod.mk.injEq] at e5
       obtain ⟨rfl,rfl⟩:=e5
       obtain ⟨vs3,hH3,z3⟩:=R2.placeL ea2 hx rfl
       have hlen':vs3.length+vs2.length<=sizeLine:=by
        have l3:=z3.length
        have l2:=zz.length
        have h4:xs.length+ys.length<=big:=of_decide_eq_true hlen
        have h5:big=sizeLine:=rfl
        simp only [Ob.items] at l3
        omega
       refine ⟨a,b,vs3,vs2,rfl,rfl,hH3,sq,hlen',?_⟩
       obtain ⟨s4,R4⟩:=write R2 ea2 hx (z3.app zz)
       exact k μ2 _ .non ((s1.trans s2).trans s4) R4 (by simp only [RepR,RepD])
      ·cases e5
     ·cases e5
    | _=>cases e5
theorem zf7 {α β:Type} {p:α->Bool} {f:β->Bool}:∀ {xs:List α} {ys:List β},xs.length=ys.length->(∀ (j:Nat) (x:α) (y:β),xs[j]?=some x->ys[j]?=some y->f y=p x)->ys.countP f=xs.countP p
 | [],[],_,_=>rfl
 | [],_::_,h,_=>by simp at h
 | _::_,[],h,_=>by simp at h
 | x::xs,y::ys,h,k=>by
  rw [List.countP_cons,List.countP_cons,zf7 (xs:=xs) (ys:=ys) (by simpa using h) (λj x y hx hy=>k (j+1) x y (by simpa using hx) (by simpa using hy)),k 0 x y rfl rfl]
noncomputable def lmI:Lm->String
 | .count=>"list.count"
 | .index=>"list.index"
theorem ztx (hu:X.A.units+64<cLine) (m:Lm):MtR X (lmI m) (λx vs H Q=>∃ μ h xs d v z,Rep X.K μ h H/\RdD X.K (Live μ h) H (.lst xs) x/\vs=[v]/\RdD X.K (Live μ h) H d v/\lmD m (.lst xs) d=some z/\(∀ w,RepD X.K (Live μ h) H z w->Q w H)):=by
 intro pins s σ H x vs v us Q I rx rs q
 obtain ⟨μ,h,xs,d,vd,z,R0,qx,rfl,qd,e,k⟩:=q
 obtain ⟨p,ws,rfl,sq,zz⟩:=qx
 cases rx
 obtain ⟨u,rfl,ru⟩:=rs.one
 obtain ⟨its,ri,⟨o,n,e1,hc,hdd,hs⟩,hz⟩:=I.list sq
 obtain ⟨cls,dd,data,sl⟩:=o
 simp only at hc hdd hs
 subst hc hdd hs
 have hlen:xs.length=its.length:=by rw [zz.length,ri.length]
 cases m with
 | count=>
  (delta lmD at e;(try dsimp only at e))
  split at e
  ·rename_i hd
   cases e
   obtain ⟨f,f1,f2⟩:=zlG hu I qd ru (of_decide_eq_true hd) zz ri
   refine call_meets F.slot_list_count ⟨_,e1,rfl⟩ F.entry_list_count (F.args_list_count_2 _ _) (SeqAt.list_countAt p its.toArray n none sl u f) ⟨e1,f1,?_⟩
   have ec:(its.toArray.toList.countP f:Nat)=xs.countP λy=>y.eqb d:=by simpa using zf7 hlen f2
   rw [ec]
   exact ⟨.int _,H,I.tok _,⟨_,rfl⟩,k _ (by simp only [RepD])⟩
  ·cases e
 | index=>
  (delta lmD at e;(try dsimp only at e))
  split at e
  ·rename_i hd
   cases hj:xs.findIdx? (λy=>y.eqb d) with
   | none=>rw [hj] at e;cases e
   | some j=>
    rw [hj] at e
    cases e
    obtain ⟨f,f1,f2⟩:=zlG hu I qd ru (of_decide_eq_true hd) zz ri
    obtain ⟨jl,j1,j2⟩:=List.findIdx?_eq_some_iff_getElem.mp hj
    have fa:∀ (i:Nat) (hi:i<its.toArray.size),f its.toArray[i]=(xs[i]'(by rw [hlen];simpa using hi)).eqb d:=by
     intro i hi
     have hi2:i<its.length:=by simpa using hi
     exact f2 i _ _ (List.getElem?_eq_getElem (by rw [hlen];exact hi2)) (by simp)
    refine call_meets F.slot_list_index ⟨_,e1,rfl⟩ F.entry_list_index (F.args_list_index_2 _ _) (SeqAt.list_indexAt p its.toArray n none sl u f j (by simp;omega) ?_ ?_ ?_) ⟨e1,f1,?_⟩
    ·have h5:ws.length<=sizeLine:=hz
     have h6:sizeLine=16777216:=rfl
     have h7:=zz.length
     omega
    ·rw [fa];exact j1
    ·intro i hi hij
     rw [fa]
     simpa using j2 i hij
    ·exact ⟨.int _,H,I.tok _,⟨_,rfl⟩,k _ (by simp only [RepD])⟩
  ·cases e
noncomputable def lmS:Lm->Str
 | .count=>"count"
 | .index=>"index"
theorem zte (hu:X.A.units+64<cLine) (ho:IE X o f) (he:IE X e g) (hname:name=lmS m)
  (hbase:attributeBase o name X.env (eval o X.env)=eval o X.env)
  (hfew:((backTo cpos (starEach [e] X.env)).all (λx=>!x.1)&&(backToKw cpos (keywordEach [] X.env)).all (λx=>x.1.isSome)
   && decide ([e].length+([]:List Keyword).length+(if ([]:List Keyword).isEmpty then 0 else 1)<30))=true)
  (hline:(apos.endLine==cpos.line)=true) (hs:starEach [e] X.env=[(false,eval e X.env)]) (hplain:(backTo cpos (starEach [] X.env)).any (·.1)=false) :
  IE X (.Call (.Attribute o name apos) [e] [] cpos) (λσ=>bnd (f σ) λx=>bnd (rd x) λ_=>bnd (g σ) λy=>bnd (rd x) λx=>bnd (rd y) λy=>bnd (opt (lmD m x y)) λz=>ok (.d z)):=by
 have slot:Slot "list" name (lmI m):=by
  subst hname
  cases m with
  | count=>exact PySem.F.slot_list_count
  | index=>exact PySem.F.slot_list_index
 have hty:typeOf (.builtin (lmI m))=pure (.type "method_descriptor"):=by
  cases m with
  | count=>exact PySem.F.type_list_count
  | index=>exact PySem.F.type_list_index
 refine PE.imp (zm0 PySem.F.plainAttrs_list slot hty (ztx hu m) ho (zaS he zb2 hs) hbase hfew hline hs hplain) λσ H Q q0=>?_
 obtain ⟨μ,h,env,R0,re,r,h',e,k⟩:=q0
 simp only [zaa,zaE,zab] at e
 obtain ⟨x,h1,e1,d1,h1',e0,y,h2,e2,dx,h3,e3,dy,h4,e4,z,h5,⟨e5,rfl⟩,rfl,rfl⟩:=e
 refine ⟨μ,h,env,R0,re,x,h1,e1,λμ1 H1 v s1 R1 q1=>?_⟩
 obtain ⟨rfl,_⟩:=zbK R1 q1 e0
 have hd:∃ xs,dx=.lst xs:=by
  cases dx with
  | lst xs=>exact ⟨xs,rfl⟩
  | _=>cases m<;>first | exact absurd rfl hnt | exact zaf e5
 obtain ⟨xs,rfl⟩:=hd
 have ty:tyV X.K "list" v H1:=by
  cases x with
  | loc l=>
   obtain ⟨a,ea,rfl⟩:=q1
   obtain ⟨o1,ho1,il1,_,_⟩:=zeK e0
   obtain ⟨vs1,hH1,z1⟩:=R1.placeL ea ho1 il1
   exact .inl ⟨rfl,vs1,.inl (.inl hH1)⟩
  | d d0=>
   simp only [rd,zab] at e3
   obtain ⟨rfl,rfl⟩:=e3
   simp only [RepR,RepD] at q1
   obtain ⟨a,ws,rfl,sq,zz⟩:=q1
   exact .inl ⟨rfl,ws,sq.sq⟩
 refine ⟨ty,μ1,_,env,R1,re.stp s1 R0,y,h2,e2,λμ2 H2 w s2 R2 q2=>?_⟩
 have q1':=RepR.stp s2 R1 q1
 obtain ⟨rfl,zx⟩:=zbK R2 q1' e3
 obtain ⟨rfl,zy⟩:=zbK R2 q2 e4
 exact ⟨μ2,_,xs,dy,w,z,R2,zx,rfl,zy,e5,λu qu=>k μ2 H2 u (s1.trans s2) R2 qu⟩
end
end IT
namespace PySem
open Sem (wp)
open Builtin
theorem zc7:entryFor table "tuple.__getattribute__"=some Builtin.«object.__getattribute__»:=
 entryFor_alias (id':="object.__getattribute__") (by kernel_rfl) (by first | rfl | decide +kernel) (by decide +kernel) (by kernel_rfl)
theorem zbG:typeLookup (.type "tuple") "__getattr__"=pure none:=by rw [typeLookup_type,builtinLookup_eq_fast];kernel_rfl
theorem zcH:typeLookup (.type "tuple") "keys"=pure none:=by rw [typeLookup_type,builtinLookup_eq_fast];kernel_rfl
theorem zfH (l:Addr) (items:Array Value) (n:Nat) (sl:Array (Option Value)) (u:Tok) :
  Meets (Builtin.«object.__getattribute__» ⟨[.ref l,.str "keys" u],[]⟩) (λA R s=>s.heap.get? l=some { cls:=.type "tuple",dict:=none,data:=.seq items n,slots:=sl }/\raisesAttr (.ref l) "keys" A R s):=
 Meets.of_wp λprog w A R s hs=>by
  obtain ⟨hp,g,d,tk,os⟩:=s
  obtain ⟨hl,hs⟩:=hs
  have hT:(⟨hp,g,d,tk,os⟩:Shared).TypeIs (.ref l) "tuple":=⟨_,hl,rfl⟩
  have f4:=zcH
  unfold Builtin.«object.__getattribute__»
  repeat (any_goals (first | assumption | wp_step))
  exact wpAny_raiseAttrError hs.1 hs.2 (attrMsg_fits (by decide +kernel) (by decide +kernel))
section
variable {prog:Program} {w:World} {A:Around} {E:Value->Shared->Prop} {s:Shared}
theorem zfB {l:Addr} {items:Array Value} {n:Nat} {sl:Array (Option Value)} {Q:Option Value->Shared->Prop} (hl:s.heap.get? l=some { cls:=.type "tuple",dict:=none,data:=.seq items n,slots:=sl }) (hA:A.handled=none)
  (h:∀ h' tk,(∀ b o,s.heap.get? b=some o->h'.get? b=some o)->Q none { s with heap:=h',toks:=tk }):wpAny (model prog w) A (getAttr? (.ref l) "keys") Q E s:=by
 obtain ⟨hp,g,d,tk,os⟩:=s
 have hT:∀ tk,(⟨hp,g,d,tk,os⟩:Shared).TypeIs (.ref l) "tuple":=λ_=>⟨_,hl,rfl⟩
 have hT0:=hT tk
 have f1:=sub_AttributeError
 have f3:=F.slot_tuple_getattribute.lookup
 have f4:=F.slot_tuple_getattribute.bind (.ref l)
 have f5:=zbG
 unfold getAttr? getAttrBy? getAttrBy
 repeat (any_goals (first | assumption | ((with_reducible show wpAny _ _ (call (Value.builtin "tuple.__getattribute__") _ _) _ _ _);refine call_meets F.slot_tuple_getattribute (hT _) zc7 (F.args_tuple_getattribute_2 _ _) (zfH l items n sl _) ⟨hl,hA,λh' tk' e hx=>?_⟩) | wp_step))
 obtain ⟨t',u',he⟩:=hx.there
 show wpAny _ _ (getattributeRaised _ _ _ _ _ _ _) _ _ _
 unfold getattributeRaised
 repeat (any_goals (first | assumption | wp_step))
 exact h _ _ hx.keeps
end
theorem zdg:entryFor table "dict.update.loop"=some Builtin.«dict.update.loop»:=entryFor_of_tree (by kernel_rfl)
theorem za9:plainId "dict.update.loop"=true:=by decide +kernel
section
variable {prog:Program} {w:World} {K:Type} [DecidableEq K] {knd:KeyKind prog w K} {A:Around} {E:Value->Shared->Prop} {R:Result->Shared->Prop}
theorem zgT {p:Addr} {its:Array Value} {s:Shared} {Q:List Value->Shared->Prop} (hp:s.heap.IsTuple p its) (h:Q its.toList s):wpAny (model prog w) A (Dict.pairItems (.ref p)) Q E s:=by
 obtain ⟨o,ho,hc,n,hd⟩:=id hp
 unfold Dict.pairItems
 refine wpAny_bind (wpAny_typeOf hp.typeIs ?_)
 rw [if_pos (by decide)]
 refine wpAny_bind (wpAny_seqItems ho hd (wpAny_pure ?_))
 exact h
end
end PySem
namespace IT
open PySem PySem.Spec L2
section
variable {X:Cx}
theorem zsm {α β:Type} {f:α->β} (hf:∀ a b,f a=f b->a=b) {l:List α} (h:l.Nodup):(l.map f).Nodup:=by
 rw [List.nodup_iff_pairwise_ne,List.pairwise_map]
 exact List.Pairwise.imp (λ{a b} hab e=>hab (hf a b e)) h
theorem zoI {pins:List (Addr×Obj)} {σ:St} {H:Hp} {s:Shared} (I:Inv X pins σ H s):sysModules<s.heap.objs.size:=by
 refine Nat.lt_trans (by decide) ((I.mod.glob.keeps I.bk).lt)
theorem zf2:∀ {as:List Addr} {us:List Value},Vals (as.map V.ref) us->us=as.map Value.ref
 | [],_,.nil=>rfl
 | a::as,_,.cons r t=>by
  rw [zf2 t]
  cases (show _=Value.ref a from r)
  rfl
end
end IT
namespace IT
open PySem PySem.Spec L2
section
variable {X:Cx}
noncomputable abbrev RelF (K:PySem.W.Frag) (μ:List Addr) (h:Sto) (H:Hp):List (Str×R)->List (Str×V)->Prop:=Paired λp q=>p.1=q.1/\RepR K μ h H p.2 q.2
theorem zdI {fs:List (Str×R)} {fs':List (Str×V)} {f:Str} {r:R} (q:RelF K μ h H fs fs') (e:fs.lookup f=some r):∃ v,fs'.lookup f=some v/\RepR K μ h H r v:=by
 induction q with
 | nil=>cases e
 | @cons a b _ _ q t ih=>
  rw [List.lookup_cons] at e ⊢
  rw [<-q.1]
  split at e
  ·cases e
   exact ⟨b.2,rfl,q.2⟩
  ·exact ih e
theorem zdS {fs:List (Str×R)} {fs':List (Str×V)} {f:Str} (q:RelF K μ h H fs fs') (e:fs.lookup f=none):fs'.lookup f=none:=by
 induction q with
 | nil=>rfl
 | cons q t ih=>
  rw [List.lookup_cons] at e ⊢
  rw [<-q.1]
  split at e
  ·cases e
  ·exact ih e
theorem ziz {v:V} (q:RepR K μ h H r v) {fs:List (Str×R)} {fs':List (Str×V)} (z:RelF K μ h H fs fs'):RelF K μ h H (IT.putF f r fs) (L2.putF f v fs'):=by
 induction z with
 | nil=>exact .cons ⟨rfl,q⟩ .nil
 | @cons a b _ _ z t ih=>
  obtain ⟨g,x⟩:=a
  obtain ⟨g',y⟩:=b
  obtain ⟨q1,q2⟩:=z
  simp only at q1 q2
  subst q1
  simp only [IT.putF,L2.putF]
  split
  ·exact .cons ⟨rfl,q⟩ t
  ·exact .cons ⟨rfl,q2⟩ ih
theorem zmk:∀ {fs:List (Str×R)} {p:Str×R},p∈IT.putF f r fs->p.1=f\/p∈fs
  | [],p,h=>by simp [IT.putF] at h;exact .inl (by rw [h])
  | (g, x)::fs,p,h=>by
    simp only [IT.putF] at h
    split at h
    · rename_i e
      rcases List.mem_cons.mp h with rfl | h
      · exact .inl e
      · exact .inr (List.mem_cons_of_mem _ h)
    · rcases List.mem_cons.mp h with rfl | h
      · exact .inr List.mem_cons_self
      · rcases zmk h with e | e
        · exact .inl e
        · exact .inr (List.mem_cons_of_mem _ e)
theorem zdJ:∀ {fs:List (Str×R)},fs.lookup f=some r->(f,r)∈fs
 | [],e=>by simp at e
 | p::l,e=>by
  rw [List.lookup_cons] at e
  split at e
  ·rename_i h
   have h:=eq_of_beq h
   cases e
   rw [h]
   exact List.mem_cons_self
  ·exact List.mem_cons_of_mem _ (zdJ e)
theorem zr4 {pos:Pos} (ho:IE X o g) (hb:attributeBase o f X.env (eval o X.env)=eval o X.env):IE X (.Attribute o f pos) (λσ=>bnd (g σ) λx=>getA x f):=by
 refine PE.imp (zsD ho hb) λσ H Q q0=>?_
 obtain ⟨μ,h,env,R0,re,r,h',e,k⟩:=q0
 simp only [zaa] at e
 obtain ⟨x,h1,e1,e2⟩:=e
 refine ⟨μ,h,env,R0,re,x,h1,e1,λμ1 H1 v s1 R1 q1=>?_⟩
 cases x with
 | d d=>cases e2
 | loc l=>
  obtain ⟨a,ea,rfl⟩:=q1
  (delta getA at e2;(try dsimp only at e2))
  cases ho1:h1[l]? with
  | none=>rw [ho1] at e2;cases e2
  | some ob=>
   rw [ho1] at e2
   cases ob with
   | ins c fs=>
    simp only at e2
    cases el:fs.lookup f with
    | none=>rw [el] at e2;cases e2
    | some r1=>
     rw [el] at e2
     simp only [Option.some.injEq,Prod.mk.injEq] at e2
     obtain ⟨rfl,rfl⟩:=e2
     obtain ⟨C,dx,fs',⟨_,cl,na⟩,eH,rel⟩:=R1.obj l a _ ea ho1
     obtain ⟨w,ew,qw⟩:=zdI rel el
     exact ⟨a,C,dx,fs',w,rfl,eH,cl,na _ (zdJ el),ew,k μ1 H1 w s1 R1 qw⟩
   | _=>cases e2
theorem znC (q:RelF K μ h H fs fs'):fs.length=fs'.length:=Paired.length q
theorem zq5 {c f:Str} {fs:List (Str×R)} {fs':List (Str×V)} {r:R} {v:V} (R0:Rep K μ h H) (ea:μ[l]?=some a) (ho:h[l]?=some (.ins c fs))
  (hC:PySem.W.nsIn K mainGlobals c=some (some (.ref C))/\Cls K C/\∀ p∈fs,zbu K C p.1) (hn:zbu K C f) (rel:RelF K μ h H fs fs') (q:RepR K μ h H r v) :
  Stp μ h H μ (h.set l (.ins c (IT.putF f r fs))) (upd H a (.ins C dx (L2.putF f v fs')))/\Rep K μ (h.set l (.ins c (IT.putF f r fs))) (upd H a (.ins C dx (L2.putF f v fs'))):=
 zkY R0 ea ho rfl λst=>⟨C,dx,_,⟨hC.1,hC.2.1,λp hp=>by
  rcases zmk hp with e | e
  ·rw [e];exact hn
  ·exact hC.2.2 p e⟩,zaj,L2.Paired.mapP (ziz q rel) λp q' ⟨z1,z2⟩=>⟨z1,RepR.stp st R0 z2⟩⟩
theorem zpG (he:IE X e g) (ho:IE X o k0) (hs:swapsWith e (some (.Attribute o f pos')) pos.line X.env=pure false)
  (hn:∀ C,PySem.W.nsIn X.K mainGlobals c=some (some (.ref C))->zbu X.K C f) :
  PS X (.Assign [.Attribute o f pos'] e pos) (tS X.K λσ=>bnd (g σ) λr=>bnd (k0 σ) λx=>bnd (setN x c f r) λ_=>ok (.nx,σ)):=by
 refine PS.imp (zsr ho he hs) λD σ H q0=>?_
 obtain ⟨μ,h,env,R0,re,fl,env',h',e,kk⟩:=q0
 simp only [zaa,zab,Prod.mk.injEq] at e
 obtain ⟨r,h1,e1,x,h2,e2,_,h3,e3,⟨rfl,rfl⟩,rfl⟩:=e
 refine ⟨μ,h,env,R0,re,r,h1,e1,λμ1 H1 v s1 R1 q1=>⟨μ1,h1,env,R1,re.stp s1 R0,x,h2,e2,λμ2 H2 u s2 R2 q2=>?_⟩⟩
 cases x with
 | d d=>cases e3
 | loc l=>
  obtain ⟨a,ea,rfl⟩:=q2
  simp only [setN] at e3
  cases ho1:h2[l]? with
  | none=>rw [ho1] at e3;cases e3
  | some ob=>
   rw [ho1] at e3
   cases ob with
   | ins c' fs=>
    simp only at e3
    split at e3
    ·rename_i hc
     simp only [Option.some.injEq,Prod.mk.injEq] at e3
     obtain ⟨_,rfl⟩:=e3
     obtain ⟨rfl,hl⟩:=hc
     obtain ⟨C,dx,fs',hC,eH,rel⟩:=R2.obj l a _ ea ho1
     have hn:=hn C hC.1
     have hl:fs'.length<1000:=by rw [<-znC rel];omega
     obtain ⟨s3,R3⟩:=zq5 (dx:=dx) R2 ea ho1 hC hn rel (q1.stp s2 R1)
     exact ⟨a,C,dx,fs',rfl,eH,hC.2.1,hn,hl,kk μ2 _ σ ((s1.trans s2).trans s3) R3 (re.stp ((s1.trans s2).trans s3) R0)⟩
    ·cases e3
   | _=>cases e3
theorem zf1 (hbase:attributeBase o name env (eval o env)=eval o env)
  (hfew:((backTo pos (starEach args env)).all (λx=>!x.1)&&(backToKw pos (keywordEach [] env)).all (λx=>x.1.isSome)
   && decide (args.length+([]:List Keyword).length+(if ([]:List Keyword).isEmpty then 0 else 1)<30))=true)
  (hline:(apos.endLine==pos.line)=true):eval (.Call (.Attribute o name apos) args [] pos) env=(do
   let ov<-eval o env
   standAt apos.atName
   let (f,first)<-holding [ov] (getMethod ov name (do return (<-importBound o env).getD true))
   callWith pos f first (backTo pos (starEach args env)) (backToKw pos (keywordEach [] env))):=by
 rw [arm_eval_Call,hbase]
 have hform:methodCallForm (args.length+([]:List Keyword).length) (backTo pos (starEach args env)) (backToKw pos (keywordEach [] env))=true:=hfew
 have hpos:methodCallPos true o env apos pos=pure pos:=by unfold methodCallPos;simp [hline]
 unfold methodCall
 rw [hform]
 unfold calleeOf
 simp only [if_true,hpos]
 rfl
structure zj0 (X:Cx) (n:Nat) (c m:Str) (np:Nat) (mm:List R->M R):Prop where
 ex:∃ C f fd ps,PySem.W.nsIn X.K mainGlobals c=some (some (.ref C))/\Cls X.K C/\Meth X.K C m f/\FnOk X.prog X.w X.K X.mg X.base CX0 n f fd ps (spF X.K np mm)/\zb8 X.K fd ps []
 len:∀ rs h p,mm rs h=some p->rs.length=np
structure zoi (X:Cx) (n:Nat) (c:Str) (np:Nat) (mm:List R->M R):Prop where
 ex:∃ C f fd ps,X.mg c=some (.ref C)/\PySem.W.nsIn X.K mainGlobals c=some (some (.ref C))/\Cls X.K C/\Mk X.K C f/\FnOk X.prog X.w X.K X.mg X.base CX0 n f fd ps (spF X.K np mm)/\zb8 X.K fd ps []
 len:∀ rs h p,mm rs h=some p->rs.length=np
theorem zi1 (e:isA x c m h=some (u,h')):∃ l fs,x=.loc l/\h[l]?=some (.ins c fs)/\fs.lookup m=none/\h'=h:=by
 cases x with
 | d _=>cases e
 | loc l=>
  (delta isA at e;(try dsimp only at e))
  cases ho:h[l]? with
  | none=>rw [ho] at e;cases e
  | some ob=>
   rw [ho] at e
   cases ob with
   | ins c' fs=>
    simp only at e
    split at e
    ·rename_i hc
     simp only [Option.some.injEq,Prod.mk.injEq] at e
     obtain ⟨rfl,hm⟩:=hc
     exact ⟨l,fs,rfl,ho,Option.isNone_iff_eq_none.mp hm,e.2.symm⟩
    ·cases e
   | _=>cases e
theorem zt7 {pl:Sem Bool} {g:IT.Env->M R} {fs:IT.Env->M (List R)} (hM:zj0 X n c m np mm) (hr:Room n X.A) (ho:IE X o g) (ha:IA X (e::es) fs)
  (hst:starEach (e::es) X.env=(false,eval e X.env)::starEach es X.env) (hpl:(backTo pos (starEach es X.env)).any (·.1)=false)
  (ht:eval (.Call (.Attribute o m apos) (e::es) [] pos) X.env=(do
   let ov<-eval o X.env
   standAt apos.atName
   let (f,first)<-holding [ov] (getMethod ov m pl)
   callWith pos f first (backTo pos (starEach (e::es) X.env)) (backToKw pos (keywordEach [] X.env)))) :
  IE X (.Call (.Attribute o m apos) (e::es) [] pos) (λσ=>bnd (g σ) λx=>bnd (isA x c m) λ_=>bnd (fs σ) λrs=>mm (x::rs)):=by
 obtain ⟨C,f,fd,ps,hc,cl,hm,F,hb⟩:=hM.ex
 refine PE.imp (zpk ho cl hm F hr hb .nil zmn ha hst hpl ht) λσ H Q q0=>?_
 obtain ⟨μ,h,env,R0,re,r,h',ee,k⟩:=q0
 simp only [zaa] at ee
 obtain ⟨x,h1,e1,_,h1',e0,rs,h2,e2,e3⟩:=ee
 obtain ⟨l,fs0,rfl,ho1,hnone,rfl⟩:=zi1 e0
 refine ⟨μ,h,env,R0,re,.loc l,_,e1,λμ1 H1 v s1 R1 q1=>?_⟩
 obtain ⟨a,ea,rfl⟩:=id q1
 obtain ⟨C',dx,fs',hC,eH,rel⟩:=R1.obj l a _ ea ho1
 have hCC:C'=C:=by have:=hC.1;rw [hc] at this;cases this;rfl
 subst hCC
 refine ⟨a,dx,fs',rfl,eH,zdS rel hnone,μ1,_,env,R1,re.stp s1 R0,rs,h2,e2,λμ2 H2 ws s2 R2 q2=>?_⟩
 have hlen:=hM.len _ _ _ e3
 have qq:za1 X.K μ2 h2 H2 (.loc l::rs) (.ref a::(ws++[])):=.cons ⟨a,s2.pre l a ea,rfl⟩ (by rw [List.append_nil];exact q2)
 exact ⟨by rw [<-qq.length];exact hlen,μ2,h2,.loc l::rs,R2,qq,r,h',e3,λμ3 H3 w s3 R3 q3=>k μ3 H3 w ((s1.trans s2).trans s3) R3 q3⟩
theorem zsn {g:IT.Env->M R} (hM:zj0 X n c m np mm) (hr:Room n X.A) (ho:IE X o g)
  (ht:eval (.Call (.Attribute o m apos) [] [] pos) X.env=(do
   let ov<-eval o X.env
   standAt apos.atName
   let (f,first)<-holding [ov] (getMethod ov m pl)
   callWith pos f first (backTo pos (starEach [] X.env)) (backToKw pos (keywordEach [] X.env)))) :
  IE X (.Call (.Attribute o m apos) [] [] pos) (λσ=>bnd (g σ) λx=>bnd (isA x c m) λ_=>bnd (ok []) λrs=>mm (x::rs)):=by
 obtain ⟨C,f,fd,ps,hc,cl,hm,F,hb⟩:=hM.ex
 refine PE.imp (zmZ ho cl hm F hr hb .nil zmn ht) λσ H Q q0=>?_
 obtain ⟨μ,h,env,R0,re,r,h',ee,k⟩:=q0
 simp only [zaa,zab] at ee
 obtain ⟨x,h1,e1,_,h1',e0,rs,h2,⟨rfl,rfl⟩,e3⟩:=ee
 obtain ⟨l,fs0,rfl,ho1,hnone,rfl⟩:=zi1 e0
 refine ⟨μ,h,env,R0,re,.loc l,_,e1,λμ1 H1 v s1 R1 q1=>?_⟩
 obtain ⟨a,ea,rfl⟩:=id q1
 obtain ⟨C',dx,fs',hC,eH,rel⟩:=R1.obj l a _ ea ho1
 have hCC:C'=C:=by have:=hC.1;rw [hc] at this;cases this;rfl
 subst hCC
 refine ⟨a,dx,fs',rfl,eH,zdS rel hnone,?_⟩
 have hlen:=hM.len _ _ _ e3
 have qq:za1 X.K μ1 h1' H1 [.loc l] [.ref a]:=.cons ⟨a,ea,rfl⟩ .nil
 exact ⟨by rw [<-hlen];rfl,μ1,_,[.loc l],R1,qq,r,h',e3,λμ3 H3 w s3 R3 q3=>k μ3 H3 w (s1.trans s3) R3 q3⟩
theorem zp4 (hM:zoi X n c np mm) (hr:Room (n+1) X.A) (hg:Gl X c) (ha:IA X (e::es) fs)
  (hdb:(c==("__debug__":Str))=false) (hst:starEach (e::es) X.env=(false,eval e X.env)::starEach es X.env) (hpl:(backTo pos (starEach es X.env)).any (·.1)=false) :
  IE X (.Call (.Name c p) (e::es) [] pos) (λσ=>bnd (fs σ) λrs=>bnd (newA c) λx=>bnd (mm (x::rs)) λr=>match r with
   | .d .non=>ok x
   | _=>λ_=>none):=by
 obtain ⟨C,f,fd,ps,hmg,hc,cl,hm,F,hb⟩:=hM.ex
 refine PE.imp (zpo hm F hr hg hmg hb .nil zmn ha hdb hst hpl) λσ H Q q0=>?_
 obtain ⟨μ,h,env,R0,re,r,h',ee,k⟩:=q0
 simp only [zaa,newA,Option.some.injEq,Prod.mk.injEq] at ee
 obtain ⟨rs,h1,e1,x,h2,⟨rfl,rfl⟩,r1,h3,e3,e4⟩:=ee
 refine ⟨μ,h,env,R0,re,rs,h1,e1,λμ1 H1 vs s1 R1 q1 a dx na nd ne=>?_⟩
 have hlen:=hM.len _ _ _ e3
 have sO:Stp μ1 h1 H1 μ1 h1 (upd H1 dx (.own a)):=Stp.fresh nd
 have RO:Rep X.K μ1 h1 (upd H1 dx (.own a)):=R1.fresh nd
 have na':upd H1 dx (.own a) a=none:=by rw [zak (Ne.symm ne)];exact na
 have sA:Stp μ1 h1 (upd H1 dx (.own a)) (μ1++[a]) (h1++[.ins c []]) (upd (upd H1 dx (.own a)) a (.ins C dx [])):=Stp.allocO RO na'
 have RA:Rep X.K (μ1++[a]) (h1++[.ins c []]) (upd (upd H1 dx (.own a)) a (.ins C dx [])):=RO.allocO na' ⟨C,dx,[],⟨hc,cl,by simp⟩,zaj,.nil⟩
 have sOA:=sO.trans sA
 have hat:(μ1++[a])[h1.length]?=some a:=by rw [<-R1.len];simp
 have qq:za1 X.K (μ1++[a]) (h1++[.ins c []]) (upd (upd H1 dx (.own a)) a (.ins C dx [])) (.loc h1.length::rs) (.ref a::(vs++[])):=.cons ⟨a,hat,rfl⟩ (by rw [List.append_nil];exact q1.stp sOA R1)
 refine ⟨by rw [<-qq.length];exact hlen,_,_,.loc h1.length::rs,RA,qq,r1,h3,e3,λμ3 H3 w s3 R3 q3=>?_⟩
 split at e4
 ·simp only [zab] at e4
  obtain ⟨rfl,rfl⟩:=e4
  simp only [RepR,RepD] at q3
  exact ⟨q3,k μ3 H3 (.ref a) (s1.trans (sOA.trans s3)) R3 ⟨a,s3.pre _ _ hat,rfl⟩⟩
 ·cases e4
theorem zpQ (I:Inv X pins σ H s) (k:∀ b o,b≠e->b≠it->s.heap.get? b=some o->h'.get? b=some o) (fe:FpOk X pins H e) (fi:FpOk X pins H it):Inv X pins σ H { s with heap:=h',toks:=t' }:=by
 obtain ⟨e0,e1,e2,e3,e4,e5⟩:=fe
 obtain ⟨i0,i1,i2,i3,i4,i5⟩:=fi
 have ne:∀ b u,H b=some u->b≠e:=λb u q z=>by rw [z,e0] at q;cases q
 have ni:∀ b u,H b=some u->b≠it:=λb u q z=>by rw [z,i0] at q;cases q
 have nc:∀ b,b ∉ [e,it]->b≠e/\b≠it:=λb hb=>⟨λz=>hb (by simp [z]),λz=>hb (by simp [z])⟩
 refine I.step (g':=s.gens) (d':=s.drawn) (ch:=[e,it]) (λb hb=>?_) (λb o _ _ hc q _=>k b o (nc b hc).1 (nc b hc).2 q) (λb o _ _ hc q _=>⟨o.slots,k b o (nc b hc).1 (nc b hc).2 q⟩) (λ_ _ _ _ n=>n)
  (λb o hc q=>⟨o,k b o (nc b hc).1 (nc b hc).2 q⟩) (λ_ _ q=>q) (λ_ _ _ q=>q) (λb ps q=>⟨#[],by rw [q];simp⟩) (λm hm=>?_) (λb u q=>?_) I.bare
 ·rcases List.mem_cons.mp hb with z | z
  ·subst z;exact ⟨e3,e1,e4,e5⟩
  ·have z:b=it:=by simpa using z
   subst z;exact ⟨i3,i1,i4,i5⟩
 ·obtain ⟨o,es,ep,ho,r⟩:=hm
  exact ⟨o,es,ep,k _ o (Ne.symm e1) (Ne.symm i1) ho,r⟩
 ·refine (I.hok b u q).stay (λc v hc q'=>k c v ?_ ?_ q') (λ_ q=>q) λ_ _ q=>q
  ·rcases hc with z | z
   ·rw [z];exact ne b u q
   ·exact ne c _ z
  ·rcases hc with z | z
   ·rw [z];exact ni b u q
   ·exact ni c _ z
theorem zua {T:Addr} (I:Inv X pins σ H s) (f:FpOk X pins H T) (new:zba X.prog X.w (upd H T o) s.heap T o):Inv X pins σ (upd H T o) s:=by
 obtain ⟨f0,f1,f2,f3,f4,f5⟩:=f
 have nT:∀ b u,H b=some u->b≠T:=λb u q z=>by rw [z,f0] at q;cases q
 refine I.step (g':=s.gens) (d':=s.drawn) (t':=s.toks) (h':=s.heap) (ch:=[T]) (λb hb=>?_) (λb o _ _ hc q _=>q) (λb o _ _ hc q _=>⟨o.slots,q⟩) (λb _ hb _ n=>by rw [zak (λz=>hb (by simp [z]))];exact n)
  (λb o hc q=>⟨o,q⟩) (λb _ q=>by rw [zak (nT b _ q)];exact q) (λb _ _ q=>by rw [zak (nT b _ q)];exact q) (λb ps q=>⟨#[],by rw [zak (nT b _ q),q];simp⟩) (λm hm=>hm) (λb u q=>?_) I.bare
 ·have z:b=T:=by simpa using hb
  subst z;exact ⟨f3,f1,f4,f5⟩
 ·by_cases hb:b=T
  ·subst hb;rw [zaj] at q;cases q;exact new
  ·rw [zak hb] at q
   exact (I.hok b u q).stay (λc v hc q'=>q') (λc q'=>by rw [zak (nT c _ q')];exact q') λc xs q'=>by rw [zak (nT c _ q')];exact q'
noncomputable def Ien (K:PySem.W.Frag) (a:Addr):L2.It:=⟨(Itl K a).go,λi H v H'=>∃ p x,v=.ref p/\H p=none/\H'=upd H p (.tup [.int i,x])/\∀ xs,SqL K H a xs->xs[i]?=some x,(Itl K a).stop⟩
theorem zkq (a e it:Addr) (hne:e≠it):Turn P w K (.Tuple elts x1 tpos) (Ien K a) [e,it] e (λi h=>∃ old,IsEnum h e it i old/\h.IsListIter it a i) where
 mem:=by simp
 obj:=λi h st b hb=>by
  obtain ⟨old,he,hit⟩:=st
  rcases List.mem_cons.mp hb with z | z
  ·subst z;exact ⟨_,he,λv z=>by cases z⟩
  ·have z:b=it:=by simpa using z
   subst z
   obtain ⟨o,ho,c,d⟩:=hit
   exact ⟨o,ho,λv z=>by rw [d] at z;cases z⟩
 keep:=λi h h' st k=>by
  obtain ⟨old,he,hit⟩:=st
  exact ⟨old,k e (by simp) _ he,hit.at λo q=>k it (by simp) o q⟩
 item:=by
  intro X hP hw hK hc i pins s σ H E I hf st hg
  subst hP hw hK
  obtain ⟨old,he,hit⟩:=st
  obtain ⟨xs,x,hq,hx⟩:=hg
  obtain ⟨its,rv,p,hz⟩:=I.list hq
  obtain ⟨u,hu,ru⟩:=rv.get hx
  have fe:=hf e (by simp)
  have fi:=hf it (by simp)
  have fT:FpOk X pins H s.heap.objs.size:=I.fpOk (Nat.le_refl _) (I.hok.fresh (Nat.le_refl _))
  have lte:e<s.heap.objs.size:=Heap.lt_size he
  have lti:it<s.heap.objs.size:=by obtain ⟨o,ho,_⟩:=id hit;exact Heap.lt_size ho
  refine wpAny_pyNext_enum_item he hit p.isList (x:=u) (by simpa using hu) hne λh1 ho1 hit1 hT hsz hk=>?_
  refine ⟨.ref s.heap.objs.size,rfl,wpAny_letOwnedTupleGo_enum (s:={ s with heap:=h1,toks:=s.toks+1 }) ho1 λh2 he2 hs2=>?_⟩
  have hk2:∀ b o,b≠e->b≠it->s.heap.get? b=some o->h2.get? b=some o:=λb o hb1 hb2 q=>(hs2.2 b hb1).trans (hk b o hb1 hb2 q)
  have I1:Inv X pins σ H { s with heap:=h2,toks:=s.toks+1 }:=zpQ I hk2 fe fi
  have hT2:h2.get? s.heap.objs.size=some { cls:=.type "tuple",data:=.seq #[.int i s.toks,u] }:=(hs2.2 _ (Nat.ne_of_gt lte)).trans hT
  have I2:Inv X pins σ (upd H s.heap.objs.size (.tup [.int i,x])) { s with heap:=h2,toks:=s.toks+1 }:=zua I1 fT ⟨show 2<=sizeLine by decide,[.int i s.toks,u],.cons ⟨_,rfl⟩ (.cons ru .nil),⟨_,hT2,rfl,_,rfl⟩,λo q=>by
   have q:h2.get? s.heap.objs.size=some o:=q
   rw [hT2] at q;cases q;rfl⟩
  refine ⟨.ref s.heap.objs.size,_,I2,rfl,⟨s.heap.objs.size,x,rfl,fT.1,rfl,λys hy=>by rw [I.list_inj hy hq];exact hx⟩,⟨u,by simpa using he2,hit1.at λo q=>(hs2.2 it (Ne.symm hne)).trans q⟩,λb hb=>?_⟩
  have hb':b≠s.heap.objs.size:=by
   rcases List.mem_cons.mp hb with z | z
   ·rw [z];exact Nat.ne_of_lt lte
   ·have z:b=it:=by simpa using z
    rw [z];exact Nat.ne_of_lt lti
  rw [zak hb']
  exact (hf b hb).1
 done:=by
  intro X hP hw hK hc i pins s σ H E I hf st hg
  subst hP hw hK
  obtain ⟨old,he,hit⟩:=st
  obtain ⟨xs,hq,hx⟩:=hg
  obtain ⟨its,rv,p,hz⟩:=I.list hq
  obtain ⟨f0,f1,f2,f3,f4,f5⟩:=hf it (by simp)
  have hl:=rv.length
  exact wpAny_pyNext_enum_end (I.ok.hd hc) he hit p.isList (by simp;omega) λh' eb=>⟨rfl,I.turned (t':=s.toks) (λb o hb q=>eb b o hb q) f0 f1 f3 f4 f5⟩
 self:=λ_ _ _ _ _ st h=>by
  obtain ⟨old,he,_⟩:=st
  exact wpAny_pyIter_enum he h
theorem zjY:∀ (xs ys:List Ite) (k:Int) (i:Nat) (x:Ite),zaq k xs=some ys->ys[i]?=some x->∃ r,xs[i]?=some (.r r)/\x=.en (k+i) r
 | [],ys,k,i,x,e,q=>by simp [zaq] at e;subst e;simp at q
 | .en _ _::_,_,_,_,_,e,_=>by simp [zaq] at e
 | .r r::t,ys,k,i,x,e,q=>by
  simp only [zaq] at e
  cases et:zaq (k+1) t with
  | none=>rw [et] at e;cases e
  | some l=>
   rw [et] at e
   simp only [Option.some.injEq] at e
   subst e
   cases i with
   | zero=>simp at q;subst q;exact ⟨r,rfl,by simp⟩
   | succ i=>
    obtain ⟨r',e1,e2⟩:=zjY t l (k+1) i x et (by simpa using q)
    exact ⟨r',by simpa using e1,by rw [e2];congr 1;push_cast;omega⟩
theorem zhq:∀ (xs ys:List Ite) (k:Int),zaq k xs=some ys->ys.length=xs.length
 | [],ys,k,e=>by simp [zaq] at e;subst e;rfl
 | .en _ _::_,_,_,e=>by simp [zaq] at e
 | .r r::t,ys,k,e=>by
  simp only [zaq] at e
  cases et:zaq (k+1) t with
  | none=>rw [et] at e;cases e
  | some l=>
   rw [et] at e
   simp only [Option.some.injEq] at e
   subst e
   simp [zhq t l (k+1) et]
theorem zpl (W:Wlk K (Itl K a) w μ h H) (e:zaq 0 w.xs=some ys):Wlk K (Ien K a) ⟨ys,w.l⟩ μ h H:=by
 refine ⟨λμ1 h1 H1 i x st R1 sy q=>?_,λμ1 h1 H1 st R1 sy=>?_⟩
 ·obtain ⟨r,e1,rfl⟩:=zjY _ _ _ _ _ e q
  obtain ⟨go,yld⟩:=W.go μ1 h1 H1 i _ st R1 sy e1
  refine ⟨go,λv H' qW=>?_⟩
  obtain ⟨p,x,hv,hp,hH,hx⟩:=qW
  subst hv hH
  obtain ⟨_,_,zr⟩:=yld x H1 ⟨rfl,hx⟩
  exact ⟨Stp.fresh hp,R1.fresh hp,p,x,rfl,by rw [zaj];simp,RepR.stp (Stp.fresh hp) R1 zr⟩
 ·show (Itl K a).stop ys.length H1
  rw [zhq _ _ _ e]
  exact W.stop μ1 h1 H1 st R1 sy
theorem zsT (hg:Gl X "enumerate") (hm:X.mg "enumerate"=none) (ha:PA X [l] ta) (hs:starEach [l] X.env=[(false,eval l X.env)]) :
  PI X (.Tuple elts x1 tpos) (.Call (.Name "enumerate" p) [l] [] pos) (λσ H R=>ta σ H λvs H1=>∃ a xs,vs=[.ref a]/\SqL X.K H1 a xs/\(xs.length<=sizeLine->R (Ien X.K a) H1)):=by
 intro pins s σ H R I h
 refine PyProof.Rows.Call_ (zeS I hg hm PyProof.Rows.boot_enumerate (PyProof.Rows.callWith_type1 (thn (ha pos pins s σ H _ I h) λus s1 qW=>?_) hs rfl))
 obtain ⟨vs,H1,I1,r1,q1⟩:=qW
 obtain ⟨a,xs,rfl,hq,q⟩:=q1
 obtain ⟨u,rfl,rx⟩:=zlN r1
 cases rx
 obtain ⟨its,rv,pl,hz⟩:=I1.list hq
 refine call_enumerate_list pl.isList λh' he hit hsz hk=>?_
 refine wpAny_pyIter_enum (s:={ s1 with heap:=h' }) he ?_
 have I2:Inv X pins σ H1 { s1 with heap:=h' }:=I1.kept (t':=s1.toks) hk
 refine ⟨s1.heap.objs.size+1,[s1.heap.objs.size+1,s1.heap.objs.size],_,_,H1,rfl,I2,zkq a _ _ (Nat.ne_of_gt (Nat.lt_succ_self _)),⟨.none,he,hit⟩,λb hb=>?_,q hz⟩
 rcases List.mem_cons.mp hb with z | z
 ·subst z;exact I1.fpOk (Nat.le_succ _) (I1.hok.fresh (Nat.le_succ _))
 ·have z:b=s1.heap.objs.size:=by simpa using z
  subst z;exact I1.fpOk (Nat.le_refl _) (I1.hok.fresh (Nat.le_refl _))
theorem zrr (il:isLs r=true) (R1:Rep K μ h H) (q1:RepR K μ h H r v) (e:zaY r h=some (w,h')):h'=h/\∃ a vs,v=.ref a/\SqL K H a vs/\vs.length=w.xs.length/\Wlk K (Itl K a) w μ h H:=by
 (delta zaY at e;simp only [zaa] at e)
 obtain ⟨o,h1,e1,e2⟩:=e
 obtain ⟨rfl,ho⟩:=zbf e1
 cases o with
 | some ls=>
  obtain ⟨l,rfl,ho⟩:=ho
  obtain ⟨a,ea,rfl⟩:=q1
  simp only [zab] at e2
  obtain ⟨rfl,rfl⟩:=e2
  obtain ⟨vs,q2,z2⟩:=R1.obj l a _ ea ho
  exact ⟨rfl,a,vs,rfl,.inl (.inl q2),by rw [List.length_map];exact z2.length.symm,zkz R1 ea ho⟩
 | none=>
  simp only [zaa] at e2
  obtain ⟨d,h2,e3,e4⟩:=e2
  cases r with
  | loc l=>
   obtain ⟨a,ea,rfl⟩:=q1
   obtain ⟨o,ho,il,rfl,rfl⟩:=zeK e3
   obtain ⟨vs,q2,z2⟩:=R1.placeL ea ho il
   (delta wkOf items at e4;(try dsimp only at e4);simp only [zab] at e4)
   obtain ⟨rfl,rfl⟩:=e4
   exact ⟨rfl,a,vs,rfl,.inl (.inl q2),by rw [List.length_map];exact z2.length.symm,zlb R1 ea ho il⟩
  | d x=>
   simp only [rd,zab] at e3
   obtain ⟨rfl,rfl⟩:=e3
   cases x with
   | lst xs=>
    (delta wkOf items at e4;(try dsimp only at e4);simp only [zab] at e4)
    obtain ⟨rfl,rfl⟩:=e4
    simp only [RepR,RepD] at q1
    obtain ⟨a,vs,rfl,q2,z2⟩:=q1
    exact ⟨rfl,a,vs,rfl,q2.sq,by rw [List.length_map];exact z2.length.symm,ziI R1 q2 z2⟩
   | _=>cases il
theorem zsZ (hg:Gl X "enumerate") (hm:X.mg "enumerate"=none) (hl:IE X l f) (hs:starEach [l] X.env=[(false,eval l X.env)]) :
  PI X (.Tuple elts x1 tpos) (.Call (.Name "enumerate" p) [l] [] pos) (tI X.K λσ=>bnd (f σ) λr=>zjG r):=by
 refine PI.imp (zsT hg hm (zaS hl zb2 hs) hs) λσ H R q0=>?_
 obtain ⟨μ,h,env,R0,re,w,h',e,k⟩:=q0
 simp only [zaa] at e
 obtain ⟨r,h1,e1,e2⟩:=e
 refine ⟨μ,h,env,R0,re,r,h1,e1,λμ1 H1 v s1 R1 q1=>?_⟩
 unfold zjG at e2
 split at e2
 ·rename_i il
  simp only [zaa] at e2
  obtain ⟨w0,h2,e3,e4⟩:=e2
  obtain ⟨rfl,a,vs,rfl,q2,hl2,W⟩:=zrr il R1 q1 e3
  cases en:zaq 0 w0.xs with
  | none=>rw [en] at e4;cases e4
  | some ys=>
   rw [en] at e4
   simp only [zab] at e4
   obtain ⟨rfl,rfl⟩:=e4
   exact ⟨a,vs,rfl,q2,λhz=>k μ1 H1 _ s1 R1 (zpl W en) (by show ys.length<=sizeLine;rw [zhq _ _ _ en,<-hl2];exact hz)⟩
 ·cases e2
theorem zrF (ha:IE X a f) (hi:IE X i g) (hs:zc0 i):IE X (.Subscript a i pos) (λσ=>bnd (f σ) λx=>bnd (g σ) λy=>bnd (zbc x) λo=>match o,y with
  | some ls,.d (.int k)=>match at' ls k with
   | some l=>ok (.loc l)
   | none=>λ_=>none
  | _,_=>λ_=>none):=by
 refine PE.imp (zm7 zkN ha hi hs) λσ H Q q0=>?_
 obtain ⟨μ,h,env,R0,re,r,h',e,k⟩:=q0
 simp only [zaa] at e
 obtain ⟨x,h1,e1,y,h2,e2,o,h3,e3,e4⟩:=e
 refine ⟨μ,h,env,R0,re,x,h1,e1,λμ1 H1 v s1 R1 q1=>⟨μ1,h1,env,R1,re.stp s1 R0,y,h2,e2,λμ2 H2 u s2 R2 q2=>?_⟩⟩
 obtain ⟨rfl,ho⟩:=zbf e3
 split at e4
 ·rename_i ls kk
  obtain ⟨l,rfl,ho⟩:=ho
  obtain ⟨p,ep,rfl⟩:=q1.stp s2 R1
  cases ea:at' ls kk with
  | none=>rw [ea] at e4;cases e4
  | some j=>
   rw [ea] at e4
   simp only [zab] at e4
   obtain ⟨rfl,rfl⟩:=e4
   obtain ⟨vs,q3,z3⟩:=R2.obj l p _ ep ho
   obtain ⟨jj,f1,f2⟩:=zkK ea
   obtain ⟨w,f3,b,eb,rfl⟩:=zde z3 f2
   simp only [RepR,RepD] at q2
   refine ⟨p,vs,kk,.ref b,rfl,q2,.inl (.inl q3),?_,k μ2 H2 _ (s1.trans s2) R2 ⟨b,eb,rfl⟩⟩
   unfold atI
   rw [<-z3.length,f1]
   exact f3
 ·cases e4
theorem zpC (hg:Gl X "len") (hm:X.mg "len"=none) (he:IE X e f) (hs:starEach [e] X.env=[(false,eval e X.env)]):IE X (.Call (.Name "len" p) [e] [] pos) (λσ=>bnd (f σ) λx=>bnd (zbc x) λo=>match o with
  | some ls=>ok (.d (.int ls.length))
  | none=>λ_=>none):=by
 refine PE.imp (zbR zfq hg hm (by decide +kernel) (zaS he zb2 hs) (by decide) (by decide) hs rfl) λσ H Q q0=>?_
 obtain ⟨μ,h,env,R0,re,r,h',e,k⟩:=q0
 simp only [zaa] at e
 obtain ⟨x,h1,e1,o,h2,e2,e3⟩:=e
 refine ⟨μ,h,env,R0,re,x,h1,e1,λμ1 H1 v s1 R1 q1=>?_⟩
 obtain ⟨rfl,ho⟩:=zbf e2
 cases o with
 | none=>cases e3
 | some ls=>
  simp only [zab] at e3
  obtain ⟨rfl,rfl⟩:=e3
  obtain ⟨l,rfl,ho⟩:=ho
  obtain ⟨a,ea,rfl⟩:=q1
  obtain ⟨vs,q3,z3⟩:=R1.obj l a _ ea ho
  exact ⟨.ref a,vs.length,rfl,.inl ⟨vs,.inl (.inl q3),rfl⟩,k μ1 H1 _ s1 R1 (by simp only [RepR,RepD];rw [z3.length])⟩
end
end IT
namespace IT
open PySem PySem.Spec L2
section
variable {X:Cx} {A0:Addr->Prop} {H:Hp} {s:Shared}
mutual
theorem ziF (S:za8 X s H):∀ (x:D) (v:V) (u:Value),D.hk x=true->RepD X.K A0 H x v->RelV v u->KAt s.heap x u
 | .int i,v,u,_,q,r=>by
  simp only [RepD] at q;subst q
  simp only [KAt];exact r
 | .str x,v,u,_,q,r=>by
  simp only [RepD] at q;subst q
  simp only [KAt];exact r
 | .tup xs,v,u,hk,q,r=>by
  simp only [RepD] at q
  obtain ⟨a,vs,rfl,sq,zs⟩:=q
  cases r
  obtain ⟨its,ri,p⟩:=S.tup a vs sq
  simp only [KAt]
  exact ⟨a,its.toArray,rfl,p,by simpa using kAts_of S xs vs its hk zs ri⟩
 | .non,_,_,hk,_,_=>by cases hk
 | .bl _,_,_,hk,_,_=>by cases hk
 | .lst _,_,_,hk,_,_=>by cases hk
theorem kAts_of (S:za8 X s H):∀ (x:List D) (v:List V) (u:List Value),D.hks x=true->RepDs X.K A0 H x v->Vals v u->KAts s.heap x u
 | [],v,u,_,q,r=>by
  simp only [RepDs] at q;subst q
  cases r
  simp only [KAts]
 | x::xs,v,u,hk,q,r=>by
  simp only [RepDs] at q
  obtain ⟨w,ws,rfl,q1,q2⟩:=q
  cases r with
  | cons r1 r2=>
   rw [D.hks,Bool.and_eq_true] at hk
   simp only [KAts]
   exact ⟨_,_,rfl,ziF S x w _ hk.1 q1 r1,kAts_of S xs ws _ hk.2 q2 r2⟩
end
theorem zfC (h:zaF k=true):D.hk k=true/\k.dep<=8:=by
 cases k with
 | tup xs=>
  rw [zaF,Bool.and_eq_true] at h
  have:=of_decide_eq_true h.2
  exact ⟨h.1,by simp only [D.dep];omega⟩
 | _=>cases h
theorem zdP (h:zaF k=true) (q:RepD X.K A0 H k v):∃ b,v=.ref b:=by
 cases k with
 | tup xs=>simp only [RepD] at q;obtain ⟨a,_,e,_⟩:=q;exact ⟨a,e⟩
 | _=>cases h
theorem zdD (S:za8 X s H) (h:zaF k=true) (q:RepD X.K A0 H k (.ref b)):(dKind X.prog X.w).is s.heap k b:=
 ⟨(zfC h).2,ziF S k (.ref b) (.ref b) (zfC h).1 q rfl⟩
end
noncomputable def KvR (K:PySem.W.Frag) (A:Addr->Prop) (H:Hp) (p:D×D) (q:D×Addr×Value):Prop:=p.1=q.1/\(zaF p.1=true/\RepD K A H p.1 (.ref q.2.1))/\∃ v,RelV v q.2.2/\RepD K A H p.2 v
theorem zd2 {α β γ:Type} {F:α->β->Prop} {G:β->γ->Prop} {T:α->γ->Prop} (k:∀ a b c,F a b->G b c->T a c) {xs:List α} {ys:List β} {zs:List γ} (h:Paired F xs ys) (q:Paired G ys zs):Paired T xs zs:=by
 induction h generalizing zs with
 | nil=>cases q;exact .nil
 | cons f fs ih=>cases q with
  | cons g gs=>exact .cons (k _ _ _ f g) (ih gs)
section
variable {X:Cx} {pins:List (Addr×Obj)} {σ:St} {H:Hp} {s:Shared} {μ:List Addr} {h:Sto} {l:Nat} {a:Addr} {kvs:List (D×D)}
structure zt3 (X:Cx) (μ:List Addr) (h:Sto) (H:Hp) (s:Shared) (a:Addr) (kvs:List (D×D)) (xv:List (D×Addr×Value)):Prop where
 sys:(a==sysModules)=false
 len:kvs.length<=sizeLine
 rel:Paired (KvR X.K (Live μ h) H) kvs xv
 dic:s.heap.DictOfH (dKind X.prog X.w) a xv
theorem zea (I:Inv X pins σ H s) (R0:Rep X.K μ h H) (ea:μ[l]?=some a) (ho:h[l]?=some (.dic kvs)\/h[l]?=some (.dfr kvs)):∃ xs xv,(h[l]?=some (.dic kvs)->H a=some (.dT xs))/\Rd H a (.dT xs)/\Paired (λ(p:D×D) (q:D×Addr×V)=>p.1=q.1/\(zaF p.1=true/\RepD X.K (Live μ h) H p.1 (.ref q.2.1))/\RepD X.K (Live μ h) H p.2 q.2.2) kvs xs ∧
  Paired (λ(p:D×Addr×V) (q:D×Addr×Value)=>p.1=q.1/\p.2.1=q.2.1/\RelV p.2.2 q.2.2) xs xv/\zt3 X μ h H s a kvs xv:=by
 have zz:∃ xs,(h[l]?=some (.dic kvs)->H a=some (.dT xs))/\Rd H a (.dT xs)/\Paired (λ(p:D×D) (q:D×Addr×V)=>p.1=q.1/\(zaF p.1=true/\RepD X.K (Live μ h) H p.1 (.ref q.2.1))/\RepD X.K (Live μ h) H p.2 q.2.2) kvs xs:=by
  rcases ho with ho | ho
  ·obtain ⟨xs,e,z⟩:=R0.obj l a _ ea ho
   exact ⟨xs,λ_=>e,.inl e,z⟩
  ·obtain ⟨ob,xs,e,z⟩:=R0.obj l a _ ea ho
   exact ⟨xs,(λq=>by rw [ho] at q;cases q),.inr ⟨ob,e⟩,z⟩
 obtain ⟨xs,e0,e,z⟩:=zz
 obtain ⟨hz,hS,xv,r,o,es,ep,h1,h2,h3,h4,h5⟩:=(show zba X.prog X.w H s.heap a (.dT xs) from e.ok I.hok)
 have rel:Paired (KvR X.K (Live μ h) H) kvs xv:=zd2 (λp q t ⟨c1,c2,c3⟩ ⟨d1,d2,d3⟩=>⟨c1.trans d1,⟨c2.1,by rw [<-d2];exact c2.2⟩,q.2.2,d3,c3⟩) z r
 refine ⟨xs,xv,e0,e,z,r,hS,by rw [Paired.length z];exact hz,rel,o,es,ep,h1,h2,h3,h4,?_,h5⟩
 have S:=zaG I
 have all:∀ {l1:List (D×D)} {l2:List (D×Addr×Value)},Paired (KvR X.K (Live μ h) H) l1 l2->∀ x∈l2,(dKind X.prog X.w).is s.heap x.1 x.2.1:=by
  intro l1 l2 q
  induction q with
  | nil=>intro x hx;cases hx
  | @cons p q ps qs hq t ih=>
   intro x hx
   rcases List.mem_cons.mp hx with e | hx
   ·subst e
    obtain ⟨c1,c2,_⟩:=hq
    rw [<-c1]
    exact zdD S c2.1 c2.2
   ·exact ih x hx
 exact all rel
theorem zbH (k:D) {kvs:List (D×D)} {xv:List (D×Addr×Value)} (h:Paired (KvR K A H) kvs xv):(∃ d p v,dGet k kvs=some d/\atKey xv k=some p/\RelV v p.2/\RepD K A H d v)\/(dGet k kvs=none/\atKey xv k=none):=by
 induction h with
 | nil=>exact .inr ⟨rfl,rfl⟩
 | @cons p q r t hq ht ih=>
  obtain ⟨c1,c2,v,c3,c4⟩:=hq
  have e0:dGet k (p::r)=if p.1.same k then some p.2 else dGet k r:=rfl
  rw [e0,zb4]
  by_cases e:p.1=k
  ·refine .inl ⟨p.2,q.2,v,by simp [e],?_,c3,c4⟩
   have:q.1=k:=by rw [<-c1];exact e
   simp [atKey,List.find?_cons,this]
  ·have e2:¬ q.1=k:=λz=>e (c1.trans z)
   have e3:atKey (q::t) k=atKey t k:=by simp [atKey,List.find?_cons,e2]
   rw [e3,if_neg (by simp [e])]
   exact ih
theorem zcr (e:kRd x h=some (k,h')):x=.d k/\zaF k=true/\h'=h:=by
 cases x with
 | loc _=>cases e
 | d d=>
  simp only [kRd] at e
  split at e
  ·rename_i hk
   simp only [Option.some.injEq,Prod.mk.injEq] at e
   obtain ⟨rfl,rfl⟩:=e
   exact ⟨rfl,hk,rfl⟩
  ·cases e
theorem zbP (e:dRd x h=some (kvs,h')):∃ l,x=.loc l/\(h[l]?=some (.dic kvs)\/h[l]?=some (.dfr kvs))/\h'=h:=by
 cases x with
 | d _=>cases e
 | loc l=>
  simp only [dRd] at e
  split at e
  ·rename_i kvs' ho
   simp only [Option.some.injEq,Prod.mk.injEq] at e
   obtain ⟨rfl,rfl⟩:=e
   exact ⟨l,rfl,.inl ho,rfl⟩
  ·rename_i kvs' ho
   simp only [Option.some.injEq,Prod.mk.injEq] at e
   obtain ⟨rfl,rfl⟩:=e
   exact ⟨l,rfl,.inr ho,rfl⟩
  ·cases e
end
section
variable {X:Cx} {a b e:Expr} {pos:Pos} {f g:IT.Env->M R}
noncomputable def mIn (neg:Bool) (y x:R):M R:=bnd (dRd x) λkvs=>bnd (kRd y) λk=>ok (.d (.bl (if neg then !(dGet k kvs).isSome else (dGet k kvs).isSome)))
theorem zjT (hu:X.A.units+64<cLine):(dKind X.prog X.w).room X.A.in1:=by
 show X.A.units+1+8<cLine
 omega
theorem zoO (hu:X.A.units+64<cLine):OpI X (compareOp .In) (mIn false):=by
 intro pins s σ H x y v u Q I rx ry q
 obtain ⟨μ,h,y1,x1,R0,qy,qx,r,h',e,k⟩:=q
 simp only [mIn,zaa,zab] at e
 obtain ⟨kvs,h1,e1,kk,h2,e2,rfl,rfl⟩:=e
 obtain ⟨l,rfl,ho,rfl⟩:=zbP e1
 obtain ⟨rfl,hk,rfl⟩:=zcr e2
 obtain ⟨c,ea,rfl⟩:=qx
 cases ry
 obtain ⟨b,rfl⟩:=zdP hk qy
 cases rx
 obtain ⟨xs,xv,_,_,_,_,D⟩:=zea I R0 ea ho
 refine wpAny_in_heap (zjT hu) (zdD (zaG I) hk qy) D.sys D.dic ?_
 have e3:(atKey xv kk).isSome=(dGet kk kvs).isSome:=by
  rcases zbH kk D.rel with ⟨d,p,v,z1,z2,_⟩ | ⟨z1,z2⟩<;>rw [z1,z2]<;>rfl
 rw [e3]
 exact ⟨.bl _,H,I.tok _,rfl,k μ H _ Stp.refl R0 (by simp only [RepR,RepD,Bool.false_eq_true,if_false])⟩
theorem zgU (hu:X.A.units+64<cLine):OpI X (compareOp .NotIn) (mIn true):=by
 intro pins s σ H x y v u Q I rx ry q
 obtain ⟨μ,h,y1,x1,R0,qy,qx,r,h',e,k⟩:=q
 simp only [mIn,zaa,zab] at e
 obtain ⟨kvs,h1,e1,kk,h2,e2,rfl,rfl⟩:=e
 obtain ⟨l,rfl,ho,rfl⟩:=zbP e1
 obtain ⟨rfl,hk,rfl⟩:=zcr e2
 obtain ⟨c,ea,rfl⟩:=qx
 cases ry
 obtain ⟨b,rfl⟩:=zdP hk qy
 cases rx
 obtain ⟨xs,xv,_,_,_,_,D⟩:=zea I R0 ea ho
 refine PyProof.Rows.wpAny_notIn_heap (zjT hu) (zdD (zaG I) hk qy) D.sys D.dic ?_
 have e3:(atKey xv kk).isSome=(dGet kk kvs).isSome:=by
  rcases zbH kk D.rel with ⟨d,p,v,z1,z2,_⟩ | ⟨z1,z2⟩<;>rw [z1,z2]<;>rfl
 rw [e3]
 exact ⟨.bl _,H,I.tok _,rfl,k μ H _ Stp.refl R0 (by simp only [RepR,RepD,if_true])⟩
theorem zsw (hu:X.A.units+64<cLine) (ho:op=if neg then .NotIn else .In) (ha:IE X a f) (hb:IE X b g) (hm:behindInMarks op b=false):IE X (.Compare a [op] [b] pos) (λσ=>bnd (f σ) λy=>bnd (g σ) λx=>mIn neg y x):=by
 cases neg with
 | false=>subst ho;exact zl6 (zoO hu) ha hb hm
 | true=>subst ho;exact zl6 (zgU hu) ha hb hm
theorem zsh (hu:X.A.units+64<cLine) (ho:op=if neg then .NotIn else .In) (ha:IE X a f) (hb:IE X b g) (hm:behindInMarks op b=false):IT' X (.Compare a [op] [b] pos) (λσ=>bnd (bnd (f σ) λy=>bnd (g σ) λx=>mIn neg y x) λr=>bnd (rd r) λd=>opt (tru d)):=by
 have hbl:∀ x y h r h',mIn neg x y h=some (r,h')->∃ t,r=.d (.bl t):=by
  intro x y h r h' e
  simp only [mIn,zaa,zab] at e
  obtain ⟨_,_,_,_,_,_,rfl,_⟩:=e
  exact ⟨_,rfl⟩
 cases neg with
 | false=>subst ho;exact zj9 (zoO hu) ha hb hm hbl
 | true=>subst ho;exact zj9 (zgU hu) ha hb hm hbl
noncomputable def mDx (x y:R):M R:=bnd (dRd x) λkvs=>bnd (kRd y) λk=>bnd (opt (dGet k kvs)) λv=>ok (.d v)
theorem zrM (hu:X.A.units+64<cLine):IxR X (λv u H Q=>OpIQ X.K mDx v u H Q):=by
 intro value slice pins s σ H x y v u Q I rx ry q hs
 obtain ⟨μ,h,x1,y1,R0,qx,qy,r,h',e,k⟩:=q
 simp only [mDx,zaa,zab,zaE] at e
 obtain ⟨kvs,h1,e1,kk,h2,e2,z,h3,⟨e3,rfl⟩,rfl,rfl⟩:=e
 obtain ⟨l,rfl,ho,rfl⟩:=zbP e1
 obtain ⟨rfl,hk,rfl⟩:=zcr e2
 obtain ⟨c,ea,rfl⟩:=qx
 cases rx
 obtain ⟨b,rfl⟩:=zdP hk qy
 cases ry
 obtain ⟨xs,xv,_,_,_,_,D⟩:=zea I R0 ea ho
 rcases zbH kk D.rel with ⟨d,p,w,z1,z2,z3,z4⟩ | ⟨z1,_⟩
 ·rw [z1] at e3
  cases e3
  refine PyProof.Rows.subscriptTail_builtinR (x:=p.2) D.dic.typeIs PySem.slot_dict_getitem.lookup ?_ hs
  exact wpAny_getItem_heap (zjT hu) (zdD (zaG I) hk qy) D.dic z2 ⟨rfl,w,H,I.tok _,z3,k μ H _ Stp.refl R0 z4⟩
 ·rw [z1] at e3;cases e3
theorem zsW (hu:X.A.units+64<cLine) (ha:IE X a f) (hb:IE X b g) (hs:zc0 b):IE X (.Subscript a b pos) (λσ=>bnd (f σ) λx=>bnd (g σ) λy=>mDx x y):=
 PE.imp (zm7 (zrM hu) ha hb hs) λσ H Q q=>two q
theorem zp6 (hu:X.A.units+64<cLine):MtR X "dict.get" (λx vs H Q=>∃ μ h l kvs kk w,Rep X.K μ h H/\RepR X.K μ h H (.loc l) x/\(h[l]?=some (.dic kvs)\/h[l]?=some (.dfr kvs))/\vs=[w]/\zaF kk=true/\RepD X.K (Live μ h) H kk w/\(∀ z,RepD X.K (Live μ h) H ((dGet kk kvs).getD .non) z->Q z H)):=by
 intro pins s σ H x vs v us Q I rx rs q
 obtain ⟨μ,h,l,kvs,kk,w,R0,⟨c,ea,rfl⟩,ho,rfl,hk,qk,k⟩:=q
 cases rx
 obtain ⟨u,rfl,ru⟩:=rs.one
 obtain ⟨b,rfl⟩:=zdP hk qk
 cases ru
 obtain ⟨xs,xv,_,_,_,_,D⟩:=zea I R0 ea ho
 refine call_meetsIn F.slot_dict_get D.dic.typeIs F.entry_dict_get (F.args_dict_get_2 _ _) (meetsH_dict_get (dKind X.prog X.w) c b D.sys) ⟨zjT hu,kk,xv,zdD (zaG I) hk qk,D.dic,?_⟩
 rcases zbH kk D.rel with ⟨d,p,w,z1,z2,z3,z4⟩ | ⟨z1,z2⟩
 ·rw [z1] at k
  rw [z2]
  exact ⟨w,H,I.tok _,z3,k _ z4⟩
 ·rw [z1] at k
  rw [z2]
  exact ⟨.non,H,I.tok _,rfl,k _ (by simp only [Option.getD_none,RepD])⟩
theorem zsJ (hu:X.A.units+64<cLine) (ho:IE X o f) (he:IE X e g) (hname:name=("get":Str))
  (hbase:attributeBase o name X.env (eval o X.env)=eval o X.env)
  (hfew:((backTo cpos (starEach [e] X.env)).all (λx=>!x.1)&&(backToKw cpos (keywordEach [] X.env)).all (λx=>x.1.isSome)
   && decide ([e].length+([]:List Keyword).length+(if ([]:List Keyword).isEmpty then 0 else 1)<30))=true)
  (hline:(apos.endLine==cpos.line)=true) (hs:starEach [e] X.env=[(false,eval e X.env)]) (hplain:(backTo cpos (starEach [] X.env)).any (·.1)=false) :
  IE X (.Call (.Attribute o name apos) [e] [] cpos) (λσ=>bnd (f σ) λx=>bnd (dRd x) λ_=>bnd (g σ) λy=>bnd (dRd x) λkvs=>bnd (kRd y) λk=>ok (.d ((dGet k kvs).getD .non))):=by
 subst hname
 refine PE.imp (zm0 PySem.F.plainAttrs_dict PySem.F.slot_dict_get PySem.F.type_dict_get (zp6 hu) ho (zaS he zb2 hs) hbase hfew hline hs hplain) λσ H Q q0=>?_
 obtain ⟨μ,h,env,R0,re,r,h',e,k⟩:=q0
 simp only [zaa,zab] at e
 obtain ⟨x,h1,e1,kv0,h1',e0,y,h2,e2,kvs,h3,e3,kk,h4,e4,rfl,rfl⟩:=e
 obtain ⟨l,rfl,ho1,rfl⟩:=zbP e0
 obtain ⟨l',el,ho2,rfl⟩:=zbP e3
 cases el
 obtain ⟨rfl,hk,rfl⟩:=zcr e4
 refine ⟨μ,h,env,R0,re,.loc l,_,e1,λμ1 H1 v s1 R1 q1=>?_⟩
 have q1':=q1
 obtain ⟨a,ea,rfl⟩:=q1'
 have ex:∃ xs,Rd H1 a (.dT xs):=by
  rcases ho1 with ho1 | ho1
  ·obtain ⟨xs,ex,_⟩:=R1.obj l a _ ea ho1;exact ⟨xs,.inl ex⟩
  ·obtain ⟨ob,xs,ex,_⟩:=R1.obj l a _ ea ho1;exact ⟨xs,.inr ⟨ob,ex⟩⟩
 refine ⟨.inr (.inr (.inl ⟨rfl,.inr ex⟩)),μ1,_,env,R1,re.stp s1 R0,_,_,e2,λμ2 H2 w s2 R2 q2=>?_⟩
 exact ⟨μ2,_,l,kvs,kk,w,R2,q1.stp s2 R1,ho2,rfl,hk,q2,λz qz=>k μ2 H2 z (s1.trans s2) R2 qz⟩
end
noncomputable def putV {β:Type} (k:D) (b:Addr) (v:β):List (D×Addr×β)->List (D×Addr×β)
 | []=>[(k,b,v)]
 | q::r=>if q.1=k then (q.1,q.2.1,v)::r else q::putV k b v r
theorem zfN {β:Type} (k:D) (b:Addr) (v:β):∀ xs:List (D×Addr×β),(putV k b v xs).length<=xs.length+1
 | []=>by simp [putV]
 | q::r=>by
  have:=zfN k b v r
  rw [putV]
  split<;>simp<;>omega
theorem zgL:∀ {xs:List (D×Addr×Value)},k ∉ xs.map (·.1)->xs.map (putAt k v)=xs
 | [],_=>rfl
 | x::r,h=>by
  rw [List.map_cons,List.mem_cons,not_or] at h
  have e:putAt k v x=x:=if_neg λe=>h.1 e.symm
  rw [List.map_cons,e,zgL h.2]
theorem zdb (k:D) (b:Addr) (v:Value):∀ {xs:List (D×Addr×Value)},(xs.map (·.1)).Nodup->storedH xs k b v=putV k b v xs
 | [],_=>by simp [storedH,atKey,putV]
 | x::r,n=>by
  rw [List.map_cons,List.nodup_cons] at n
  rw [putV]
  by_cases e:x.1=k
  ·rw [if_pos e]
   have h1:(atKey (x::r) k).isSome=true:=by simp [atKey,List.find?_cons,e]
   unfold storedH
   rw [if_pos h1,List.map_cons,zgL (by rw [<-e];exact n.1)]
   simp [putAt,e]
  ·rw [if_neg e,<-zdb k b v n.2]
   have h1:atKey (x::r) k=atKey r k:=by simp [atKey,List.find?_cons,e]
   unfold storedH
   rw [h1]
   split
   ·rw [List.map_cons,putAt,if_neg e]
   ·rfl
theorem zfa {α:Type} {F:D×α->D×Addr×V->Prop} {k:D} {d:α} {b:Addr} {v:V} (hF:∀ p q,F p q->p.1=q.1) (h1:F (k,d) (k,b,v)) (h2:∀ p q,F p q->p.1=k->F (p.1,d) (q.1,q.2.1,v)) (pt:List (D×α)->List (D×α))
  (p0:pt []=[(k,d)]) (pc:∀ p r,pt (p::r)=if p.1.same k then (p.1,d)::r else p::pt r) {xs:List (D×α)} {ys:List (D×Addr×V)} (h:Paired F xs ys):Paired F (pt xs) (putV k b v ys):=by
 induction h with
 | nil=>rw [p0,putV];exact .cons h1 .nil
 | @cons p q _ _ hq ht ih=>
  rw [pc,putV,zb4]
  by_cases e:p.1=k
  ·rw [if_pos (by simp [e]),if_pos (by rw [<-hF p q hq];exact e)]
   exact .cons (h2 p q hq e) ht
  ·rw [if_neg (by simp [e]),if_neg (by rw [<-hF p q hq];exact e)]
   exact .cons hq ih
theorem zfJ (rv:RelV v u) {xs:List (D×Addr×V)} {ys:List (D×Addr×Value)} (h:Paired (λ(p:D×Addr×V) (q:D×Addr×Value)=>p.1=q.1/\p.2.1=q.2.1/\RelV p.2.2 q.2.2) xs ys) :
  Paired (λ(p:D×Addr×V) (q:D×Addr×Value)=>p.1=q.1/\p.2.1=q.2.1/\RelV p.2.2 q.2.2) (putV k b v xs) (putV k b u ys):=by
 induction h with
 | nil=>exact .cons ⟨rfl,rfl,rv⟩ .nil
 | cons hq ht ih=>
  rw [putV,putV,hq.1]
  split
  ·exact .cons ⟨rfl,hq.2.1,rv⟩ ht
  ·exact .cons hq ih
section
variable {X:Cx}
noncomputable def ztE (K:PySem.W.Frag):TSet:=λo i v H Q=>∃ μ h l kvs k d,Rep K μ h H/\RepR K μ h H (.loc l) o/\h[l]?=some (.dic kvs)/\zaF k=true/\RepD K (Live μ h) H k i/\RepD K (Live μ h) H d v/\kvs.length<big ∧
 (∀ H',Stp μ h H μ (h.set l (.dic (dPut k d kvs))) H'->Rep K μ (h.set l (.dic (dPut k d kvs))) H'->Q H')
theorem zp1 (hu:X.A.units+64<cLine):PSet X (ztE X.K):=by
 intro pins s σ H o i v ov iv u Q I ro ri rv q
 obtain ⟨μ,h,l,kvs,k,d,R0,⟨a,ea,rfl⟩,ho,hk,qk,qd,hb,q⟩:=q
 cases ro
 obtain ⟨b,rfl⟩:=zdP hk qk
 cases ri
 obtain ⟨xs,xv,eH0,_,z,r,DA⟩:=zea I R0 ea (.inl ho)
 have eH:=eH0 ho
 have lx:xs.length=xv.length:=Paired.length r
 have lk:kvs.length=xs.length:=Paired.length z
 have hbig:big=sizeLine:=rfl
 refine wpAny_setItem_heap (hsz:=by omega) (zjT hu) (zdD (zaG I) hk qk) DA.dic λh' dd' hs=>?_
 obtain ⟨o,es,ep,g1,g2,g3,g4,g5,g6⟩:=dd'
 have nd:(xv.map (·.1)).Nodup:=let ⟨_,_,_,_,_,_,_,_,n⟩:=DA.dic;n
 rw [zdb k b u nd] at g4 g6
 refine ⟨upd H a (.dT (putV k b v xs)),I.write (x:=a) (e:=a) (by rw [eH];exact True.intro) (.inl rfl) (λc w hc e=>(hs.2 c hc).trans e) ⟨o,g1⟩ ⟨by have:=zfN k b v xs;omega,DA.sys,_,zfJ rv r,o,es,ep,g1,g2,g3,g4,g6⟩,?_⟩
 obtain ⟨s2,R2⟩:=zkY (o':=.dic (dPut k d kvs)) (u:=.dT (putV k b v xs)) R0 ea ho rfl λst=>⟨putV k b v xs,zaj,zfa (F:=λ(p:D×D) (q:D×Addr×V)=>p.1=q.1/\(zaF p.1=true/\RepD X.K (Live μ (h.set l (.dic (dPut k d kvs)))) (upd H a (.dT (putV k b v xs))) p.1 (.ref q.2.1))/\RepD X.K (Live μ (h.set l (.dic (dPut k d kvs)))) (upd H a (.dT (putV k b v xs))) p.2 q.2.2)
  (λp q z=>z.1) ⟨rfl,⟨hk,RepD.stp st R0 qk⟩,RepD.stp st R0 qd⟩ (λp q z e=>⟨z.1,z.2.1,RepD.stp st R0 qd⟩) (dPut k d) rfl (λp r=>rfl) (L2.Paired.mapP z λp q y=>⟨y.1,⟨y.2.1.1,RepD.stp st R0 y.2.1.2⟩,RepD.stp st R0 y.2.2⟩)⟩
 exact q _ s2 R2
theorem zqw (hu:X.A.units+64<cLine) (he:IE X e f) (ho:IE X o g) (hi:IE X i k)
  (ha:∀ v,assign (.Subscript o i p2) X.env v=(do let ov<-holding [v] (eval o X.env);let iv<-holding [v,ov] (eval i X.env);standAt p2;holding [v,ov,iv] (setItem ov iv v);release [v,ov,iv] []))
  (hs:swapsWithSole [.Subscript o i p2] e pos.line X.env=pure false) (hw:swappedStores [.Subscript o i p2] e X.env=pure none) (h1:(assignEach [.Subscript o i p2] X.env).map (·.2)=[assign (.Subscript o i p2) X.env]) :
  PS X (.Assign [.Subscript o i p2] e pos) (tS X.K λσ=>bnd (f σ) λr=>bnd (g σ) λx=>bnd (k σ) λy=>bnd (fz r) λd=>bnd (kRd y) λk=>bnd (dSet x k d) λ_=>ok (.nx,σ)):=by
 refine PS.imp (zoC he (zrS ho hi (zp1 hu) ha) hs hw h1) λD σ H q0=>?_
 obtain ⟨μ,h,env,R0,re,fl,env',h',e,kk⟩:=q0
 simp only [zaa,zab,Prod.mk.injEq] at e
 obtain ⟨r,h1,e1,x,h2,e2,y,h3,e3,d,h4,e4,ky,h5,e5,_,h6,e6,⟨rfl,rfl⟩,rfl⟩:=e
 refine ⟨μ,h,env,R0,re,r,h1,e1,λμ1 H1 v s1 R1 q1=>⟨μ1,h1,env,R1,re.stp s1 R0,x,h2,e2,λμ2 H2 u s2 R2 q2=>⟨μ2,h2,env,R2,re.stp (s1.trans s2) R0,y,h3,e3,λμ3 H3 w s3 R3 q3=>?_⟩⟩⟩
 obtain ⟨s4,R4,zd⟩:=zmC R3 ((q1.stp s2 R1).stp s3 R2) e4
 obtain ⟨rfl,hk,rfl⟩:=zcr e5
 cases x with
 | d _=>cases e6
 | loc l=>
  simp only [dSet] at e6
  split at e6
  ·rename_i kvs hx
   split at e6
   ·rename_i hb
    simp only [Option.some.injEq,Prod.mk.injEq] at e6
    obtain ⟨_,rfl⟩:=e6
    refine ⟨μ3,_,l,kvs,ky,d,R4,(q2.stp s3 R2).stp s4 R3,hx,hk,(q3.stp s4 R3),zd,of_decide_eq_true hb,λH' s5 R5=>?_⟩
    have st:=(((s1.trans s2).trans s3).trans s4).trans s5
    exact kk μ3 _ σ st R5 (re.stp st R0)
   ·cases e6
  ·cases e6
theorem zpf:IE X (.Dict [] [] pos) (λ_=>dNew):=by
 intro pins s σ H Q I q
 obtain ⟨μ,h,env,R0,re,r,h',e,k⟩:=q
 simp only [dNew,Option.some.injEq,Prod.mk.injEq] at e
 obtain ⟨rfl,rfl⟩:=e
 have hf:=I.fresh
 refine wpAny_Dict_empty ⟨.ref s.heap.objs.size,upd H s.heap.objs.size (.dT []),I.laid (t':=s.toks) (λ_ _ q=>Heap.get?_push_of_some _ q) (Nat.le_refl _) ⟨Nat.zero_le _,beq_eq_false_iff_ne.mpr (Ne.symm (Nat.ne_of_lt (zoI I))),[],.nil,_,#[],0,Heap.get?_push_size _ rfl,⟨rfl,rfl,rfl⟩,rfl,rfl,List.nodup_nil⟩,rfl,?_⟩
 exact k (μ++[s.heap.objs.size]) _ _ (Stp.allocO R0 hf) (R0.allocO hf ⟨[],zaj,.nil⟩) ⟨_,by rw [<-R0.len];simp,rfl⟩
end
end IT
namespace IT
open PySem PySem.Spec L2
section
variable {prog:Program} {w:World} {A:Around} {E:Value->Shared->Prop} {R:Result->Shared->Prop}
theorem zgM {h h':Heap} (m:h.DictOfH (dKind prog w) d xs) (k:∀ o,h.get? d=some o->h'.get? d=some o) (kt:∀ a its,h.IsTuple a its->h'.IsTuple a its):h'.DictOfH (dKind prog w) d xs:=by
 obtain ⟨o,es,ep,g1,g2,g3,g4,g5,g6⟩:=m
 exact ⟨o,es,ep,k o g1,g2,g3,g4,λx hx=>⟨(g5 x hx).1,KAt.keep kt _ _ (g5 x hx).2⟩,g6⟩
theorem zfD {h h':Heap} {I:Addr} (k:∀ b o,b≠I->h.get? b=some o->h'.get? b=some o) (n:∀ its,¬ h.IsTuple I its) (a:Addr) (its:Array Value) (t:h.IsTuple a its):h'.IsTuple a its:=by
 have ne:a≠I:=λe=>n its (e▸t)
 obtain ⟨o,e,r⟩:=t
 exact ⟨o,k a o ne e,r⟩
theorem zir {h:Heap} {I t:Addr} (q:h.IsTupleIter I t i) (its:Array Value):¬ h.IsTuple I its:=by
 rintro ⟨o,e,c,_⟩
 obtain ⟨o',e',c',_⟩:=q
 rw [e] at e'
 cases e'
 rw [c] at c'
 injection c' with z
 exact absurd z (by decide)
theorem zqv {h:Heap} (m:h.DictOfH (dKind prog w) d xs) (its:Array Value):¬ h.IsTuple d its:=by
 rintro ⟨o,e,c,n,z⟩
 obtain ⟨o',es,ep,e',_,z',_⟩:=m
 rw [e] at e'
 cases e'
 rw [z] at z'
 cases z'
noncomputable def zkJ (xs:List (D×Addr×Value)):List (Addr×D×Addr×Value)->List (D×Addr×Value)
 | []=>xs
 | r::rest=>zkJ (storedH xs r.2.1 r.2.2.1 r.2.2.2) rest
theorem zhQ (xs:List (D×Addr×Value)) (k:D) (b:Addr) (v:Value):(storedH xs k b v).length<=xs.length+1:=by
 unfold storedH
 split
 ·simp
 ·simp
theorem zni {d I t:Addr} {items:Array Value} (hA:A.handled=none) (hu:A.units+9<cLine) (hdI:d≠I) (htI:t≠I) (htd:t≠d) :
  ∀ (rest:List (Addr×D×Addr×Value)) (i:Nat) (s:Shared) (xs:List (D×Addr×Value)),s.heap.IsTupleIter I t i->s.heap.IsTuple t items->s.heap.DictOfH (dKind prog w) d xs->xs.length+rest.length<=sizeLine →
  items.toList.drop i=rest.map (λr=>.ref r.1) →
  (∀ r∈rest,s.heap.IsTuple r.1 #[.ref r.2.2.1,r.2.2.2]/\(dKind prog w).is s.heap r.2.1 r.2.2.1) →
  (∀ h' tk,h'.DictOfH (dKind prog w) d (zkJ xs rest)->(∀ b o,b≠d->b≠I->s.heap.get? b=some o->h'.get? b=some o)->R (.ok (.ret .none)) { s with heap:=h',toks:=tk }) →
  codeAny (model prog w) A (.builtin "dict.update.loop" ⟨[.ref d,.ref I,rawInt i,.none],[]⟩) R s:=by
 intro rest
 induction rest with
 | nil=>
  intro i s xs hit ht hm hsz hdr hr hR
  have hx:items[i]?=none:=by
   have:=congrArg List.length hdr
   simp at this
   simp
   omega
  refine codeAny_builtin zdg ?_
  rw [Around.under_plainId za9 _]
  show wpAny _ A.in1 (pyNext (.ref I) >>= _) _ _ s
  refine wpAny_bind (wpAny_pyNext_tuple_end hA hit ht hx λh' he=>?_)
  show wpAny _ _ (Builtin.Dict.addKeywords d [] >>= _) _ _ _
  exact wpAny_bind (wpAny_pure (wpAny_pure (hR h' s.toks (zgM hm (λo e=>he d o hdI e) (zfD (λb o hb e=>he b o hb e) (zir hit))) λb o _ hb e=>he b o hb e)))
 | cons r rest ih=>
  intro i s xs hit ht hm hsz hdr hr hR
  have hx:items[i]?=some (.ref r.1):=by
   have:=congrArg (λz=>z[0]?) hdr
   simpa using this
  have hdr':items.toList.drop (i+1)=rest.map (λr=>.ref r.1):=by
   have:=congrArg List.tail hdr
   simpa using this
  obtain ⟨r3,r4⟩:=hr r (by simp)
  refine codeAny_builtin zdg ?_
  rw [Around.under_plainId za9 _]
  show wpAny _ A.in1 (pyNext (.ref I) >>= _) _ _ s
  refine wpAny_bind (wpAny_pyNext_tuple_item hit ht hx λh1 hit1 hs1=>?_)
  have kt1:=zfD (λb o hb e=>hs1.extBut b o hb e) (zir hit)
  have r3':h1.IsTuple r.1 #[.ref r.2.2.1,r.2.2.2]:=kt1 _ _ r3
  show wpAny _ _ (holding [.ref r.1] _ >>= _) _ _ _
  refine wpAny_bind (wpAny_holding (wpAny_bind (wpAny_tryCatch (zgT (s:={ s with heap:=h1 }) r3' ?_))))
  show wpAny _ _ (holding [.ref r.2.2.1,r.2.2.2] (dictSet d (.ref r.2.2.1) r.2.2.2)) _ _ _
  have hm1:h1.DictOfH (dKind prog w) d xs:=zgM hm (λo e=>hs1.extBut d o hdI e) kt1
  refine wpAny_holding (wpAny_dictSet_heap (s:={ s with heap:=h1 }) (knd:=dKind prog w) (show A.units+1+8<cLine by omega) ⟨r4.1,KAt.keep kt1 _ _ r4.2⟩ hm1 (λh2 hd2 hs2=>?_) (by simp at hsz;omega))
  refine wpAny_pure ⟨plainId_quiet za9 _,?_⟩
  have kt2:=zfD (λb o hb e=>hs2.extBut b o hb e) (zqv hm1)
  refine ih (i+1) _ (storedH xs r.2.1 r.2.2.1 r.2.2.2) (hit1.extBut hs2.extBut (Ne.symm hdI)) (kt2 _ _ (kt1 _ _ ht)) hd2 ?_ hdr' (λq hq=>?_) λh' tk hd' hk=>?_
  ·have:=zhQ xs r.2.1 r.2.2.1 r.2.2.2
   simp at hsz
   omega
  ·obtain ⟨q3,q4⟩:=hr q (by simp [hq])
   exact ⟨kt2 _ _ (kt1 _ _ q3),q4.1,KAt.keep kt2 _ _ (KAt.keep kt1 _ _ q4.2)⟩
  ·exact hR h' tk hd' λb o hb1 hb2 e=>hk b o hb1 hb2 (hs2.extBut b o hb1 (hs1.extBut b o hb2 e))
theorem zm6 {s:Shared} {t:Addr} {items:Array Value} {rest:List (Addr×D×Addr×Value)} {Q:Value->Shared->Prop} (hA:A.handled=none) (hu:A.units+11<cLine)
  (ht:s.heap.get? t=some { cls:=.type "tuple",dict:=none,data:=.seq items n,slots:=sl }) (hsz:rest.length<=sizeLine) (hit:items.toList=rest.map (λr=>.ref r.1))
  (hr:∀ r∈rest,s.heap.IsTuple r.1 #[.ref r.2.2.1,r.2.2.2]/\(dKind prog w).is s.heap r.2.1 r.2.2.1)
  (h:∀ h' tk,h'.DictOfH (dKind prog w) s.heap.objs.size (zkJ [] rest)->(∀ b o,s.heap.get? b=some o->h'.get? b=some o)->Q (.ref s.heap.objs.size) { s with heap:=h',toks:=tk }) :
  wpAny (model prog w) A (call (.type "dict") [.ref t]) Q E s:=by
 refine callType_codes (Q₁:=λobj s₁=>obj=.ref s.heap.objs.size/\s₁={ s with heap:=s.heap.push { cls:=.type "dict",data:=.dict #[] } }) F.kt_called_dict (F.kt_typeCall_dict_1 _) F.entry_dict_init (kt_code_dict_new _ ⟨rfl,rfl⟩) ?_
 rintro obj s₁ ⟨rfl,rfl⟩
 have hnew:(s.heap.push { cls:=.type "dict",data:=.dict #[] }).DictOfH (dKind prog w) s.heap.objs.size []:=Heap.DictOfH.new s.heap
 have ht1:=Heap.get?_push_of_some { cls:=.type "dict",data:=.dict #[] } ht
 refine ⟨hnew.typeIs,F.args_dict_init_2 _ _,?_⟩
 unfold Builtin.«dict.__init__»
 refine wpAny_bind ?_
 unfold Builtin.Dict.selfAndRest
 refine wpAny_bind (wpAny_notOrdered_dict hnew.typeIs ?_)
 show wpAny _ _ (pure (s.heap.objs.size,[Value.ref t])) _ _ _
 refine wpAny_pure ?_
 show wpAny _ _ (Builtin.Dict.updateFrom "dict.__init__" s.heap.objs.size (.ref t) [] .none) _ _ _
 unfold Builtin.Dict.updateFrom
 refine wpAny_bind (wpAny_typeOf (T:="tuple") ⟨_,ht1,rfl⟩ ?_)
 rw [if_pos (by decide)]
 refine wpAny_bind (zfB ht1 hA λh1 tk1 hk1=>?_)
 rw [if_pos (by rfl)]
 refine wpAny_bind (wpAny_rule ?_)
 have ht2:h1.IsTuple t items:=⟨_,hk1 _ _ ht1,rfl,n,rfl⟩
 refine wpAny_bind (wpAny_pyIter_tuple (s:={ s with heap:=h1,toks:=tk1 }) ht2 ?_)
 refine wpAny_pure ⟨plainId_quiet za9 _,?_⟩
 obtain ⟨od,ed,epd,hod,hcd⟩:=id hnew
 have hd1:=hk1 _ _ hod
 have lt1:s.heap.objs.size<h1.objs.size:=Heap.lt_size hd1
 have ltt:t<s.heap.objs.size:=Heap.lt_size ht
 have hlt:∀ b o,s.heap.get? b=some o->b<h1.objs.size/\b<s.heap.objs.size:=λb o e=>⟨Heap.lt_size (hk1 _ _ (Heap.get?_push_of_some _ e)),Heap.lt_size e⟩
 have keepT:∀ a its,s.heap.IsTuple a its->(h1.push { cls:=.type "tuple_iterator",data:=.fields #[.ref t,.int 0 0] }).IsTuple a its:=λa its ⟨o,e,r⟩=>⟨o,Heap.get?_push_of_some _ (hk1 _ _ (Heap.get?_push_of_some _ e)),r⟩
 have hd2:(h1.push { cls:=.type "tuple_iterator",data:=.fields #[.ref t,.int 0 0] }).DictOfH (dKind prog w) s.heap.objs.size []:=by
  obtain ⟨g2,g3,g4,_,g6⟩:=hcd
  exact ⟨od,ed,epd,Heap.get?_push_of_some _ hd1,g2,g3,g4,λx hx=>(nomatch hx),g6⟩
 refine zni (A:=A.in1) (d:=s.heap.objs.size) (I:=h1.objs.size) (t:=t) hA (show A.units+1+9<cLine by omega) (Nat.ne_of_lt lt1) (Nat.ne_of_lt (Nat.lt_trans ltt lt1)) (Nat.ne_of_lt ltt) rest 0 { s with heap:=h1.push { cls:=.type "tuple_iterator",data:=.fields #[.ref t,.int 0 0] },toks:=tk1 } [] ⟨_,Heap.get?_push_size _ rfl,rfl,rfl⟩ (ht2.push _) hd2 (by simpa using hsz) (by simpa using hit) (λr hm=>?_) λh' tk hd' hk=>?_
 ·obtain ⟨q1,q2⟩:=hr r hm
  exact ⟨keepT _ _ q1,q2.1,KAt.keep keepT _ _ q2.2⟩
 ·refine ⟨rfl,h h' tk hd' λb o e=>?_⟩
  obtain ⟨l1,l2⟩:=hlt _ _ e
  exact hk b o (Nat.ne_of_lt l2) (Nat.ne_of_lt l1) (Heap.get?_push_of_some _ (hk1 _ _ (Heap.get?_push_of_some _ e)))
end
section
variable {X:Cx}
theorem zoa:∀ {xs:List D} {vs:List V} {l:List (D×D)},RepDs K A H xs vs->zcF xs=some l →
  ∃ rs:List (Addr×D×Addr×D×V),vs=rs.map (λr=>V.ref r.1)/\l=rs.map (λr=>(r.2.1,r.2.2.2.1))/\∀ r∈rs,SqT K H r.1 [.ref r.2.2.1,r.2.2.2.2]/\(zaF r.2.1=true/\RepD K A H r.2.1 (.ref r.2.2.1))/\RepD K A H r.2.2.2.1 r.2.2.2.2
 | [],vs,l,q,e=>by
  simp only [RepDs] at q
  simp only [zcF,Option.some.injEq] at e
  subst q e
  exact ⟨[],rfl,rfl,by simp⟩
 | x :: xs,vs,l,q,e=>by
  simp only [RepDs] at q
  obtain ⟨v,r,rfl,q1,q2⟩:=q
  match x,e,q1 with
  | .tup [k,d],e,q1=>
   simp only [zcF] at e
   split at e
   ·rename_i hk
    cases es:zcF xs with
    | none=>rw [es] at e;cases e
    | some l'=>
     rw [es] at e
     simp only [Option.some.injEq] at e
     subst e
     obtain ⟨rs,e1,e2,e3⟩:=zoa q2 es
     rw [RepD] at q1
     obtain ⟨p,ws,rfl,hp,z⟩:=q1
     simp only [RepDs] at z
     obtain ⟨v1,r1,rfl,z1,v2,r2,rfl,z2,rfl⟩:=z
     have:∃ b,v1=.ref b:=by
      cases k with
      | tup ys=>simp only [RepD] at z1;obtain ⟨b,_,eb,_⟩:=z1;exact ⟨b,eb⟩
      | _=>cases hk
     obtain ⟨b,rfl⟩:=this
     refine ⟨(p,k,b,d,v2)::rs,by rw [e1];rfl,by rw [e2];rfl,λr hr=>?_⟩
     rcases List.mem_cons.mp hr with rfl | hr
     ·exact ⟨hp,⟨hk,z1⟩,z2⟩
     ·exact e3 r hr
   ·cases e
theorem zgE {β:Type} {k:D} {b:Addr} {v:β}:∀ {xs:List (D×Addr×β)},(xs.map (·.1)).Nodup->((putV k b v xs).map (·.1)).Nodup/\∀ c,c∈(putV k b v xs).map (·.1)->c=k\/c∈xs.map (·.1)
 | [],_=>by simp [putV]
 | x :: r,n=>by
  rw [List.map_cons,List.nodup_cons] at n
  rw [putV]
  by_cases e:x.1=k
  ·rw [if_pos e]
   refine ⟨by rw [List.map_cons,List.nodup_cons];exact n,λc hc=>.inr ?_⟩
   simpa using hc
  ·rw [if_neg e]
   obtain ⟨i1,i2⟩:=zgE (k:=k) (b:=b) (v:=v) n.2
   refine ⟨?_,λc hc=>?_⟩
   ·rw [List.map_cons,List.nodup_cons]
    refine ⟨λh=>?_,i1⟩
    rcases i2 _ h with h | h
    ·exact e h
    ·exact n.1 h
   ·rw [List.map_cons,List.mem_cons] at hc ⊢
    rcases hc with hc | hc
    ·exact .inr (.inl hc)
    ·rcases i2 _ hc with h | h
     ·exact .inl h
     ·exact .inr (.inr h)
theorem zg4:∀ (rest:List (Addr×D×Addr×Value)) {xs:List (D×Addr×Value)},(xs.map (·.1)).Nodup->zkJ xs rest=rest.foldl (λys r=>putV r.2.1 r.2.2.1 r.2.2.2 ys) xs
 | [],xs,_=>rfl
 | r::rest,xs,n=>by
  rw [zkJ,zdb _ _ _ n,List.foldl_cons,zg4 rest (zgE n).1]
noncomputable abbrev PR (p:D×Addr×V) (q:D×Addr×Value):Prop:=p.1=q.1/\p.2.1=q.2.1/\RelV p.2.2 q.2.2
noncomputable def dVs (rs:List (Addr×D×Addr×D×V)) (ys:List (D×Addr×V)):List (D×Addr×V):=rs.foldl (λys r=>putV r.2.1 r.2.2.1 r.2.2.2.2 ys) ys
theorem zkv {rs:List (Addr×D×Addr×D×V)} {us:List (Addr×D×Addr×Value)} (h:Paired (λr u=>r.2.1=u.2.1/\r.2.2.1=u.2.2.1/\RelV r.2.2.2.2 u.2.2.2) rs us) {xs:List (D×Addr×V)} {ys:List (D×Addr×Value)} (z:Paired PR xs ys) :
  Paired PR (dVs rs xs) (us.foldl (λys r=>putV r.2.1 r.2.2.1 r.2.2.2 ys) ys):=by
 induction h generalizing xs ys with
 | nil=>exact z
 | cons h t ih=>
  unfold dVs
  rw [List.foldl_cons,List.foldl_cons,<-h.1,<-h.2.1]
  exact ih (zfJ h.2.2 z)
theorem zlv:∀ (rs:List (Addr×D×Addr×D×V)) (ys:List (D×Addr×V)),(dVs rs ys).length<=ys.length+rs.length
 | [],ys=>by simp [dVs]
 | r::rs,ys=>by
  have h1:=zlv rs (putV r.2.1 r.2.2.1 r.2.2.2.2 ys)
  have h2:=zfN r.2.1 r.2.2.1 r.2.2.2.2 ys
  unfold dVs at h1 ⊢
  rw [List.foldl_cons,List.length_cons]
  omega
theorem zij {F:D×D->D×Addr×V->Prop} (hF:∀ p q,F p q->p.1=q.1) (mk:∀ p q (d:D) (v:V) k b,F p q->F (k,d) (k,b,v)->p.1=k->F (p.1,d) (q.1,q.2.1,v)) :
  ∀ (rs:List (Addr×D×Addr×D×V)) {xs:List (D×D)} {ys:List (D×Addr×V)},(∀ r∈rs,F (r.2.1,r.2.2.2.1) (r.2.1,r.2.2.1,r.2.2.2.2))->Paired F xs ys →
  Paired F (dOfP xs (rs.map λr=>(r.2.1,r.2.2.2.1))) (dVs rs ys)
 | [],xs,ys,_,z=>z
 | r::rs,xs,ys,h,z=>by
  unfold dVs
  rw [List.map_cons,dOfP,List.foldl_cons]
  refine zij hF mk rs (λq hq=>h q (List.mem_cons_of_mem _ hq)) ?_
  have h1:=h r List.mem_cons_self
  exact zfa hF h1 (λp q z e=>mk p q _ _ _ _ z h1 e) (dPut r.2.1 r.2.2.2.1) rfl (λp r=>rfl) z
theorem zlt (I:Inv X pins σ H s):∀ rs:List (Addr×D×Addr×D×V),(∀ r∈rs,SqT X.K H r.1 [.ref r.2.2.1,r.2.2.2.2]/\(zaF r.2.1=true/\RepD X.K A0 H r.2.1 (.ref r.2.2.1))/\RepD X.K A0 H r.2.2.2.1 r.2.2.2.2) →
  ∃ us:List (Addr×D×Addr×Value),us.map (·.1)=rs.map (·.1)/\Paired (λr u=>r.2.1=u.2.1/\r.2.2.1=u.2.2.1/\RelV r.2.2.2.2 u.2.2.2) rs us/\∀ u∈us,s.heap.IsTuple u.1 #[.ref u.2.2.1,u.2.2.2]/\(dKind X.prog X.w).is s.heap u.2.1 u.2.2.1
 | [],_=>⟨[],rfl,.nil,by simp⟩
 | r::rs,h=>by
  obtain ⟨us,e1,e2,e3⟩:=zlt I rs λq hq=>h q (List.mem_cons_of_mem _ hq)
  obtain ⟨h1,h2,h3⟩:=h r List.mem_cons_self
  obtain ⟨its,rv,pt,_⟩:=I.tuple h1
  obtain ⟨u,w',rfl,ru,rw'⟩:=ztq rv
  cases ru
  refine ⟨(r.1,r.2.1,r.2.2.1,w')::us,by simp [e1],.cons ⟨rfl,rfl,rw'⟩ e2,λu hu=>?_⟩
  rcases List.mem_cons.mp hu with rfl | hu
  ·exact ⟨pt,zdD (zaG I) h2.1 h2.2⟩
  ·exact e3 u hu
theorem zmT (hc:X.calm=true) (hu:X.A.units+64<cLine):zgw X (.type "dict") (λxs H Q=>∃ (p:Addr) (A0:Addr->Prop) (rs:List (Addr×D×Addr×D×V)),xs=[.ref p]/\SqT X.K H p (rs.map λr=>V.ref r.1) ∧
  (∀ r∈rs,SqT X.K H r.1 [.ref r.2.2.1,r.2.2.2.2]/\(zaF r.2.1=true/\RepD X.K A0 H r.2.1 (.ref r.2.2.1))/\RepD X.K A0 H r.2.2.2.1 r.2.2.2.2)/\∀ l ob,H l=none->Q (.ref l) (upd H l (.frz ob (.dT (dVs rs []))))):=by
 intro pins s σ H xs us Q I r h
 obtain ⟨p,A0,rs,rfl,hq,hp,q⟩:=h
 obtain ⟨u,rfl,rx⟩:=zlN r
 cases rx
 obtain ⟨us,e1,e2,e3⟩:=zlt I rs hp
 obtain ⟨its,rv,pt,hz⟩:=I.tuple hq
 have dd:=I.tupleB hq
 obtain ⟨⟨cls,dct,data,sl⟩,ho,hcl,n,hd⟩:=id pt
 have dd:=dd _ ho
 simp only at hcl hd dd
 subst hcl hd dd
 have eu:its=us.map λq=>Value.ref q.1:=by
  have:rs.map (λr=>V.ref r.1)=(rs.map (·.1)).map V.ref:=by rw [List.map_map];rfl
  rw [this] at rv
  rw [zf2 rv,<-e1,List.map_map]
  rfl
 have hl:us.length=rs.length:=by have:=congrArg List.length e1;simpa using this
 have hz':rs.length<=sizeLine:=by simpa using hz
 refine zm6 (rest:=us) (I.ok.hd hc) (by omega) ho (by rw [hl];exact hz') (by simpa using eu) e3 λh' tk hD hk=>?_
 obtain ⟨ob,es,ep,g1,g2,g3,g4,g5,g6⟩:=hD
 rw [zg4 us (xs:=[]) (show (([]:List (D×Addr×Value)).map (·.1)).Nodup from List.nodup_nil)] at g4 g6
 have hlen:(dVs rs []).length<=sizeLine:=by have:=zlv rs [];simp at this;omega
 refine ⟨.ref s.heap.objs.size,upd H s.heap.objs.size (.frz ob (.dT (dVs rs []))),I.laid (t':=tk) hk (Nat.le_refl _) ?_,rfl,q _ ob (I.hok.fresh (Nat.le_refl _))⟩
 exact ⟨g1,hlen,beq_eq_false_iff_ne.mpr (Ne.symm (Nat.ne_of_lt (zoI I))),_,zkv e2 .nil,ob,es,ep,g1,g2,g3,g4,g6⟩
theorem zs2 {a:Expr} (hc:X.calm=true) (hu:X.A.units+64<cLine) (hg:Gl X "dict") (hm:X.mg "dict"=none) (ha:IE X a f) (hs:starEach [a] X.env=[(false,eval a X.env)]) :
  IE X (.Call (.Name "dict" p) [a] [] pos) (λσ=>bnd (f σ) λr=>bnd (rd r) λd=>bnd (opt (zlk d)) λkvs=>zmR kvs):=by
 refine PE.imp (zgv (zmT hc hu) hg hm PyProof.Rows.boot_dict (zaS ha zb2 hs) (by decide) (by decide) hs rfl) λσ H Q q=>?_
 obtain ⟨μ,h,env,R0,re,r,h',e,k⟩:=q
 simp only [zaa,zaE] at e
 obtain ⟨x,h1,e1,d,h2,e2,kvs,h3,⟨e3,rfl⟩,e4⟩:=e
 simp only [zmR,Option.some.injEq,Prod.mk.injEq] at e4
 obtain ⟨rfl,rfl⟩:=e4
 refine ⟨μ,h,env,R0,re,x,h1,e1,λμ1 H1 v s1 R1 q1=>?_⟩
 obtain ⟨rfl,z⟩:=zbK R1 q1 e2
 cases d with
 | tup xs=>
  simp only [RdD,RepD] at z
  obtain ⟨pa,vs,rfl,hq,zs⟩:=z
  simp only [zlk] at e3
  cases ep:zcF xs with
  | none=>rw [ep] at e3;cases e3
  | some l=>
   rw [ep] at e3
   simp only at e3
   split at e3
   ·cases e3
    obtain ⟨rs,rfl,rfl,hrs⟩:=zoa zs ep
    refine ⟨pa,_,rs,rfl,hq,hrs,λl ob hl=>?_⟩
    have st:Stp μ1 h2 H1 (μ1++[l]) (h2++[.dfr (dOfP [] (rs.map λr=>(r.2.1,r.2.2.2.1)))]) (upd H1 l (.frz ob (.dT (dVs rs [])))):=Stp.allocO R1 hl
    refine k (μ1++[l]) _ (.ref l) (s1.trans st) (R1.allocO hl ⟨ob,dVs rs [],zaj,?_⟩) ⟨l,by rw [<-R1.len];simp,rfl⟩
    exact zij (F:=λ(p:D×D) (q:D×Addr×V)=>p.1=q.1/\(zaF p.1=true/\RepD X.K _ _ p.1 (.ref q.2.1))/\RepD X.K _ _ p.2 q.2.2) (λp q z=>z.1) (λp q d v k b z z1 e=>⟨z.1,z.2.1,z1.2.2⟩) rs (λr hr=>⟨rfl,⟨(hrs r hr).2.1.1,RepD.stp st R1 (hrs r hr).2.1.2⟩,RepD.stp st R1 (hrs r hr).2.2⟩) .nil
   ·cases e3
 | _=>cases e3
end
end IT
namespace IT
open PySem
section
variable {prog:Program} {w:World} {A:Around} {E:Value->Shared->Prop} {s:Shared} {it d:Addr} {od:Obj} {es:Array DictEntry} {ep i:Nat}
theorem zlL {Q:Value->Shared->Prop} (sys:(d==sysModules)=false) (g1:s.heap.get? d=some od) (g2:od.ExactDict) (g3:od.data=.dict es ep)
  (q:Q (.ref s.heap.objs.size) { s with heap:=s.heap.push { cls:=.type "dict_keyiterator",data:=.fields #[.ref d,.int 0 0,.int es.size 0,.int ep 0] } }):wpAny (model prog w) A (pyIter (.ref d)) Q E s:=by
 have T:s.TypeIs (.ref d) "dict":=⟨od,g1,g2.1⟩
 refine wpAny_pyIter_slot T F.slot_dict_iter (wpAny_call_entry F.slot_dict_iter T F.entry_dict_iter ?_ (F.args_dict_iter_1 _));unfold Builtin.«dict.__iter__»
 refine wpAny_bind ?_;unfold Builtin.Dict.dictSlotNone
 refine wpAny_bind (wpAny_notOrdered_dict T ?_)
 show wpAny _ _ (pure (Value.ref d)) _ _ _
 refine wpAny_pure ?_
 show wpAny _ _ (Builtin.Dict.showsAll d >>= _) _ _ _
 unfold Builtin.Dict.showsAll
 rw [if_neg (by rw [sys];exact Bool.false_ne_true)]
 refine wpAny_bind (wpAny_pure (wpAny_bind (wpAny_dictEntries g1 g3 (wpAny_bind (wpAny_dictEpoch g1 g3 ?_)))))
 refine wpAny_bind (wpAny_newObj_type (wpAny_pure ⟨_,rfl,"dict_keyiterator",_,⟨_,Heap.get?_push_size _ rfl,rfl⟩,F.slot_dict_keyiterator_next.lookup,?_⟩))
 simpa [rawInt] using q
theorem zkO {e:DictEntry} {Q:Option Value->Shared->Prop} (hit:s.heap.IsKeyIter it d i es.size ep) (g1:s.heap.get? d=some od) (g3:od.data=.dict es ep) (hx:es[i]?=some e)
  (q:∀ h',h'.IsKeyIter it d (i+1) es.size ep->Heap.SameBut it s.heap h'->Q (some e.key) { s with heap:=h' }):wpAny (model prog w) A (pyNext (.ref it)) Q E s:=by
 obtain ⟨o,ho,hc,hd⟩:=id hit
 unfold pyNext
 refine wpAny_bind (wpAny_attempt (wpAny_callSpecial?_slot (name:=Str.ofString "__next__") hit.typeIs F.slot_dict_keyiterator_next (wpAny_call_entry F.slot_dict_keyiterator_next hit.typeIs F.entry_dict_keyiterator_next ?_ (F.args_dict_keyiterator_next_1 _))))
 refine wpAny_bind (wpAny_pure (wpAny_bind (wpAny_bind ?_)))
 first | refine wpAny_bind (wpAny_typeNameOfWhole_keyiter hit.typeIs (wpAny_pure ?_)) | refine wpAny_bind (wpAny_typeNameOf_keyiter hit.typeIs (wpAny_pure ?_));skip
 refine wpAny_bind (wpAny_fieldsOf ho hd ?_)
 have own:Builtin.Dict_items.ownsTuple "dict_keyiterator"=false:=by decide
 simp only [own,Bool.false_eq_true,if_false]
 show wpAny _ _ (if (Value.ref d==Value.none)=true then _ else _) _ _ _
 rw [if_neg (show ¬ ((Value.ref d==Value.none)=true) from Bool.false_ne_true)];refine wpAny_bind (wpAny_pure (wpAny_bind (wpAny_dictEntries g1 g3 ?_)))
 rw [if_neg (by simp)];refine wpAny_bind (wpAny_pure (wpAny_bind (wpAny_dictEpoch g1 g3 ?_)))
 rw [if_neg (by simp)];refine wpAny_pure ?_
 have lt:i<es.size:=(Array.getElem?_eq_some_iff.mp hx).1
 have ee:es[i]=e:=(Array.getElem?_eq_some_iff.mp hx).2
 simp only [show ¬ ((i:Int)<0) from by omega,if_false,Int.toNat_natCast,hx]
 refine wpAny_bind ?_;first | refine wpAny_bind (wpAny_typeNameOfWhole_keyiter hit.typeIs (wpAny_pure ?_)) | refine wpAny_bind (wpAny_typeNameOf_keyiter hit.typeIs (wpAny_pure ?_))
 refine wpAny_bind (wpAny_isOneOf_keyiter hit.typeIs ?_)
 show wpAny _ _ (setField (.ref it) 1 (rawInt ((i:Int)+1)) >>= _) _ _ _
 refine wpAny_bind (wpAny_setField ho hd (by simp) ?_)
 have hit2:(s.heap.update it (Obj.mapFields (·.setIfInBounds 1 (rawInt ((i:Int)+1))))).IsKeyIter it d (i+1) es.size ep:=
  ⟨_,Heap.get?_update_self _ ho (Obj.isFreed_of_fields (Obj.data_mapFields hd _)),(Obj.cls_mapFields ..).trans hc,by rw [Obj.data_mapFields hd];simp [rawInt]⟩
 refine wpAny_bind (wpAny_holding ?_)
 refine wpAny_bind (wpAny_isOneOf_keyiter (s:={ s with heap:=s.heap.update it (Obj.mapFields (·.setIfInBounds 1 (rawInt ((i:Int)+1)))) }) hit2.typeIs ?_);show wpAny _ _ (pure e.key) _ _ _
 exact wpAny_pure (wpAny_pure ⟨_,rfl,wpAny_pure (q _ hit2 (Heap.SameBut.update ..))⟩)
theorem znF {Q:Option Value->Shared->Prop} (hh:A.handled=none) (hit:s.heap.IsKeyIter it d i es.size ep) (g1:s.heap.get? d=some od) (g3:od.data=.dict es ep) (hx:es.size<=i)
  (q:∀ h',Heap.ExtBut it s.heap h'->Q none { s with heap:=h' }):wpAny (model prog w) A (pyNext (.ref it)) Q E s:=by
 obtain ⟨o,ho,hc,hd⟩:=id hit
 unfold pyNext
 refine wpAny_bind (wpAny_attempt (wpAny_callSpecial?_slot (name:=Str.ofString "__next__") hit.typeIs F.slot_dict_keyiterator_next (wpAny_call_entry F.slot_dict_keyiterator_next hit.typeIs F.entry_dict_keyiterator_next ?_ (F.args_dict_keyiterator_next_1 _))))
 refine wpAny_bind (wpAny_pure (wpAny_bind (wpAny_bind ?_)))
 first | refine wpAny_bind (wpAny_typeNameOfWhole_keyiter hit.typeIs (wpAny_pure ?_)) | refine wpAny_bind (wpAny_typeNameOf_keyiter hit.typeIs (wpAny_pure ?_));skip
 refine wpAny_bind (wpAny_fieldsOf ho hd ?_)
 have own:Builtin.Dict_items.ownsTuple "dict_keyiterator"=false:=by decide
 simp only [own,Bool.false_eq_true,if_false]
 show wpAny _ _ (if (Value.ref d==Value.none)=true then _ else _) _ _ _
 rw [if_neg (show ¬ ((Value.ref d==Value.none)=true) from Bool.false_ne_true)];refine wpAny_bind (wpAny_pure (wpAny_bind (wpAny_dictEntries g1 g3 ?_)))
 rw [if_neg (by simp)];refine wpAny_bind (wpAny_pure (wpAny_bind (wpAny_dictEpoch g1 g3 ?_)))
 rw [if_neg (by simp)];refine wpAny_pure ?_
 simp only [show ¬ ((i:Int)<0) from by omega,if_false,Int.toNat_natCast,Array.getElem?_eq_none hx]
 refine wpAny_bind ?_;first | refine wpAny_bind (wpAny_typeNameOfWhole_keyiter hit.typeIs (wpAny_pure ?_)) | refine wpAny_bind (wpAny_typeNameOf_keyiter hit.typeIs (wpAny_pure ?_))
 show wpAny _ _ (setField (.ref it) 0 .none >>= _) _ _ _
 refine wpAny_bind (wpAny_setField ho hd (by simp) ?_)
 show wpAny _ _ (newExc (.type "StopIteration") [] >>= _) _ _ _
 refine wpAny_bind ?_;simp only [newExc,newTuple]
 refine wpAny_bind (wpAny_newObj_type ?_ (by size_fits))
 refine wpAny_bind (m:=firstArgMember _ _) (wpAny_of_eq (a:=Value.none) (by first | rfl | (simp only [firstArgMember];rfl)) ?_);refine wpAny_newObj_type ?_ (by size_fits)
 simp only [raiseNew];refine wpAny_bind (wpAny_handled ?_)
 rw [show A.in1.handled=none from hh]
 refine wpAny_bind (wpAny_pure (wpAny_throw ?_))
 refine wpAny_bind (wpAny_isInstance (T:="StopIteration") (b:=true) ⟨_,Heap.get?_push_size _ rfl,rfl⟩ isSubtype_stop ?_);exact wpAny_pure (q _ (((Heap.SameBut.update ..).extBut.push _).push _))
end
end IT
namespace IT
open PySem PySem.Spec L2
noncomputable def Itd (a:Addr) (ob:Obj):L2.It:=
 ⟨λi H=>∃ xs q,H a=some (.frz ob (.dT xs))/\xs[i]?=some q,λi H x H'=>H'=H/\∀ xs,H a=some (.frz ob (.dT xs))->∃ q:D×Addr×V,xs[i]?=some q/\x=.ref q.2.1,λi H=>∃ xs,H a=some (.frz ob (.dT xs))/\xs.length<=i⟩
noncomputable def ztC (a it:Addr) (ob:Obj) (i:Nat) (h:Heap):Prop:=∃ es ep,ob.data=.dict es ep/\h.IsKeyIter it a i es.size ep
theorem zlH (I:Inv X pins σ H s) (e:H a=some (.frz ob (.dT xs))) (ed:ob.data=.dict es ep) :
  s.heap.get? a=some ob/\ob.ExactDict/\(a==sysModules)=false/\es.size=xs.length/\∀ (i:Nat) (q:D×Addr×V),xs[i]?=some q->∃ t,es[i]?=some t/\t.key=.ref q.2.1/\RelV q.2.2 t.val:=by
 obtain ⟨g0,hz,hS,xv,r,o,es',ep',g1,g2,g3,g4,g5⟩:=(show zba X.prog X.w H s.heap a (.frz ob (.dT xs)) from I.hok a _ e)
 rw [g0] at g1
 cases g1
 rw [ed] at g3
 cases g3
 have hl:xs.length=xv.length:=Paired.length r
 have hs:es.size=xv.length:=by rw [<-Array.length_toList,g4,List.length_map]
 refine ⟨g0,g2,hS,by omega,λi q hq=>?_⟩
 have at2:∀ {l1:List (D×Addr×V)} {l2:List (D×Addr×Value)},Paired (λ(p:D×Addr×V) (q:D×Addr×Value)=>p.1=q.1/\p.2.1=q.2.1/\RelV p.2.2 q.2.2) l1 l2->∀ (i:Nat) q,l1[i]?=some q->∃ t,l2[i]?=some t/\q.2.1=t.2.1/\RelV q.2.2 t.2.2:=by
  intro l1 l2 z
  induction z with
  | nil=>intro i q e;simp at e
  | @cons p t ps ts h _ ih=>
   intro i q e
   cases i with
   | zero=>simp at e;subst e;exact ⟨t,rfl,h.2⟩
   | succ i=>simp at e;simpa using ih i q e
 obtain ⟨t,e1,e2,e3⟩:=at2 r i q hq
 refine ⟨entryOfKey (dKind X.prog X.w) t,?_,by rw [e2];rfl,e3⟩
 rw [<-Array.getElem?_toList,g4,List.getElem?_map,e1]
 rfl
theorem zno (a it:Addr) (ob:Obj):Turn P w K tg (Itd a ob) [it] it (ztC a it ob) where
 mem:=by simp
 obj:=λi h st b hb=>by
  have e:b=it:=by simpa using hb
  subst e
  obtain ⟨_,_,_,o,e,c,d⟩:=st
  exact ⟨o,e,λv z=>by rw [d] at z;cases z⟩
 keep:=λi h h' st k=>by
  obtain ⟨es,ep,e0,o,e,c⟩:=st
  exact ⟨es,ep,e0,o,k it (by simp) o e,c⟩
 item:=by
  intro X hP hw hK hc i pins s σ H E I hf st hg
  subst hP hw hK
  obtain ⟨xs,q,eH,hq⟩:=hg
  obtain ⟨es,ep,ed,hit⟩:=st
  obtain ⟨g0,g2,hS,hz,hat⟩:=zlH I eH ed
  obtain ⟨t,e1,e2,e3⟩:=hat i q hq
  obtain ⟨f0,f1,f2,f3,f4,f5⟩:=hf it (by simp)
  refine zkO hit g0 ed e1 λh' st' sb=>?_
  have I1:Inv X pins σ H { s with heap:=h' }:=I.turned (t':=s.toks) (λb o hb e=>(sb.2 b hb).trans e) f0 f1 f3 f4 f5
  obtain ⟨o,e,c,d⟩:=id st'
  refine ⟨t.key,rfl,zmQ (s:={ s with heap:=h' }) e c d (by decide) ⟨.ref q.2.1,H,I1,e2,⟨rfl,λys hy=>?_⟩,⟨es,ep,ed,st'⟩,λb hb=>(hf b hb).1⟩⟩
  rw [eH] at hy
  cases hy
  exact ⟨q,hq,rfl⟩
 done:=by
  intro X hP hw hK hc i pins s σ H E I hf st hg
  subst hP hw hK
  obtain ⟨xs,eH,hx⟩:=hg
  obtain ⟨es,ep,ed,hit⟩:=st
  obtain ⟨g0,g2,hS,hz,hat⟩:=zlH I eH ed
  obtain ⟨f0,f1,f2,f3,f4,f5⟩:=hf it (by simp)
  exact znF (I.ok.hd hc) hit g0 ed (by omega) λh' eb=>⟨rfl,I.turned (t':=s.toks) (λb o hb e=>eb b o hb e) f0 f1 f3 f4 f5⟩
 self:=λ_ _ _ _ _ st h=>by
  obtain ⟨_,_,_,hit⟩:=st
  exact wpAny_pyIter_keyiter hit h
section
variable {X:Cx} {tg:Expr}
noncomputable def iDic (tl:TE):TI:=λσ H R=>tl σ H λx H1=>∃ a ob xs,x=.ref a/\H1 a=some (.frz ob (.dT xs))/\(xs.length<=sizeLine->R (Itd a ob) H1)
theorem zri (hl:PE X l tl):PI X tg l (iDic tl):=by
 intro pins s σ H R I h
 refine thn (hl pins s σ H _ I h) λv s1 qW=>?_
 obtain ⟨x,H1,I1,r1,q1⟩:=qW
 obtain ⟨a,ob,xs,e,hq,q⟩:=q1
 subst e
 cases r1
 have:∃ es ep,ob.data=.dict es ep/\xs.length<=sizeLine:=by
  obtain ⟨g0,hz,hS,xv,r,o,es',ep',g1,g2,g3,_⟩:=(show zba X.prog X.w H1 s1.heap a (.frz ob (.dT xs)) from I1.hok a _ hq)
  rw [g0] at g1
  cases g1
  exact ⟨_,_,g3,hz⟩
 obtain ⟨es,ep,ed,hzz⟩:=this
 obtain ⟨g0,g2,hS,hz,hat⟩:=zlH I1 hq ed
 refine zlL hS g0 g2 ed ?_
 refine ⟨s1.heap.objs.size,[s1.heap.objs.size],_,_,H1,rfl,I1.kept (t':=s1.toks) λb o e=>Heap.get?_push_of_some _ e,zno a _ ob,⟨es,ep,ed,_,Heap.get?_push_size _ rfl,rfl,rfl⟩,λb hb=>?_,q hzz⟩
 have e:b=s1.heap.objs.size:=by simpa using hb
 subst e
 exact I1.fpOk (Nat.le_refl _) (I1.hok.fresh (Nat.le_refl _))
theorem zg6 {α β:Type} {F:α->β->Prop} {xs:List α} {ys:List β} (h:Paired F xs ys) (i:Nat) (x:α) (e:xs[i]?=some x):∃ y,ys[i]?=some y/\F x y:=zde h e
theorem zoT {μ:List Addr} {h:Sto} {kvs:List (D×D)} {ob:Obj} {xs:List (D×Addr×V)} (R0:Rep K μ h H) (e:H a=some (.frz ob (.dT xs)))
  (z:Paired (λ(p:D×D) (q:D×Addr×V)=>p.1=q.1/\(zaF p.1=true/\RepD K (Live μ h) H p.1 (.ref q.2.1))/\RepD K (Live μ h) H p.2 q.2.2) kvs xs):Wlk K (Itd a ob) ⟨kvs.map λp=>dI p.1,some l⟩ μ h H:=by
 have keep:∀ μ1 h1 H1,Stp μ h H μ1 h1 H1->H1 a=some (.frz ob (.dT xs)):=λμ1 h1 H1 st=>st.keep a _ (R0.notLive e (by intro vs z;cases z)) e
 refine ⟨λμ1 h1 H1 i x st R1 _ ex=>?_,λμ1 h1 H1 st R1 _=>⟨xs,keep _ _ _ st,by rw [List.length_map,Paired.length z];exact Nat.le_refl _⟩⟩
 rw [List.getElem?_map,Option.map_eq_some_iff] at ex
 obtain ⟨p,ep,rfl⟩:=ex
 obtain ⟨q,eq,h1,h2,h3⟩:=zg6 z i p ep
 refine ⟨⟨xs,q,keep _ _ _ st,eq⟩,λv' H' qW=>?_⟩
 obtain ⟨hH,hv⟩:=qW
 subst hH
 obtain ⟨q',eq',rfl⟩:=hv xs (keep _ _ _ st)
 rw [eq] at eq'
 cases eq'
 exact ⟨Stp.refl,R1,RepD.stp st R0 h2.2⟩
theorem zq6 (hl:IE X l f):PI X tg l (tI X.K λσ=>bnd (f σ) λr=>zhn r):=by
 refine PI.imp (zri hl) λσ H R q0=>?_
 obtain ⟨μ,h,env,R0,re,w,h',e,k⟩:=q0
 simp only [zaa] at e
 obtain ⟨r,h1,e1,e2⟩:=e
 refine ⟨μ,h,env,R0,re,r,h1,e1,λμ1 H1 v s1 R1 q1=>?_⟩
 cases r with
 | d _=>cases e2
 | loc l=>
  simp only [zhn] at e2
  split at e2
  ·rename_i kvs ho
   simp only [Option.some.injEq,Prod.mk.injEq] at e2
   obtain ⟨rfl,rfl⟩:=e2
   obtain ⟨a,ea,rfl⟩:=q1
   obtain ⟨ob,xs,eH,z⟩:=R1.obj l a _ ea ho
   exact ⟨a,ob,xs,rfl,eH,λhz=>k μ1 H1 _ s1 R1 (zoT R1 eH z) (by rw [List.length_map,Paired.length z];exact hz)⟩
  ·cases e2
end
end IT
namespace IT
open PySem
section
variable {prog:Program} {w:World} {A:Around} {E:Value->Shared->Prop} {s:Shared}
end
end IT
namespace IT
open PySem PyProof.Rows
noncomputable abbrev itO (f0 f1:Value) (d:Addr) (i n ep:Nat) (k v:Value):Obj:={ cls:=.type "dict_itemiterator",dict:=none,data:=.fields #[f0,f1,.ref d,.int i 0,.int n 0,.int ep 0,k,v],slots:=#[] }
noncomputable def IsIt (h:Heap) (it d:Addr) (i n ep:Nat):Prop:=∃ f0 f1 k v,(f0=.none\/∃ a:Nat,f0=rawInt a)/\h.get? it=some (itO f0 f1 d i n ep k v)
noncomputable abbrev tupO (k v:Value):Obj:={ cls:=.type "tuple",data:=.seq #[k,v] }
section
variable {prog:Program} {w:World} {A:Around} {E:Value->Shared->Prop} {s:Shared} {it d:Addr} {od:Obj} {es:Array DictEntry} {ep i:Nat}
theorem znc {a:Addr} {Q:Option Obj->Shared->Prop} (q:Q (s.heap.get? a) s):wpAny (model prog w) A (loadIfAlive a) Q E s:=by
 intro p _ p1
 simp only [loadIfAlive,Sem.wp_loadIfAlive,Sem.wp_pure]
 exact q
theorem zjh {v:Addr} {Q:Value->Shared->Prop} (hv:s.heap.IsItemsView v d) (g1:s.heap.get? d=some od) (g3:od.data=.dict es ep)
  (q:Q (.ref s.heap.objs.size) { s with heap:=s.heap.push (itO .none (.bool false) d 0 es.size ep .none .none) }):wpAny (model prog w) A (pyIter (.ref v)) Q E s:=by
 obtain ⟨ov,hov,hcv,hdv⟩:=id hv
 refine wpAny_pyIter_slot hv.typeIs F.slot_dict_items_iter (wpAny_call_entry F.slot_dict_items_iter hv.typeIs F.entry_dict_items_iter ?_ (F.args_dict_items_iter_1 _));unfold Builtin.«dict_items.__iter__»
 refine wpAny_bind (wpAny_pure (wpAny_bind ?_));unfold Builtin.Dict_items.dictOf
 refine wpAny_bind (wpAny_field hov hdv (x:=.ref d) rfl (wpAny_pure (wpAny_bind ?_)));unfold Builtin.Dict_items.newIterator
 refine wpAny_bind (wpAny_dictEntries g1 g3 (wpAny_bind (wpAny_dictEpoch g1 g3 ?_)))
 have own:Builtin.Dict_items.ownsTuple "dict_itemiterator"=true:=by decide
 simp only [own,if_true]
 refine wpAny_newObj_type (wpAny_pure ⟨_,rfl,"dict_itemiterator",_,⟨_,Heap.get?_push_size _ rfl,rfl⟩,F.slot_dict_itemiterator_next.lookup,?_⟩) (by simp only [sizeOk,Builtin.Dict_items.ownedTupleFields,List.size_toArray,List.length_append,List.length_cons,List.length_nil,sizeLine_eq];omega)
 simpa [rawInt,Builtin.Dict_items.ownedTupleFields,itO] using q
theorem zjk {e:DictEntry} {Q:Option Value->Shared->Prop} (hit:IsIt s.heap it d i es.size ep) (g1:s.heap.get? d=some od) (g3:od.data=.dict es ep) (hx:es[i]?=some e)
  (q:∀ h',IsIt h' it d (i+1) es.size ep->h'.get? s.heap.objs.size=some (tupO e.key e.val)->h'.objs.size=s.heap.objs.size+1->(∀ b o,b≠it->s.heap.get? b=some o->h'.get? b=some o)->Q (some (.ref s.heap.objs.size)) { s with heap:=h' }) :
  wpAny (model prog w) A (pyNext (.ref it)) Q E s:=by
 obtain ⟨f0,f1,ok,ov,hf,hit⟩:=hit
 obtain ⟨hp,g,dr,tk,os⟩:=s
 have hT:Shared.TypeIs ⟨hp,g,dr,tk,os⟩ (.ref it) "dict_itemiterator":=⟨_,hit,rfl⟩
 unfold pyNext
 refine wpAny_bind (wpAny_attempt (wpAny_callSpecial?_slot (name:=Str.ofString "__next__") hT F.slot_dict_itemiterator_next (wpAny_call_entry F.slot_dict_itemiterator_next hT F.entry_dict_itemiterator_next ?_ (F.args_dict_itemiterator_next_1 _))))
 refine wpAny_bind (wpAny_pure (wpAny_bind (wpAny_bind ?_)))
 first | refine wpAny_bind (wpAny_typeNameOfWhole_itemiter hT (wpAny_pure ?_)) | refine wpAny_bind (wpAny_typeNameOf_itemiter hT (wpAny_pure ?_));skip
 refine wpAny_bind (wpAny_fieldsOf hit rfl ?_)
 have own:Builtin.Dict_items.ownsTuple "dict_itemiterator"=true:=by decide
 simp only [own,if_true]
 show wpAny _ _ (if (Value.ref d==Value.none)=true then _ else _) _ _ _
 rw [if_neg (show ¬ ((Value.ref d==Value.none)=true) from Bool.false_ne_true)];refine wpAny_bind (wpAny_pure (wpAny_bind (wpAny_dictEntries g1 g3 ?_)))
 rw [if_neg (by simp)];refine wpAny_bind (wpAny_pure (wpAny_bind (wpAny_dictEpoch g1 g3 ?_)))
 rw [if_neg (by simp)];refine wpAny_pure ?_
 simp only [show ¬ ((i:Int)<0) from by omega,if_false,Int.toNat_natCast,hx]
 refine wpAny_bind ?_;first | refine wpAny_bind (wpAny_typeNameOfWhole_itemiter hT (wpAny_pure ?_)) | refine wpAny_bind (wpAny_typeNameOf_itemiter hT (wpAny_pure ?_))
 refine wpAny_bind (wpAny_isOneOf_itemiter hT ?_)
 show wpAny _ _ (setField (.ref it) 3 (rawInt ((i:Int)+1)) >>= _) _ _ _
 refine wpAny_bind (wpAny_setField_rec hit (by simp) λh1 he1 hs1=>?_)
 replace hs1:Heap.SameBut it hp h1:=hs1
 replace he1:h1.get? it=some (itO f0 f1 d (i+1) es.size ep ok ov):=by
  have e:((i+1:Nat):Int)=(i:Int)+1:=by omega
  unfold itO;rw [e];simpa [rawInt] using he1
 have hT1:Shared.TypeIs ⟨h1,g,dr,tk,os⟩ (.ref it) "dict_itemiterator":=⟨_,he1,rfl⟩
 refine wpAny_bind (wpAny_holding (wpAny_bind (wpAny_isOneOf_itemiter hT1 (wpAny_bind (wpAny_isOneOf_itemiter hT1 ?_)))))
 show wpAny _ _ (Builtin.Dict_items.pairFromOwner (.ref it) 6 e.key e.val) _ _ ⟨h1,g,dr,tk,os⟩
 unfold Builtin.Dict_items.pairFromOwner
 refine wpAny_bind (wpAny_newTuple ?_)
 have he2:(h1.push (tupO e.key e.val)).get? it=some (itO f0 f1 d (i+1) es.size ep ok ov):=Heap.get?_push_of_some _ he1
 have hz1:h1.objs.size=hp.objs.size:=hs1.1
 have hil:it<hp.objs.size:=Heap.lt_size hit
 have ht2:(h1.push (tupO e.key e.val)).get? hp.objs.size=some (tupO e.key e.val):=by rw [<-hz1];exact Heap.get?_push_size _ rfl
 have hz2:(h1.push (tupO e.key e.val)).objs.size=hp.objs.size+1:=by rw [Heap.size_push,hz1]
 have hk2:∀ b o,b≠it->hp.get? b=some o->(h1.push (tupO e.key e.val)).get? b=some o:=λb o hb e=>Heap.get?_push_of_some _ (hs1.extBut b o hb e)
 show wpAny _ _ (Builtin.Dict_items.ownedTupleIsFree (.ref it) >>= _) _ _ ⟨h1.push (tupO e.key e.val),g,dr,tk,os⟩
 rw [hz1]
 generalize h1.push (tupO e.key e.val)=h2 at he2 ht2 hz2 hk2 ⊢
 clear he1 hs1 hT1 hz1 h1
 have fin:∀ (h3:Heap) f0 f1 k v,(f0=.none\/∃ a:Nat,f0=rawInt a)->h3.get? it=some (itO f0 f1 d (i+1) es.size ep k v)->Heap.SameBut it h2 h3->Q (some (.ref hp.objs.size)) ⟨h3,g,dr,tk,os⟩:=λh3 f0 f1 k v hf he hs=>
  q h3 ⟨f0,f1,k,v,hf,he⟩ (hs.extBut _ _ (Nat.ne_of_gt hil) ht2) (by show h3.objs.size=hp.objs.size+1;rw [hs.1,hz2]) λb o hb e=>hs.extBut b o hb (hk2 b o hb e)
 have free:wpAny (model prog w) A.in1 (do
   let old:=[<-field (.ref it) 6,<-field (.ref it) 7]
   setField (.ref it) 6 e.key;setField (.ref it) 7 e.val
   setField (.ref it) 0 (rawInt hp.objs.size);setField (.ref it) 1 (.bool false)
   letGo old [.ref hp.objs.size]
   pure (Value.ref hp.objs.size)) (λr t=>r=.ref hp.objs.size/\Q (some r) t) (λ_ _=>False) ⟨h2,g,dr,tk,os⟩:=by
  refine wpAny_bind (wpAny_field he2 rfl (x:=ok) rfl (wpAny_bind (wpAny_field he2 rfl (x:=ov) rfl ?_)))
  refine wpAny_bind (wpAny_setField_rec he2 (by simp) λh3 he3 hs3=>wpAny_bind (wpAny_setField_rec he3 (by simp) λh4 he4 hs4=>wpAny_bind (wpAny_setField_rec he4 (by simp) λh5 he5 hs5=>wpAny_bind (wpAny_setField_rec he5 (by simp) λh6 he6 hs6=>?_))))
  have e6:h6.get? it=some (itO (rawInt hp.objs.size) (.bool false) d (i+1) es.size ep e.key e.val):=by unfold itO;simpa using he6
  exact wpAny_bind (wpAny_letGo (wpAny_pure ⟨rfl,fin h6 _ _ _ _ (.inr ⟨_,rfl⟩) e6 (((hs3.trans hs4).trans hs5).trans hs6)⟩))
 unfold Builtin.Dict_items.ownedTupleIsFree
 rcases hf with rfl | ⟨a,rfl⟩
 ·refine wpAny_bind (wpAny_bind (wpAny_field he2 rfl (x:=.none) rfl (wpAny_pure ?_)))
  simp only [if_true]
  refine wpAny_mono free (λr t qW=>?_) λ_ _ h=>h.elim
  obtain ⟨e1,hq⟩:=qW
  subst e1
  exact wpAny_pure ⟨_,rfl,wpAny_pure hq⟩
 ·refine wpAny_bind (wpAny_bind (wpAny_field he2 rfl (x:=rawInt a) rfl ?_))
  refine wpAny_bind (znc ?_)
  show wpAny _ _ (if (h2.get? _).isNone=true then _ else _) _ _ _
  by_cases hn:(h2.get? (Int.toNat (a:Int))).isNone=true
  ·rw [if_pos hn]
   refine wpAny_pure ?_
   simp only [if_true]
   refine wpAny_mono free (λr t qW=>?_) λ_ _ h=>h.elim
   obtain ⟨e1,hq⟩:=qW
   subst e1
   exact wpAny_pure ⟨_,rfl,wpAny_pure hq⟩
  ·rw [if_neg hn]
   refine wpAny_bind (wpAny_field he2 rfl (x:=f1) rfl ?_)
   refine wpAny_ite_split (λ_=>?_) (λ_=>?_)
   ·refine wpAny_bind (wpAny_setField_rec he2 (by simp) λh3 he3 hs3=>wpAny_pure ?_)
    have e3:h3.get? it=some (itO (rawInt a) (.bool true) d (i+1) es.size ep ok ov):=by unfold itO;simpa using he3
    simp only [Bool.false_eq_true,if_false]
    exact wpAny_pure (wpAny_pure ⟨_,rfl,wpAny_pure (fin h3 _ _ _ _ (.inr ⟨_,rfl⟩) e3 hs3)⟩)
   ·refine wpAny_pure ?_
    simp only [Bool.false_eq_true,if_false]
    exact wpAny_pure (wpAny_pure ⟨_,rfl,wpAny_pure (fin h2 _ _ _ _ (.inr ⟨_,rfl⟩) he2 (Heap.SameBut.refl it h2))⟩)
theorem zl1 {Q:Option Value->Shared->Prop} (hh:A.handled=none) (hit:IsIt s.heap it d i es.size ep) (g1:s.heap.get? d=some od) (g3:od.data=.dict es ep) (hx:es.size<=i)
  (q:∀ h',Heap.ExtBut it s.heap h'->Q none { s with heap:=h' }):wpAny (model prog w) A (pyNext (.ref it)) Q E s:=by
 obtain ⟨f0,f1,ok,ov,hf,hit⟩:=hit
 have hT:s.TypeIs (.ref it) "dict_itemiterator":=⟨_,hit,rfl⟩
 unfold pyNext
 refine wpAny_bind (wpAny_attempt (wpAny_callSpecial?_slot (name:=Str.ofString "__next__") hT F.slot_dict_itemiterator_next (wpAny_call_entry F.slot_dict_itemiterator_next hT F.entry_dict_itemiterator_next ?_ (F.args_dict_itemiterator_next_1 _))))
 refine wpAny_bind (wpAny_pure (wpAny_bind (wpAny_bind ?_)))
 first | refine wpAny_bind (wpAny_typeNameOfWhole_itemiter hT (wpAny_pure ?_)) | refine wpAny_bind (wpAny_typeNameOf_itemiter hT (wpAny_pure ?_));skip
 refine wpAny_bind (wpAny_fieldsOf hit rfl ?_)
 have own:Builtin.Dict_items.ownsTuple "dict_itemiterator"=true:=by decide
 simp only [own,if_true]
 show wpAny _ _ (if (Value.ref d==Value.none)=true then _ else _) _ _ _
 rw [if_neg (show ¬ ((Value.ref d==Value.none)=true) from Bool.false_ne_true)];refine wpAny_bind (wpAny_pure (wpAny_bind (wpAny_dictEntries g1 g3 ?_)))
 rw [if_neg (by simp)];refine wpAny_bind (wpAny_pure (wpAny_bind (wpAny_dictEpoch g1 g3 ?_)))
 rw [if_neg (by simp)];refine wpAny_pure ?_
 simp only [show ¬ ((i:Int)<0) from by omega,if_false,Int.toNat_natCast,Array.getElem?_eq_none hx]
 refine wpAny_bind ?_;first | refine wpAny_bind (wpAny_typeNameOfWhole_itemiter hT (wpAny_pure ?_)) | refine wpAny_bind (wpAny_typeNameOf_itemiter hT (wpAny_pure ?_))
 show wpAny _ _ (setField (.ref it) 2 .none >>= _) _ _ _
 refine wpAny_bind (wpAny_setField hit rfl (by simp) ?_)
 show wpAny _ _ (newExc (.type "StopIteration") [] >>= _) _ _ _
 refine wpAny_bind ?_;simp only [newExc,newTuple]
 refine wpAny_bind (wpAny_newObj_type ?_ (by size_fits))
 refine wpAny_bind (m:=firstArgMember _ _) (wpAny_of_eq (a:=Value.none) (by first | rfl | (simp only [firstArgMember];rfl)) ?_);refine wpAny_newObj_type ?_ (by size_fits)
 simp only [raiseNew];refine wpAny_bind (wpAny_handled ?_)
 rw [show A.in1.handled=none from hh]
 refine wpAny_bind (wpAny_pure (wpAny_throw ?_))
 refine wpAny_bind (wpAny_isInstance (T:="StopIteration") (b:=true) ⟨_,Heap.get?_push_size _ rfl,rfl⟩ isSubtype_stop ?_);exact wpAny_pure (q _ (((Heap.SameBut.update ..).extBut.push _).push _))
structure zeI (es:Array DictEntry) (h:Heap) (S it base:Addr) (acc:Array Value) (i:Nat):Prop where
 size:acc.size=i
 at':∀ j,j<i->∃ (a:Addr) (e:DictEntry),acc[j]?=some (.ref a)/\es[j]?=some e/\h.get? a=some (tupO e.key e.val)/\a≠S/\a≠it/\base<=a
 inc:∀ (j k:Nat) (a b:Addr),j<k->acc[j]?=some (.ref a)->acc[k]?=some (.ref b)->a<b
theorem zka {R:Result->Shared->Prop} {S base:Addr} {res:Value} (hh:A.handled=none) (hn:es.size<=sizeLine) (g3:od.data=.dict es ep) (hSi:S≠it) (hSd:S≠d) (hdi:d≠it) :
  ∀ (k i:Nat) (s:Shared) (acc:Array Value) (c:Nat),es.size-i=k->i<=es.size->base<=s.heap.objs.size->IsIt s.heap it d i es.size ep->s.heap.get? d=some od->s.heap.get? S=some { cls:=.type "list",dict:=none,data:=.seq acc c,slots:=#[] }->zeI es s.heap S it base acc i →
  (∀ h' acc' c',(∀ b o,b≠S->b≠it->s.heap.get? b=some o->h'.get? b=some o)->h'.get? S=some { cls:=.type "list",dict:=none,data:=.seq acc' c',slots:=#[] }->zeI es h' S it base acc' es.size->R (.ok (.ret res)) { s with heap:=h' }) →
  codeAny (model prog w) A (.builtin "list.extend.loop" ⟨[.ref S,.ref it,res],[]⟩) R s:=by
 intro k
 induction k with
 | zero=>
  intro i s acc c hk hi hbs hst hd hS hacc hR
  have hin:i=es.size:=by omega
  subst hin
  refine codeAny_builtin F.entry_extend_loop ?_
  rw [Around.under_plainId F.plain_extend_loop _]
  show wpAny _ A.in1 (pyNext (.ref it) >>= _) _ _ s
  refine wpAny_bind (zl1 (A:=A.in1) hh hst hd g3 (Nat.le_refl _) λh' he=>wpAny_pure (hR h' acc c (λb o _ hb e=>he b o hb e) (he S _ hSi hS) ⟨hacc.size,λj hj=>?_,hacc.inc⟩))
  obtain ⟨a,e,e1,e2,e3,e4,e5,e6⟩:=hacc.at' j hj
  exact ⟨a,e,e1,e2,he a _ e5 e3,e4,e5,e6⟩
 | succ k ih=>
  intro i s acc c hk hi hbs hst hd hS hacc hR
  have hlt:i<es.size:=by omega
  refine codeAny_builtin F.entry_extend_loop ?_
  rw [Around.under_plainId F.plain_extend_loop _]
  show wpAny _ A.in1 (pyNext (.ref it) >>= _) _ _ s
  refine wpAny_bind (zjk (A:=A.in1) hst hd g3 (e:=es[i]) (by simp [hlt]) λh1 hit1 ht1 hz1 hk1=>?_)
  have hS1:=hk1 S _ hSi hS
  have hd1:=hk1 d _ hdi hd
  have nS:S<s.heap.objs.size:=Heap.lt_size hS
  have nI:it<s.heap.objs.size:=by obtain ⟨_,_,_,_,_,e⟩:=hst;exact Heap.lt_size e
  show wpAny _ A.in1 (updateSeq S (·.push (.ref s.heap.objs.size)) >>= _) _ _ _
  refine wpAny_bind (wpAny_updateSeq hS1 rfl (wpAny_pure ⟨plainId_quiet F.plain_extend_loop _,?_⟩) (by rw [hacc.size];omega) (by show (acc.push _).size<=sizeLine+1;rw [Array.size_push,hacc.size];omega))
  have oth:∀ b o,b≠S->h1.get? b=some o->(h1.update S (Obj.mapSeq (·.push (.ref s.heap.objs.size)))).get? b=some o:=λb o hb e=>(Heap.get?_update_other _ _ (Ne.symm hb)).trans e
  have acc0:∀ j,j≠i->(acc.push (.ref s.heap.objs.size))[j]?=acc[j]?:=λj hj=>by rw [Array.getElem?_push,if_neg (by rw [hacc.size];exact hj)]
  have acc1:(acc.push (.ref s.heap.objs.size))[i]?=some (.ref s.heap.objs.size):=by rw [Array.getElem?_push,if_pos hacc.size.symm]
  refine ih (i+1) _ (acc.push (.ref s.heap.objs.size)) _ (by omega) hlt ?_ ?_ (oth d _ (Ne.symm hSd) hd1) (Heap.get?_update_self _ hS1 rfl) ⟨by rw [Array.size_push,hacc.size],λj hj=>?_,λj k a b hjk ea eb=>?_⟩ λh' acc' c' hk' hS' hacc'=>?_
  ·show base<=(h1.update S _).objs.size
   rw [Heap.size_update,hz1];exact Nat.le_succ_of_le hbs
  ·obtain ⟨f0,f1,k',v',hf,e⟩:=hit1
   exact ⟨f0,f1,k',v',hf,oth it _ (Ne.symm hSi) e⟩
  ·by_cases hji:j=i
   ·subst hji
    exact ⟨s.heap.objs.size,es[j],acc1,by simp [hlt],oth _ _ (Nat.ne_of_gt nS) ht1,Nat.ne_of_gt nS,Nat.ne_of_gt nI,hbs⟩
   ·obtain ⟨a,e,e1,e2,e3,e4,e5,e6⟩:=hacc.at' j (by omega)
    exact ⟨a,e,by rw [acc0 j hji];exact e1,e2,oth a _ e4 (hk1 a _ e5 e3),e4,e5,e6⟩
  ·have hki:k<=i:=by
    rcases Nat.lt_or_ge i k with h | h
    ·rw [Array.getElem?_eq_none (by rw [Array.size_push,hacc.size];exact h)] at eb;cases eb
    ·exact h
   rw [acc0 j (by omega)] at ea
   by_cases hk2:k=i
   ·subst hk2
    rw [acc1] at eb
    cases eb
    obtain ⟨a',e,e1,_,e3,_⟩:=hacc.at' j hjk
    rw [e1] at ea;cases ea
    exact Heap.lt_size e3
   ·rw [acc0 k hk2] at eb
    exact hacc.inc j k a b hjk ea eb
  ·exact hR h' acc' c' (λb o h1 h2 e=>hk' b o h1 h2 (oth b o h1 (hk1 b o h2 e))) hS' hacc'
theorem ze3 {v:Addr} {Q:List Value->Shared->Prop} (hh:A.handled=none) (hn:es.size<=sizeLine) (hv:s.heap.IsItemsView v d) (g1:s.heap.get? d=some od) (g3:od.data=.dict es ep)
  (q:∀ h' acc,(∀ b o,s.heap.get? b=some o->h'.get? b=some o)->s.heap.objs.size<=h'.objs.size->zeI es h' s.heap.objs.size (s.heap.objs.size+1) s.heap.objs.size acc es.size->Q acc.toList { s with heap:=h' }):wpAny (model prog w) A (collect (.ref v)) Q E s:=by
 obtain ⟨ov,hov,hcv,hdv⟩:=id hv
 have vlt:v<s.heap.objs.size:=Heap.lt_size hov
 have dlt:d<s.heap.objs.size:=Heap.lt_size g1
 unfold collect
 refine wpAny_bind (wpAny_runValue (codeAny_builtin entry_proto_collect' ?_))
 show wpAny _ _ (do again (.builtin "list.__iadd__" ⟨[<-newList [],.ref v],[]⟩)) _ _ s
 refine wpAny_bind (wpAny_newList (wpAny_pure ⟨Code.quiet_builtin _ (by decide +kernel),codeAny_builtin entry_list_iadd' ?_⟩))
 have hS:(s.heap.push (seqObj "list" #[] 0)).get? s.heap.objs.size=some { cls:=.type "list",data:=.seq #[] }:=Heap.get?_push_size _ rfl
 show wpAny _ _ (Builtin.List.listExtendWith (.ref s.heap.objs.size) (.ref v) (.ref s.heap.objs.size)) _ _ { s with heap:=s.heap.push (seqObj "list" #[] 0) }
 have g1':=Heap.get?_push_of_some (seqObj "list" #[] 0) g1
 have hov':=Heap.get?_push_of_some (seqObj "list" #[] 0) hov
 have sz0:(s.heap.push (seqObj "list" #[] 0)).objs.size=s.heap.objs.size+1:=Heap.size_push ..
 have kp:∀ b o,s.heap.get? b=some o->(s.heap.push (seqObj "list" #[] 0)).get? b=some o:=λb o e=>Heap.get?_push_of_some _ e
 generalize s.heap.push (seqObj "list" #[] 0)=h1 at hS g1' hov' sz0 kp ⊢
 have hT:({ s with heap:=h1 }:Shared).TypeIs (.ref v) "dict_items":=⟨ov,hov',hcv⟩
 unfold Builtin.List.listExtendWith
 refine wpAny_bind (wpAny_typeOf hT ?_)
 have e1:Builtin.List.listSameRef (.ref s.heap.objs.size) (.ref v)=false:=by simp [Builtin.List.listSameRef,Nat.ne_of_gt vlt]
 have n1:(Value.type "dict_items"==Value.type "list")=false:=by decide
 have n2:(Value.type "dict_items"==Value.type "tuple")=false:=by decide
 simp only [e1,n1,n2,Bool.or_false,Bool.false_eq_true,if_false]
 refine wpAny_bind (zjh (s:={ s with heap:=h1 }) ⟨ov,hov',hcv,hdv⟩ g1' g3 ?_)
 have hT1:({ s with heap:=h1.push (itO .none (.bool false) d 0 es.size ep .none .none) }:Shared).TypeIs (.ref v) "dict_items":=⟨ov,Heap.get?_push_of_some _ hov',hcv⟩
 refine wpAny_bind (wpAny_holding (PySem.W.kdx_hint hT1 ?_))
 have hS1:=Heap.get?_push_of_some (itO .none (.bool false) d 0 es.size ep .none .none) hS
 have hI1:(h1.push (itO .none (.bool false) d 0 es.size ep .none .none)).get? (s.heap.objs.size+1)=some (itO .none (.bool false) d 0 es.size ep .none .none):=by rw [<-sz0];exact Heap.get?_push_size _ rfl
 have g2':=Heap.get?_push_of_some (itO .none (.bool false) d 0 es.size ep .none .none) g1'
 have sz1:(h1.push (itO .none (.bool false) d 0 es.size ep .none .none)).objs.size=s.heap.objs.size+2:=by rw [Heap.size_push,sz0]
 have kp1:∀ b o,s.heap.get? b=some o->(h1.push (itO .none (.bool false) d 0 es.size ep .none .none)).get? b=some o:=λb o e=>Heap.get?_push_of_some _ (kp b o e)
 show wpAny _ _ _ _ _ { s with heap:=h1.push (itO .none (.bool false) d 0 es.size ep .none .none) }
 show wpAny _ _ (if (_||_)=true then _ else _) _ _ _
 refine wpAny_ite_split (λ_=>?_) (λhab=>absurd (by decide) hab)
 rw [sz0]
 generalize h1.push (itO .none (.bool false) d 0 es.size ep .none .none)=h2 at hS1 hI1 g2' sz1 kp1 ⊢
 refine wpAny_bind (wpAny_rule (wpAny_bind ?_))
 show wpAny _ _ (updateSeq s.heap.objs.size (·.push .none) >>= λ_=>updateSeq s.heap.objs.size (·.pop)) _ _ _
 refine wpAny_bind (wpAny_updateSeq hS1 rfl ?_)
 have hS2:=Heap.get?_update_self (Obj.mapSeq (·.push Value.none)) hS1 rfl
 refine wpAny_updateSeq (hz:=by seq_fits) hS2 rfl ?_
 have hS3:=Heap.get?_update_self (Obj.mapSeq (·.pop)) hS2 rfl
 have oth:∀ b o,b≠s.heap.objs.size->h2.get? b=some o->((h2.update s.heap.objs.size (Obj.mapSeq (·.push Value.none))).update s.heap.objs.size (Obj.mapSeq (·.pop))).get? b=some o:=λb o hb e=>
  (Heap.get?_update_other _ _ (Ne.symm hb)).trans ((Heap.get?_update_other _ _ (Ne.symm hb)).trans e)
 refine wpAny_pure ⟨plainId_quiet F.plain_extend_loop _,?_⟩
 refine zka (base:=s.heap.objs.size) (od:=od) (es:=es) (ep:=ep) (d:=d) (it:=s.heap.objs.size+1) hh hn g3 (Nat.ne_of_lt (Nat.lt_succ_self _)) (Nat.ne_of_gt dlt) (Nat.ne_of_lt (Nat.lt_succ_of_lt dlt)) es.size 0 _ #[] _ (by omega) (Nat.zero_le _) ?_ ⟨_,_,_,_,.inl rfl,oth _ _ (by omega) hI1⟩ (oth _ _ (Nat.ne_of_lt dlt) g2') hS3 ⟨rfl,λj hj=>absurd hj (Nat.not_lt_zero _),λj k a b _ e=>by simp at e⟩ λh' acc c' hk hS' hacc=>?_
 ·show s.heap.objs.size<=_
  simp only [Heap.size_update]
  omega
 ·show wpAny (model prog w) A (do
   let o<-load s.heap.objs.size
   match o.data with
   | .seq xs _=>pure xs.toList
   | _=>unsupported "internal:collect") _ _ _
  refine wpAny_bind (wpAny_load hS' ?_)
  exact wpAny_pure (q h' acc (λb o e=>hk b o (Nat.ne_of_lt (Heap.lt_size e)) (Nat.ne_of_lt (Nat.lt_succ_of_lt (Heap.lt_size e))) (oth b o (Nat.ne_of_lt (Heap.lt_size e)) (kp1 b o e))) (Nat.le_of_lt (Heap.lt_size hS')) hacc)
end
end IT
namespace IT
open PySem PySem.W PyProof.Rows
theorem zin:∀ x y:List Nat,ltS x y=decide (x<y)
 | [],[]=>by simp [ltS]
 | [],_::_=>by simp [ltS]
 | _::_,[]=>by simp [ltS]
 | a::r,b::t=>by
  have ih:=zin r t
  simp only [ltS,List.cons_lt_cons_iff]
  by_cases h:a=b
  ·subst h;simp [ih]
  ·simp [h]
theorem zqG (h1:ltS x y=false) (h2:ltS y x=false):x=y:=by
 rw [zin,decide_eq_false_iff_not] at h1 h2
 exact List.le_antisymm (List.not_lt.mp h2) (List.not_lt.mp h1)
mutual
theorem zoK:∀ x y:D,D.lt x y=some false->D.lt y x=some false->x=y
 | .int a,y,h1,h2=>by
  cases y<;>simp [D.lt] at h1 h2
  rw [Int.le_antisymm h2 h1]
 | .str a,y,h1,h2=>by
  cases y<;>simp [D.lt] at h1 h2
  rw [zqG h1 h2]
 | .tup a,y,h1,h2=>by
  cases y<;>simp [D.lt] at h1 h2
  rw [lts_tot a _ h1 h2]
 | .non,_,h1,_=>by simp [D.lt] at h1
 | .bl _,_,h1,_=>by simp [D.lt] at h1
 | .lst _,_,h1,_=>by simp [D.lt] at h1
theorem lts_tot:∀ x y:List D,D.lts x y=some false->D.lts y x=some false->x=y
 | [],[],_,_=>rfl
 | [],_::_,h1,_=>by simp [D.lts] at h1
 | _::_,[],_,h2=>by simp [D.lts] at h2
 | a::r,b::t,h1,h2=>by
  simp only [D.lts] at h1 h2
  by_cases h:a=b
  ·subst h
   rw [if_pos (D.same_refl a)] at h1 h2
   rw [lts_tot r t h1 h2]
  ·rw [if_neg (by rw [zfc h];exact Bool.false_ne_true)] at h1
   rw [if_neg (by rw [zfc (Ne.symm h)];exact Bool.false_ne_true)] at h2
   exact absurd (zoK a b h1 h2) h
end
section
variable {prog:Program} {w:World} {E:Value->Shared->Prop}
theorem kLt:∀ (n:Nat) (x y:D) (c:Bool) (A:Around) (s:Shared) (u v:Value) (Q:Value->Shared->Prop),x.dep<=n->KAt s.heap x u->KAt s.heap y v->D.lt x y=some c->A.units+n<cLine->Q (.bool c) s->wpAny (model prog w) A (richCompare .Lt u v) Q E s
 | n,.int a,y,c,A,s,u,v,Q,hn,p,q,e,hu,k=>by
  simp only [KAt] at p
  obtain ⟨t,rfl⟩:=p
  cases y with
  | int b=>
   simp only [KAt] at q
   obtain ⟨t',rfl⟩:=q
   simp only [D.lt,Option.some.injEq] at e
   subst e
   exact P.lt_int k
  | _=>simp [D.lt] at e
 | n,.str a,y,c,A,s,u,v,Q,hn,p,q,e,hu,k=>by
  simp only [KAt] at p
  obtain ⟨t,rfl⟩:=p
  cases y with
  | str b=>
   simp only [KAt] at q
   obtain ⟨t',rfl⟩:=q
   simp only [D.lt,Option.some.injEq,zin] at e
   subst e
   exact P.lt_str k
  | _=>simp [D.lt] at e
 | 0,.tup a,y,c,A,s,u,v,Q,hn,p,q,e,hu,k=>by simp only [D.dep] at hn;omega
 | n + 1,.tup a,y,c,A,s,u,v,Q,hn,p,q,e,hu,k=>by
  simp only [KAt] at p
  obtain ⟨l,its,rfl,t,r⟩:=p
  cases y with
  | tup b=>
   simp only [KAt] at q
   obtain ⟨l',its',rfl,t',r'⟩:=q
   simp only [D.lt] at e
   have T:=zbO t
   have T':=zbO t'
   obtain ⟨o,ho,_,m,hd⟩:=t
   obtain ⟨o',ho',_,m',hd'⟩:=t'
   have hdep:D.deps a<=n:=by simp only [D.dep] at hn;omega
   refine wpAny_richCompare_same_room T T' F.slot_tuple_lt (wpAny_call_entry F.slot_tuple_lt T F.entry_tuple_lt ?_ (F.args_tuple_lt_2 _ _)) (by omega)
   show wpAny _ A.in1 (isInstance (.ref l') (.type "tuple") >>= _) _ _ _
   refine wpAny_bind (wpAny_isInstance T' isSubtype_tuple_tuple ?_)
   simp only [Bool.not_true,Bool.false_eq_true,if_false]
   refine wpAny_bind (wpAny_tupleItemsOf ho hd (wpAny_bind (wpAny_tupleItemsOf ho' hd' (wpAny_bind ?_))))
   refine wpAny_forIn_list _ (λrest r s1=>r.1=none/\s1=s/\∃ xs ys us vs,rest=List.zip us vs/\KAts s.heap xs us/\KAts s.heap ys vs/\D.deps xs<=n/\D.lts xs ys=some c/\decide (us.length<vs.length)=decide (its.size<its'.size)) _ ?_ ?_ _ _ ⟨rfl,rfl,a,b,_,_,rfl,r,r',hdep,e,by simp⟩
   ·rintro ⟨p,q⟩ rest r s1 ⟨hr,rfl,xs,ys,us,vs,hz,r1,r2,hd1,e1,hl⟩
    cases xs with
    | nil=>simp only [KAts] at r1;subst r1;cases hz
    | cons x xs=>
     cases ys with
     | nil=>simp only [KAts] at r2;subst r2;rw [List.zip_nil_right] at hz;cases hz
     | cons y ys=>
      simp only [KAts] at r1 r2
      obtain ⟨u1,us1,rfl,k1,k2⟩:=r1
      obtain ⟨v1,vs1,rfl,k3,k4⟩:=r2
      simp only [List.zip_cons_cons,List.cons.injEq,Prod.mk.injEq] at hz
      obtain ⟨⟨rfl,rfl⟩,rfl⟩:=hz
      simp only [D.deps] at hd1
      simp only [D.lts] at e1
      refine wpAny_bind (kEq n x y A.in1 _ _ (by omega) k1 k3 (by show A.units+1+n<cLine;omega) prog w _ _ ?_)
      cases hs:x.same y with
      | true=>
       rw [hs] at e1
       simp only [Bool.not_true,Bool.false_eq_true,if_false]
       exact wpAny_pure ⟨rfl,rfl,xs,ys,us1,vs1,rfl,k2,k4,by omega,by simpa using e1,by simpa using hl⟩
      | false=>
       rw [hs] at e1
       simp only [Bool.not_false,if_true]
       refine wpAny_bind (wpAny_rule (wpAny_bind (kLt n x y c A.in1 _ _ _ _ (by omega) k1 k3 (by simpa using e1) (by show A.units+1+n<cLine;omega) ?_)))
       exact wpAny_bind (wpAny_pure (wpAny_pure (wpAny_pure ⟨_,rfl,(λx=>nomatch x),k⟩)))
   ·rintro ⟨r1,r2⟩ s1 ⟨hr,rfl,xs,ys,us,vs,hz,k1,k2,hd1,e1,hl⟩
    simp only at hr
    subst hr
    have ec:decide (its.size<its'.size)=c:=by
     rw [<-hl]
     have l1:=k1.length
     have l2:=k2.length
     have l3:=congrArg List.length hz
     simp only [List.length_zip,List.length_nil] at l3
     cases xs with
     | nil=>
      cases ys with
      | nil=>
       simp only [D.lts,Option.some.injEq] at e1
       simp only [List.length_nil] at l1 l2
       subst e1;exact decide_eq_false (by omega)
      | cons y ys=>
       simp only [D.lts,Option.some.injEq] at e1
       simp only [List.length_nil,List.length_cons] at l1 l2
       subst e1;exact decide_eq_true (by omega)
     | cons x xs=>
      cases ys with
      | nil=>
       simp only [D.lts,Option.some.injEq] at e1
       simp only [List.length_nil,List.length_cons] at l1 l2
       subst e1;exact decide_eq_false (by omega)
      | cons y ys=>simp only [List.length_cons] at l1 l2;omega
    refine wpAny_pure ⟨_,rfl,(λx=>nomatch x),?_⟩
    rw [<-ec] at k
    exact k
  | _=>simp [D.lt] at e
 | _,.non,_,_,_,_,_,_,_,_,p,_,_,_,_=>by simp only [KAt] at p
 | _,.bl _,_,_,_,_,_,_,_,_,p,_,_,_,_=>by simp only [KAt] at p
 | _,.lst _,_,_,_,_,_,_,_,_,p,_,_,_,_=>by simp only [KAt] at p
theorem zrb {b fin c:Bool} (hu:A.units+n<cLine):∀ (xs ys:List D) (us vs:List Value) (i:Nat),KAts s.heap xs us->KAts s.heap ys vs->D.deps xs<=n->D.lts xs ys=some c->fin=decide (us.length<vs.length) →
  (b=true->i=0->∀ x r,xs=x::r->∃ z,x=.str z)->Q c s->KatLex prog w A b fin Q (us.zip vs) i s
 | [],[],us,vs,i,r1,r2,hd,e,hf,hb,k=>by
  simp only [KAts] at r1 r2
  subst r1 r2
  simp only [D.lts,Option.some.injEq] at e
  subst e
  subst hf
  exact kat_nil (by simpa using k)
 | [],y::ys,us,vs,i,r1,r2,hd,e,hf,hb,k=>by
  simp only [KAts] at r1 r2
  obtain ⟨_,_,rfl,_,_⟩:=r2
  subst r1
  simp only [D.lts,Option.some.injEq] at e
  subst e
  subst hf
  exact kat_nil (by simpa using k)
 | x::xs,[],us,vs,i,r1,r2,hd,e,hf,hb,k=>by
  simp only [KAts] at r1 r2
  obtain ⟨_,_,rfl,_,_⟩:=r1
  subst r2
  simp only [D.lts,Option.some.injEq] at e
  subst e
  subst hf
  rw [List.zip_nil_right]
  exact kat_nil (by simpa using k)
 | x :: xs,y::ys,us,vs,i,r1,r2,hd,e,hf,hb,k=>by
  simp only [KAts] at r1 r2
  obtain ⟨u,us,rfl,k1,k2⟩:=r1
  obtain ⟨v,vs,rfl,k3,k4⟩:=r2
  simp only [D.deps] at hd
  simp only [D.lts] at e
  rw [List.zip_cons_cons]
  refine kat_cons (kEq n x y A _ _ (by omega) k1 k3 hu prog w _ _ ?_)
  cases hs:x.same y with
  | true=>
   rw [hs] at e
   exact kat_yes (zrb hu xs ys us vs (i+1) k2 k4 (by omega) (by simpa using e) (by simpa using hf) (λ_ h=>by omega) k)
  | false=>
   rw [hs] at e
   replace e:D.lt x y=some c:=by simpa using e
   refine kat_no ?_
   by_cases hbi:b=true/\i=0
   ·obtain ⟨rfl,rfl⟩:=hbi
    obtain ⟨z,rfl⟩:=hb rfl rfl x xs rfl
    cases y with
    | str z'=>
     simp only [KAt] at k1 k3
     obtain ⟨t,rfl⟩:=k1
     obtain ⟨t',rfl⟩:=k3
     simp only [D.lt,Option.some.injEq,zin] at e
     subst e
     exact oneLt_str k
    | _=>simp [D.lt] at e
   ·have e0:(b&&i==0)=false:=by
     cases b with
     | false=>rfl
     | true=>simp only [Bool.true_and,beq_eq_false_iff_ne];exact λh=>hbi ⟨rfl,h⟩
    rw [e0]
    exact kat_one _ _ (kLt n x y c A _ _ _ _ (by omega) k1 k3 e hu k)
end
noncomputable def runK {α:Type} (f:Nat->Nat->Bool):KasT α->α
 | .ret a=>a
 | .ask i j k=>runK f (k (f i j))
noncomputable def inK {α:Type} (n:Nat) (f:Nat->Nat->Bool):KasT α->Bool
 | .ret _=>true
 | .ask i j k=>decide (i<n)&&decide (j<n)&&inK n f (k (f i j))
theorem zoH {α:Type} {n:Nat} {cmp:Nat->Nat->(Bool->Shared->Prop)->Shared->Prop} {f:Nat->Nat->Bool} {s:Shared} {Q:α->Shared->Prop} (h:∀ i j,i<n->j<n->∀ C:Bool->Shared->Prop,C (f i j) s->cmp i j C s):∀ t:KasT α,inK n f t=true->Q (runK f t) s->t.kasWp cmp Q s
 | .ret a,_,q=>q
 | .ask i j k,g,q=>by
  simp only [inK,Bool.and_eq_true,decide_eq_true_eq] at g
  exact h i j g.1.1 g.1.2 _ (zoH h (k (f i j)) g.2 q)
noncomputable def insN (f:Nat->Nat->Bool) (x:Nat):List Nat->List Nat
 | []=>[x]
 | y::r=>if f y x then y::insN f x r else x::y::r
noncomputable def zdh (f:Nat->Nat->Bool):List Nat->List Nat
 | []=>[]
 | x::r=>insN f x (zdh f r)
theorem zif (h:∀ i j,f i j=ltT (g i) (g j)) (x:Nat):∀ l,insD (g x) (l.map g)=(insN f x l).map g
 | []=>rfl
 | y::r=>by
  simp only [List.map_cons,insD,insN,h]
  split
  ·rw [List.map_cons,zif h x r]
  ·rfl
theorem zeB (h:∀ i j,f i j=ltT (g i) (g j)):∀ l,zjx (l.map g)=(zdh f l).map g
 | []=>rfl
 | x::r=>by simp only [List.map_cons,zjx,zdh,zeB h r,zif h]
noncomputable def fR (rs:List Nat) (i j:Nat):Bool:=decide (i<rs.length)&&decide (j<rs.length)&&decide (rs.getD i 0<rs.getD j 0)
noncomputable def zjZ (n:Nat) (rs:List Nat):Bool:=inK n (fR rs) (kas_sort n)&&((runK (fR rs) (kas_sort n)).toList==zdh (fR rs) (List.range n))
theorem zti:∀ a b:Fin 5,a≠b->zjZ 2 [a,b]=true:=by decide +kernel
theorem ztK:∀ a b c:Fin 5,a≠b->a≠c->b≠c->zjZ 3 [a,b,c]=true:=by decide +kernel
set_option synthInstance.maxSize 4000 in
theorem ztl:∀ a b c d:Fin 5,a≠b->a≠c->a≠d->b≠c->b≠d->c≠d->zjZ 4 [a,b,c,d]=true:=by decide +kernel
theorem ziU:∀ {l:List Nat},i∈insN f x l->i=x\/i∈l
 | [],h=>by simp only [insN,List.mem_singleton] at h;exact .inl h
 | y::r,h=>by
  simp only [insN] at h
  split at h
  ·rcases List.mem_cons.mp h with e | h
   ·exact .inr (e▸List.mem_cons_self)
   ·exact (ziU h).imp id (List.mem_cons_of_mem _)
  ·exact List.mem_cons.mp h
theorem zeT:∀ {l:List Nat},i∈zdh f l->i∈l
 | [],h=>h
 | x::r,h=>by
  rcases ziU h with e | h
  ·exact e▸List.mem_cons_self
  ·exact List.mem_cons_of_mem _ (zeT h)
theorem ziS:∀ l:List Nat,(insN f x l).length=l.length+1
 | []=>rfl
 | y::r=>by
  simp only [insN]
  split
  ·rw [List.length_cons,ziS r,List.length_cons]
  ·rfl
theorem zeQ:∀ l:List Nat,(zdh f l).length=l.length
 | []=>rfl
 | x::r=>by rw [zdh,ziS,zeQ r,List.length_cons]
theorem zqu (x:D):ltT x .non=false:=by cases x<;>simp [ltT,D.lt]
theorem zia {xs:List D} (h:¬ i<xs.length):xs.getD i .non=.non:=by simp [Nat.le_of_not_lt h]
theorem zbz {xs:List D} (h:i<xs.length):xs.getD i .non=xs[i]:=by simp [h]
structure Srt (xs ys:List D) (p:List Nat):Prop where
 len:xs.length<=4
 key:∀ x∈xs,zaF x=true
 fst:(∀ x∈xs,fstK x=1)\/∀ x∈xs,fstK x=2
 lt:∀ i j,i<xs.length->j<xs.length->D.lt (xs.getD i .non) (xs.getD j .non)=some (fR (xs.map (rnk xs)) i j)
 mem:∀ i∈p,i<xs.length
 plen:p.length=xs.length
 out:ys=p.map λi=>xs.getD i .non
 few:xs.length<2->p=List.range xs.length
 run:2<=xs.length->inK xs.length (fR (xs.map (rnk xs))) (kas_sort xs.length)=true/\(runK (fR (xs.map (rnk xs))) (kas_sort xs.length)).toList=p
theorem zic:∀ {xs:List D},apart xs=true->∀ i j (hi:i<j) (hj:j<xs.length),xs[i]'(by omega)≠xs[j]
 | [],_,i,j,_,hj=>by simp at hj
 | x::r,h,i,j,hi,hj=>by
  simp only [apart,Bool.and_eq_true,List.all_eq_true] at h
  match i,j,hi,hj with
  | 0,j+1,_,hj=>
   simp only [List.length_cons] at hj
   have:=h.1 (r[j]'(by omega)) (List.getElem_mem ..)
   intro e
   simp only [List.getElem_cons_zero,List.getElem_cons_succ] at e
   rw [<-e,D.same_refl] at this
   cases this
  | i+1,j+1,hi,hj=>
   simp only [List.length_cons] at hj
   simpa using zic h.2 i j (by omega) (by omega)
theorem znu {xs ys:List D} (h:zfV xs=some ys):∃ p,Srt xs ys p:=by
 unfold zfV at h
 split at h
 ·rename_i hc
  simp only [Bool.and_eq_true,Bool.or_eq_true,List.all_eq_true,decide_eq_true_eq,beq_iff_eq] at hc
  obtain ⟨⟨⟨⟨h4,hk⟩,ha⟩,hr⟩,hf⟩:=hc
  simp only [Option.some.injEq] at h
  unfold rkOk at hr
  simp only [List.all_eq_true,Bool.and_eq_true,beq_iff_eq] at hr
  have hlt:∀ i j (hi:i<xs.length) (hj:j<xs.length),D.lt xs[i] xs[j]=some (decide (rnk xs xs[i]<rnk xs xs[j])):=by
   intro i j hi hj
   obtain ⟨h1,h2⟩:=hr xs[i] (List.getElem_mem ..) xs[j] (List.getElem_mem ..)
   obtain ⟨t,et⟩:=Option.isSome_iff_exists.mp h1
   rw [et,<-h2]
   simp only [ltT,et]
  have hf2:∀ i j (hi:i<xs.length) (hj:j<xs.length),fR (xs.map (rnk xs)) i j=decide (rnk xs xs[i]<rnk xs xs[j]):=by
   intro i j hi hj
   simp [fR,hi,hj]
  have feq:∀ i j,fR (xs.map (rnk xs)) i j=ltT (xs.getD i .non) (xs.getD j .non):=by
   intro i j
   by_cases hi:i<xs.length
   ·by_cases hj:j<xs.length
    ·rw [hf2 i j hi hj,zbz hi,zbz hj,ltT,hlt i j hi hj]
    ·rw [zia hj,zqu]
     simp [fR,hj]
   ·rw [zia hi]
    simp [fR,hi,ltT,D.lt]
  have ne:∀ i j (hi:i<j) (hj:j<xs.length),rnk xs (xs[i]'(by omega))≠rnk xs xs[j]:=by
   intro i j hi hj e
   have e1:=hlt i j (by omega) hj
   have e2:=hlt j i hj (by omega)
   rw [e,decide_eq_false (Nat.lt_irrefl _)] at e1 e2
   exact zic ha i j hi hj (zoK _ _ e1 e2)
  have le:∀ i (hi:i<xs.length),rnk xs xs[i]<5:=by
   intro i hi
   have:rnk xs xs[i]<=xs.length:=List.countP_le_length
   omega
  have ex:xs=(List.range xs.length).map λi=>xs.getD i .non:=by
   refine List.ext_getElem (by simp) λi h1 h2=>?_
   simp [h1]
  refine ⟨zdh (fR (xs.map (rnk xs))) (List.range xs.length),h4,hk,hf,λi j hi hj=>?_,λi hi=>List.mem_range.mp (zeT hi),by rw [zeQ,List.length_range],?_,λh2=>?_,λh2=>?_⟩
  ·rw [zbz hi,zbz hj,hlt i j hi hj,hf2 i j hi hj]
  ·rw [<-h]
   conv=>lhs;rw [ex]
   exact zeB feq _
  ·match xs,h2 with
   | [],_=>rfl
   | [x],_=>rfl
  ·have g:zjZ xs.length (xs.map (rnk xs))=true:=by
    match xs,h2,h4,ne,le with
    | [x,y],_,_,ne,le=>exact zti ⟨_,le 0 (by simp)⟩ ⟨_,le 1 (by simp)⟩ λe=>ne 0 1 (by omega) (by simp) (congrArg Fin.val e)
    | [x,y,z],_,_,ne,le=>exact ztK ⟨_,le 0 (by simp)⟩ ⟨_,le 1 (by simp)⟩ ⟨_,le 2 (by simp)⟩ (λe=>ne 0 1 (by omega) (by simp) (congrArg Fin.val e)) (λe=>ne 0 2 (by omega) (by simp) (congrArg Fin.val e)) (λe=>ne 1 2 (by omega) (by simp) (congrArg Fin.val e))
    | [x,y,z,t],_,_,ne,le=>exact ztl ⟨_,le 0 (by simp)⟩ ⟨_,le 1 (by simp)⟩ ⟨_,le 2 (by simp)⟩ ⟨_,le 3 (by simp)⟩ (λe=>ne 0 1 (by omega) (by simp) (congrArg Fin.val e)) (λe=>ne 0 2 (by omega) (by simp) (congrArg Fin.val e)) (λe=>ne 0 3 (by omega) (by simp) (congrArg Fin.val e)) (λe=>ne 1 2 (by omega) (by simp) (congrArg Fin.val e)) (λe=>ne 1 3 (by omega) (by simp) (congrArg Fin.val e)) (λe=>ne 2 3 (by omega) (by simp) (congrArg Fin.val e))
    | [_],h2,_,_,_=>simp at h2
    | [],h2,_,_,_=>simp at h2
    | _::_::_::_::_::_,_,h4,_,_=>simp at h4
   simp only [zjZ,Bool.and_eq_true,beq_iff_eq] at g
   exact g
 ·cases h
section
variable {prog:Program} {w:World} {A:Around} {E:Value->Shared->Prop} {s:Shared} {a:Addr} {vs:List Value} {xs ys:List D}
theorem KAts.getD {h:Heap} (k:KAts h xs vs) (hi:i<xs.length):KAt h (xs.getD i .non) (vs.getD i .none):=by
 obtain ⟨v,e,q⟩:=k.at i _ (List.getElem?_eq_getElem hi)
 rw [zbz hi]
 have:vs.getD i .none=v:=by rw [List.getD_eq_getElem?_getD,e];rfl
 rw [this]
 exact q
theorem zfL (hn:n=1\/n=2):∀ (xs:List D) (vs:List Value),KAts h xs vs->(∀ x∈xs,fstK x=n)->∃ fs,KatTups h vs fs/\fs.length=xs.length/\∀ v∈fs,if n=1 then ∃ z t,v=.str z t else ∃ b its,v=.ref b/\h.IsTuple b its
 | [],vs,k,_=>by
  simp only [KAts] at k
  subst k
  exact ⟨[],KatTups.nil,rfl,λv hv=>nomatch hv⟩
 | x :: xs,vs,k,hx=>by
  simp only [KAts] at k
  obtain ⟨v,vs,rfl,k1,k2⟩:=k
  obtain ⟨fs,t,l,hf⟩:=zfL hn xs vs k2 λy hy=>hx y (List.mem_cons_of_mem _ hy)
  have h1:=hx x List.mem_cons_self
  cases x with
  | tup ds=>
   simp only [KAt] at k1
   obtain ⟨b,its,rfl,⟨o,ho,hc,m,hd⟩,r⟩:=k1
   cases ds with
   | nil=>simp [fstK] at h1;omega
   | cons d ds=>
    simp only [KAts] at r
    obtain ⟨u,us,e,r1,r2⟩:=r
    refine ⟨u::fs,KatTups.cons ho hc hd (by rw [<-Array.getElem?_toList,e];rfl) t,by simp [l],λv hv=>?_⟩
    rcases List.mem_cons.mp hv with rfl | hv
    ·cases d with
     | str z=>
      simp [fstK] at h1
      rw [if_pos h1.symm]
      simp only [KAt] at r1
      exact ⟨_,r1⟩
     | tup z=>
      simp [fstK] at h1
      rw [if_neg (by omega)]
      simp only [KAt] at r1
      obtain ⟨b,its,e,t,_⟩:=r1
      exact ⟨b,its,e,t⟩
     | _=>simp [fstK] at h1;omega
    ·exact hf v hv
  | _=>simp [fstK] at h1;omega
theorem zma {Q:SortKind->Shared->Prop} (k:KAts s.heap xs vs) (h2:2<=xs.length) (hf:(∀ x∈xs,fstK x=1)\/∀ x∈xs,fstK x=2) (q1:(∀ x∈xs,fstK x=1)->Q (tuples' true) s) (q2:Q (tuples' false) s):wpAny (model prog w) A (keyKind' vs.toArray) Q E s:=by
 rcases hf with hf | hf
 ·obtain ⟨fs,t,l,hv⟩:=zfL (.inl rfl) xs vs k hf
  exact kat_kind (T:=.type "str") t (by omega) (λv hm=>by obtain ⟨z,t,rfl⟩:=hv v hm;exact .now) (by decide) (q1 hf)
 ·obtain ⟨fs,t,l,hv⟩:=zfL (.inr rfl) xs vs k hf
  exact kat_kind (T:=.type "tuple") t (by omega) (λv hm=>by
   obtain ⟨b,its,rfl,o,ho,hc,_⟩:=hv v hm
   rw [<-hc]
   exact (Looks.ld ho).andThen .now) (by decide) q2
theorem zpS {Q:Bool->Shared->Prop} (hu:A.units+8<cLine) (k1:KAt s.heap x u) (k2:KAt s.heap y v) (hx:zaF x=true) (hy:zaF y=true) (hb:b=true->fstK x=1) (e:D.lt x y=some c) (q:Q c s):wpAny (model prog w) A (keyLt' (tuples' b) u v) Q E s:=by
 cases x with
 | tup xs=>
  cases y with
  | tup ys=>
   simp only [KAt] at k1 k2
   obtain ⟨p,i1,rfl,⟨o1,g1,_,n1,d1⟩,r1⟩:=k1
   obtain ⟨p2,i2,rfl,⟨o2,g2,_,n2,d2⟩,r2⟩:=k2
   simp only [zaF,Bool.and_eq_true,decide_eq_true_eq] at hx
   refine kat_lt g1 d1 g2 d2 (zrb (n:=8) hu xs ys _ _ 0 r1 r2 (by omega) (by simpa [D.lt] using e) (by simp) (λhb' _ z r ez=>?_) q)
   have:=hb hb'
   subst ez
   cases z with
   | str z=>exact ⟨z,rfl⟩
   | _=>simp [fstK] at this
  | _=>cases hy
 | _=>cases hx
theorem zem {n0:Nat} (ho:s.heap.get? a=some (seqObj "list" vs.toArray n0)) (hk:KAts s.heap xs vs) (S:Srt xs ys p) (hu:A.units+8<cLine)
  (q:∀ h' c,(∀ b o,b≠a->s.heap.get? b=some o->h'.get? b=some o)->h'.get? a=some (seqObj "list" (List.toArray (p.map λi=>vs.getD i .none)) c)->P (.done (.ret .none)) { s with heap:=h' }) :
  wpAny (model prog w) A (Builtin.«list.sort» ⟨[.ref a],[]⟩) P E s:=by
 have hl:=hk.length
 have h4:=S.len
 have ha:a<s.heap.objs.size:=Heap.lt_size ho
 obtain ⟨e1,ho1⟩:∃ e1,(s.heap.update a (Obj.mapSeq λ_=>(#[]:Array Value))).get? a=some (seqObj "list" #[] e1):=⟨_,get?_update_seq ho λ_=>#[]⟩
 have kp:∀ b o,b≠a->s.heap.get? b=some o->(((s.heap.update a (Obj.mapSeq λ_=>(#[]:Array Value))).push (seqObj "tuple" vs.toArray 0)).push (seqObj "list" #[] 0)).get? b=some o:=λb o hb e=>
  Heap.get?_push_of_some _ (Heap.get?_push_of_some _ ((Heap.get?_update_other _ _ (Ne.symm hb)).trans e))
 have ho3:(((s.heap.update a (Obj.mapSeq λ_=>(#[]:Array Value))).push (seqObj "tuple" vs.toArray 0)).push (seqObj "list" #[] 0)).get? a=some (seqObj "list" #[] e1):=Heap.get?_push_of_some _ (Heap.get?_push_of_some _ ho1)
 rw [list_sort_plain]
 refine wpAny_bind (listItems_at ho rfl ?_)
 refine wpAny_bind (listUpdate_at ho rfl ?_ (by rw [List.size_toArray,sizeLine_eq];omega) (Nat.zero_le _))
 refine wpAny_bind (seqEpoch_at ho1 rfl ?_)
 refine wpAny_bind (wpAny_newTuple ?_ (by show vs.length<=_;rw [sizeLine_eq];omega))
 refine wpAny_bind (wpAny_newList ?_ (Nat.zero_le _))
 refine wpAny_holding ?_
 show wpAny (model prog w) A _ P E { s with heap:=((s.heap.update a (Obj.mapSeq λ_=>(#[]:Array Value))).push (seqObj "tuple" vs.toArray 0)).push (seqObj "list" #[] 0) }
 generalize ((s.heap.update a (Obj.mapSeq λ_=>(#[]:Array Value))).push (seqObj "tuple" vs.toArray 0)).push (seqObj "list" #[] 0)=h3 at kp ho3 ⊢
 have hk3:KAts h3 xs vs:=KAts.keep (λb its t=>by
  obtain ⟨o,e,c,n,d⟩:=t
  refine ⟨o,kp b o (λz=>?_) e,c,n,d⟩
  subst z
  rw [ho] at e;cases e
  injection c with c'
  exact absurd c' (by decide)) xs vs hk
 have fin:∀ st':SortSt,(arrOf st').map (·.2)=List.toArray (p.map λi=>vs.getD i .none)->failedOf st'=none->wpAny (model prog w) A (do
   let touched:=(<-seqEpoch a) != e1
   Builtin.List.listUpdate (.ref a) λ_=>(arrOf st').map (·.2)
   if let some e:=failedOf st' then rule "list.sort.comparison-raised";throw e
   if touched then rule "list.sort.modified";raiseError "ValueError" "list modified during sort"
   ret .none) P E { s with heap:=h3 }:=by
  intro st' hout hf
  have hz:p.length<=4:=by rw [S.plen];exact h4
  rw [hout]
  refine wpAny_bind (seqEpoch_at ho3 rfl ?_)
  refine wpAny_bind (listUpdate_at ho3 rfl ?_ (Nat.zero_le _) (by show (List.toArray (p.map λi=>vs.getD i Value.none)).size<=sizeLine+1;rw [List.size_toArray,List.length_map,sizeLine_eq];omega))
  rw [hf]
  simp only [bne_self_eq_false,Bool.false_eq_true,if_false]
  refine wpAny_pure (q _ _ (λb o hb e=>(Heap.get?_update_other _ _ (Ne.symm hb)).trans (kp b o hb e)) (get?_update_seq ho3 λ_=>List.toArray (p.map λi=>vs.getD i .none)))
 dsimp only
 by_cases h2:xs.length<2
 ·have hn2:vs.toArray.size<2:=by rw [List.size_toArray];omega
  rw [if_pos hn2,if_pos hn2]
  refine wpAny_bind (wpAny_pure ?_)
  rw [StateT.run_pure]
  refine wpAny_bind (wpAny_pure (fin _ ?_ rfl))
  show (vs.toArray.zip vs.toArray).map (·.2)=_
  rw [S.few h2]
  match xs,vs,hl,h2 with
  | [],[],_,_=>simp
  | [x],[v],_,_=>simp
  | [],_::_,hl,_=>simp at hl
  | [x],[],hl,_=>simp at hl
  | [x],_::_::_,hl,_=>simp at hl
 ·have hn2:¬ vs.toArray.size<2:=by rw [List.size_toArray];omega
  rw [if_neg hn2,if_neg hn2]
  obtain ⟨hin,hrun⟩:=S.run (by omega)
  have go:∀ b,(b=true->∀ x∈xs,fstK x=1)->wpAny (model prog w) A ((sortRuns').run (SortSt.mk' (tuples' b) (vs.toArray.zip vs.toArray) #[] 7 none)) (λr s'=>s'={ s with heap:=h3 }/\(arrOf r.2).map (·.2)=List.toArray (p.map λi=>vs.getD i .none)/\failedOf r.2=none) E { s with heap:=h3 }:=by
   intro b hb
   refine kat_run (Q:=λst' s'=>s'={ s with heap:=h3 }/\(arrOf st').map (·.2)=List.toArray (p.map λi=>vs.getD i .none)/\failedOf st'=none) (G:=λr s'=>s'={ s with heap:=h3 }/\r.toList=p) rfl (by omega) (by omega) (λr st' s' g1 g2 g3 g4=>⟨g4.1,by rw [kat_snds rfl g2,g4.2],g3⟩) ?_
   rw [<-hl]
   refine zoH (n:=xs.length) (f:=fR (xs.map (rnk xs))) (λi j hi hj C hC=>?_) _ hin ⟨rfl,hrun⟩
   refine zpS hu (hk3.getD hi) (hk3.getD hj) (S.key _ ?_) (S.key _ ?_) (λhb'=>hb hb' _ ?_) (S.lt i j hi hj) hC
   all_goals (first | (rw [zbz hi];exact List.getElem_mem ..) | (rw [zbz hj];exact List.getElem_mem ..))
  have rest:∀ b,(b=true->∀ x∈xs,fstK x=1)->wpAny (model prog w) A (do
    let ((),s)<-(sortRuns').run (SortSt.mk' (tuples' b) (vs.toArray.zip vs.toArray) #[] 7 none)
    let sorted:=(arrOf s).map (·.2)
    let touched:=(<-seqEpoch a) != e1
    Builtin.List.listUpdate (.ref a) λ_=>sorted
    if let some e:=failedOf s then rule "list.sort.comparison-raised";throw e
    if touched then rule "list.sort.modified";raiseError "ValueError" "list modified during sort"
    ret .none) P E { s with heap:=h3 }:=by
   intro b hb
   refine wpAny_bind (wpAny_mono (go b hb) ?_ λ_ _ x=>x)
   rintro ⟨⟨⟩,st'⟩ s' ⟨rfl,hout,hf⟩
   exact fin st' hout hf
  refine wpAny_bind (zma (s:={ s with heap:=h3 }) hk3 (by omega) S.fst (λh=>rest true λ_=>h) (rest false (by intro z;cases z)))
end
end IT
namespace IT
open PySem PySem.Spec L2 PyProof.Rows
noncomputable def lays (H:Hp):List (Addr×List V)->Hp
 | []=>H
 | t::r=>upd (lays H r) t.1 (.tup t.2)
theorem zdr:∀ {ts:List (Addr×List V)},a ∉ ts.map (·.1)->lays H ts a=H a
 | [],_=>rfl
 | t::r,h=>by
  rw [List.map_cons,List.mem_cons,not_or] at h
  rw [lays,zak h.1,zdr h.2]
theorem zll:∀ {ts:List (Addr×List V)},(ts.map (·.1)).Nodup->(a,vs)∈ts->lays H ts a=some (.tup vs)
 | [],_,h=>nomatch h
 | t::r,n,h=>by
  rw [List.map_cons,List.nodup_cons] at n
  rcases List.mem_cons.mp h with e | h
  ·subst e;exact zaj
  ·rw [lays,zak (λe=>n.1 (by rw [<-e];exact List.mem_map.mpr ⟨_,h,rfl⟩)),zll n.2 h]
theorem zkL:∀ {ts:List (Addr×List V)},lays H ts a=some o->H a=some o\/∃ vs,(a,vs)∈ts/\o=.tup vs
 | [],h=>.inl h
 | t::r,h=>by
  rw [lays] at h
  by_cases e:a=t.1
  ·subst e
   rw [zaj] at h
   cases h
   exact .inr ⟨t.2,List.mem_cons_self,rfl⟩
  ·rw [zak e] at h
   rcases zkL h with h | ⟨vs,h,z⟩
   ·exact .inl h
   ·exact .inr ⟨vs,List.mem_cons_of_mem _ h,z⟩
section
variable {K:PySem.W.Frag} {μ:List Addr} {h:Sto} {H:Hp}
theorem ziG (R0:Rep K μ h H):∀ {ts:List (Addr×List V)},(ts.map (·.1)).Nodup->(∀ t∈ts,H t.1=none)->Stp μ h H μ h (lays H ts)/\Rep K μ h (lays H ts)
 | [],_,_=>⟨Stp.refl,R0⟩
 | t::r,n,z=>by
  rw [List.map_cons,List.nodup_cons] at n
  obtain ⟨s,R⟩:=ziG R0 n.2 λt ht=>z t (List.mem_cons_of_mem _ ht)
  have e:lays H r t.1=none:=by rw [zdr n.1];exact z t List.mem_cons_self
  exact ⟨s.trans (Stp.fresh e),R.fresh e⟩
end
section
variable {X:Cx} {pins:List (Addr×Obj)} {σ:L2.St} {H H':Hp} {s:Shared} {h':Heap}
theorem znL (I:Inv X pins σ H s) (k:∀ b u,s.heap.get? b=some u->h'.get? b=some u) (ag:∀ b,b<s.heap.objs.size->H' b=H b) (new:∀ a o,s.heap.objs.size<=a->H' a=some o->zba X.prog X.w H' h' a o) :
  Inv X pins σ H' { s with heap:=h',toks:=t' }:=by
 have lt:∀ b u,H b=some u->b<s.heap.objs.size:=λb u e=>(I.hok b u e).lt
 refine I.un ⟨λb o e _ _ _=>k b o e,λb o e _ _ _=>⟨o.slots,k b o e⟩,λb o e n _=>by rw [ag b (Heap.lt_size e)];exact n,λb o e _=>⟨o,k b o e⟩,λb xs e=>by rw [ag b (lt b _ e)];exact e,λb o u e=>by rw [ag b (lt b _ e)];exact e,λb ps e=>⟨#[],by rw [ag b (lt b _ e),e];simp⟩⟩ λa o e=>?_
 by_cases hl:a<s.heap.objs.size
 ·have e0:H a=some o:=by rw [<-ag a hl];exact e
  exact (I.hok a o e0).stay (λb u _ q=>k b u q) (λb q=>by rw [ag b (lt b _ q)];exact q) λb xs q=>by rw [ag b (lt b _ q)];exact q
 ·exact new a o (Nat.le_of_not_lt hl) e
end
theorem zlp:∀ {xs:List D} {vs:List Value},xs.length=vs.length->(∀ (j:Nat) (x:D) (v:Value),xs[j]?=some x->vs[j]?=some v->KAt h x v)->KAts h xs vs
 | [],[],_,_=>by simp only [KAts]
 | [],_::_,l,_=>by simp at l
 | _::_,[],l,_=>by simp at l
 | x::xs,v::vs,l,k=>by
  simp only [KAts]
  exact ⟨v,vs,rfl,k 0 x v rfl rfl,zlp (by simpa using l) λj x v e1 e2=>k (j+1) x v (by simpa using e1) (by simpa using e2)⟩
theorem zfn {K:PySem.W.Frag}:∀ {xs:List D} {vs:List V},xs.length=vs.length->(∀ (j:Nat) (x:D) (v:V),xs[j]?=some x->vs[j]?=some v->RepD K A H x v)->RepDs K A H xs vs
 | [],[],_,_=>RepDs.nil
 | [],_::_,l,_=>by simp at l
 | _::_,[],l,_=>by simp at l
 | x::xs,v::vs,l,k=>.cons (k 0 x v rfl rfl) (zfn (by simpa using l) λj x v e1 e2=>k (j+1) x v (by simpa using e1) (by simpa using e2))
theorem zhu:∀ {xs:List V} {vs:List Value},xs.length=vs.length->(∀ (j:Nat) (x:V) (v:Value),xs[j]?=some x->vs[j]?=some v->RelV x v)->Vals xs vs
 | [],[],_,_=>.nil
 | [],_::_,l,_=>by simp at l
 | _::_,[],l,_=>by simp at l
 | x::xs,v::vs,l,k=>.cons (k 0 x v rfl rfl) (zhu (by simpa using l) λj x v e1 e2=>k (j+1) x v (by simpa using e1) (by simpa using e2))
theorem zli {K:PySem.W.Frag} (q:RepDs K A H xs ws) {p:List Nat} (hp:∀ i∈p,i<xs.length):RepDs K A H (p.map λi=>xs.getD i .non) (p.map λi=>ws.getD i .non):=by
 refine zfn (by simp) λj x v e1 e2=>?_
 rw [List.getElem?_map] at e1 e2
 cases e:p[j]? with
 | none=>rw [e] at e1;cases e1
 | some i=>
  rw [e] at e1 e2
  simp only [Option.map_some,Option.some.injEq] at e1 e2
  have hi:=hp i (List.mem_of_getElem? e)
  obtain ⟨w,ew,qw⟩:=q.get (List.getElem?_eq_getElem hi)
  rw [<-e1,<-e2,zbz hi,List.getD_eq_getElem?_getD,ew]
  exact qw
theorem zn5 {ws:List V} {vs:List Value} (q:Vals ws vs) {p:List Nat} (hp:∀ i∈p,i<ws.length):Vals (p.map λi=>ws.getD i .non) (p.map λi=>vs.getD i .none):=by
 refine zhu (by simp) λj x v e1 e2=>?_
 rw [List.getElem?_map] at e1 e2
 cases e:p[j]? with
 | none=>rw [e] at e1;cases e1
 | some i=>
  rw [e] at e1 e2
  simp only [Option.map_some,Option.some.injEq] at e1 e2
  have hi:=hp i (List.mem_of_getElem? e)
  obtain ⟨w,ew,qw⟩:=zg6 q i _ (List.getElem?_eq_getElem hi)
  rw [<-e1,<-e2,List.getD_eq_getElem?_getD,List.getD_eq_getElem?_getD,ew,List.getElem?_eq_getElem hi]
  exact qw
section
variable {prog:Program} {w:World} {A:Around} {E:Value->Shared->Prop} {s:Shared}
theorem zkb {G:List Value->Shared->Prop} (hu:A.units+16<cLine) (hc:∀ (Q':List Value->Shared->Prop) (E:Value->Shared->Prop),(∀ vs s',G vs s'->Q' vs s')->wpAny (model prog w) A.in1 (collect v) Q' E s)
  (h:∀ vs s',G vs s'->∃ xs ys p,KAts s'.heap xs vs/\Srt xs ys p/\∀ h' c,(∀ b o,s'.heap.get? b=some o->h'.get? b=some o)->h'.get? s'.heap.objs.size=some (seqObj "list" (List.toArray (p.map λi=>vs.getD i .none)) c)->Q (.ref s'.heap.objs.size) { s' with heap:=h' }) :
  wpAny (model prog w) A (call (.builtin "sorted") [v]) Q E s:=by
 refine Calls.call_function_entry kind_sorted plain_sorted entry_sorted (args_sorted1 _) ?_
 unfold Builtin.«sorted»
 refine wpAny_bind (m:=checkCount "sorted" 1 1 _) (wpAny_pure ?_)
 refine wpAny_bind (hc _ _ λvs s' g=>?_)
 obtain ⟨xs,ys,p,hk,S,q⟩:=h vs s' g
 have hl:=hk.length
 have h4:=S.len
 refine wpAny_bind (wpAny_newList ?_ (by rw [sizeLine_eq];omega))
 have hoL:(s'.heap.push (seqObj "list" vs.toArray 0)).get? s'.heap.objs.size=some (seqObj "list" vs.toArray 0):=Heap.get?_push_size _ rfl
 show wpAny _ _ _ _ _ { s' with heap:=s'.heap.push (seqObj "list" vs.toArray 0) }
 refine wpAny_bind (wpAny_holding (wpAny_call_entry slot_list_sort ⟨_,hoL,rfl⟩ entry_list_sort ?_ (args_list_sort _)))
 refine zem (s:={ s' with heap:=s'.heap.push (seqObj "list" vs.toArray 0) }) (a:=s'.heap.objs.size) hoL (KAts.keep (λb its t=>let ⟨o,e,r⟩:=t;⟨o,Heap.get?_push_of_some _ e,r⟩) xs vs hk) S (by show A.units+1+1+8<cLine;omega) λh' c k g'=>?_
 exact ⟨_,rfl,wpAny_pure ⟨_,rfl,q h' c (λb o e=>k b o (Nat.ne_of_lt (Heap.lt_size e)) (Heap.get?_push_of_some _ e)) g'⟩⟩
theorem zeI.as {S it base:Addr} (P:zeI es h S it base acc n):∃ as:List Addr,acc.toList=as.map Value.ref/\as.length=n/\as.Nodup/\∀ (j:Nat) (a:Addr),as[j]?=some a->base<=a/\∃ e,es[j]?=some e/\h.get? a=some (tupO e.key e.val):=by
 have el:∀ j (hj:j<acc.toList.length),∃ a e,acc.toList[j]=Value.ref a/\es[j]?=some e/\h.get? a=some (tupO e.key e.val)/\base<=a:=by
  intro j hj
  obtain ⟨a,e,e1,e2,e3,_,_,e4⟩:=P.at' j (by rw [<-P.size];simpa using hj)
  refine ⟨a,e,?_,e2,e3,e4⟩
  rw [<-Array.getElem?_toList,List.getElem?_eq_getElem hj] at e1
  exact Option.some.inj e1
 let g:Value->Addr:=λv=>match v with
  | .ref a=>a
  | _=>0
 have hg:∀ (j:Nat) (a:Addr),(acc.toList.map g)[j]?=some a->acc.toList[j]?=some (Value.ref a):=by
  intro j a e
  rw [List.getElem?_map] at e
  cases hj:acc.toList[j]? with
  | none=>rw [hj] at e;cases e
  | some v=>
   rw [hj] at e
   obtain ⟨h1,h2⟩:=List.getElem?_eq_some_iff.mp hj
   obtain ⟨a',_,e1,_⟩:=el j h1
   rw [<-h2,e1] at e
   cases e
   rw [<-h2,e1]
 refine ⟨acc.toList.map g,?_,by rw [List.length_map,Array.length_toList,P.size],?_,λj a e=>?_⟩
 ·refine List.ext_getElem (by simp) λj h1 h2=>?_
  obtain ⟨a,_,e1,_⟩:=el j h1
  rw [List.getElem_map,List.getElem_map,e1]
 ·rw [List.nodup_iff_pairwise_ne,List.pairwise_iff_getElem]
  intro i j hi hj hij
  have e1:=hg i _ (List.getElem?_eq_getElem hi)
  have e2:=hg j _ (List.getElem?_eq_getElem hj)
  rw [Array.getElem?_toList] at e1 e2
  exact Nat.ne_of_lt (P.inc i j _ _ hij e1 e2)
 ·have e1:=hg j a e
  obtain ⟨h1,h2⟩:=List.getElem?_eq_some_iff.mp e1
  obtain ⟨a',t,e3,e4,e5,e6⟩:=el j h1
  rw [h2] at e3
  cases e3
  exact ⟨e6,t,e4,e5⟩
end
noncomputable def zgB (v a:Addr):HO:=.ext λh=>h.IsItemsView v a
section
variable {X:Cx}
theorem zc9 (hu:X.A.units+64<cLine) (hc:X.calm=true):zgw X (.builtin "sorted") (λvs H Q=>∃ (μ:List Addr) (h:Sto) (l:Nat) (kvs:List (D×D)) (v a:Addr) (zs:List D),vs=[.ref v]/\H v=some (zgB v a)/\Rep X.K μ h H/\μ[l]?=some a/\(h[l]?=some (.dic kvs)\/h[l]?=some (.dfr kvs))/\zfV (kvs.map zcu)=some zs ∧
  ∀ p H' ws,Stp μ h H μ h H'->Rep X.K μ h H'->RepDs X.K (Live μ h) H' zs ws->H' p=none->Q (.ref p) (upd H' p (.lst ws))):=by
 intro pins s σ H vs us Q I rs q
 obtain ⟨μ,h,l,kvs,v,a,zs,rfl,hv,R0,ea,ho,hz,k⟩:=q
 obtain ⟨u,rfl,ru⟩:=rs.one
 cases ru
 obtain ⟨xs,xv,_,_,z,r,DA⟩:=zea I R0 ea ho
 obtain ⟨od,es,ep,g1,g2,g3,g4,g5,g6⟩:=id DA.dic
 have hview:s.heap.IsItemsView v a:=(show zba X.prog X.w H s.heap v (zgB v a) from I.hok v _ hv).1
 have lk:kvs.length=xs.length:=Paired.length z
 have lx:xs.length=xv.length:=Paired.length r
 have le:es.size=xv.length:=by rw [<-Array.length_toList,g4,List.length_map]
 have hsz:es.size<=sizeLine:=by have:=DA.len;omega
 obtain ⟨p,S⟩:=znu hz
 have SA:=zaG I
 have hh:X.A.in1.handled=none:=I.ok.hd hc
 refine zkb (G:=λvs s'=>∃ (h':Heap) (acc:Array Value),s'={ s with heap:=h' }/\vs=acc.toList/\(∀ b o,s.heap.get? b=some o->h'.get? b=some o)/\s.heap.objs.size<=h'.objs.size/\zeI es h' s.heap.objs.size (s.heap.objs.size+1) s.heap.objs.size acc es.size) (by omega) (λQ' E hQ=>ze3 (A:=X.A.in1) hh hsz hview g1 g3 λh' acc hk szL hp=>hQ _ _ ⟨h',acc,rfl,rfl,hk,szL,hp⟩) λvs s' qW=>?_
 obtain ⟨h',acc,es',evs,hk,szL,hp⟩:=qW
 subst es'
 obtain ⟨as,eas,las,nd,hat⟩:=hp.as
 rw [eas] at evs
 have ent:∀ (j:Nat) (kv:D×D) (b:Addr),kvs[j]?=some kv->as[j]?=some b->s.heap.objs.size<=b/\∃ (q:D×Addr×V) (t:D×Addr×Value),xs[j]?=some q/\xv[j]?=some t/\q.2.1=t.2.1/\RelV q.2.2 t.2.2/\h'.get? b=some (tupO (.ref t.2.1) t.2.2)/\zaF kv.1=true/\RepD X.K (Live μ h) H kv.1 (.ref q.2.1)/\RepD X.K (Live μ h) H kv.2 q.2.2:=by
  intro j kv b e1 e2
  obtain ⟨q,e3,c1,c2,c3⟩:=zg6 z j kv e1
  obtain ⟨t,e4,d1,d2,d3⟩:=zg6 r j q e3
  obtain ⟨e5,e,e6,e7⟩:=hat j b e2
  rw [<-Array.getElem?_toList,g4,List.getElem?_map,e4] at e6
  cases e6
  exact ⟨e5,q,t,e3,e4,d2,d3,e7,c2.1,c2.2,c3⟩
 have KA:KAts h' (kvs.map zcu) vs:=by
  rw [evs]
  refine zlp (by rw [List.length_map,List.length_map];omega) λj x u e1 e2=>?_
  rw [List.getElem?_map] at e1 e2
  cases e3:kvs[j]? with
  | none=>rw [e3] at e1;cases e1
  | some kv=>
   cases e4:as[j]? with
   | none=>rw [e4] at e2;cases e2
   | some b=>
    rw [e3] at e1;rw [e4] at e2
    simp only [Option.map_some,Option.some.injEq] at e1 e2
    subst e1 e2
    obtain ⟨_,q,t,_,_,d2,d3,d4,d5,d6,d7⟩:=ent j kv b e3 e4
    have hkey:=S.key (zcu kv) (List.mem_map.mpr ⟨kv,List.mem_of_getElem? e3,rfl⟩)
    have hv2:D.hk kv.2=true:=by
     simp only [zcu,zaF,D.hks,Bool.and_eq_true] at hkey
     exact hkey.1.2.1
    have kt:∀ c its,s.heap.IsTuple c its->h'.IsTuple c its:=λc its ⟨o,e,y⟩=>⟨o,hk c o e,y⟩
    simp only [zcu,KAt]
    refine ⟨b,#[.ref t.2.1,t.2.2],rfl,⟨_,d4,rfl,0,rfl⟩,?_⟩
    simp only [KAts]
    exact ⟨_,_,rfl,KAt.keep kt _ _ (ziF SA kv.1 (.ref q.2.1) (.ref t.2.1) (zfC d5).1 d6 (by rw [d2];rfl)),_,_,rfl,KAt.keep kt _ _ (ziF SA kv.2 q.2.2 t.2.2 hv2 d7 d3),rfl⟩
 refine ⟨kvs.map zcu,zs,p,KA,S,λh2 c hk2 hL=>?_⟩
 let ts:List (Addr×List V):=(as.zip xs).map λt=>(t.1,[.ref t.2.2.1,t.2.2.2])
 have hts:ts.map (·.1)=as:=by
  show ((as.zip xs).map λt=>(t.1,[V.ref t.2.2.1,t.2.2.2])).map (·.1)=as
  rw [List.map_map]
  show (as.zip xs).map Prod.fst=as
  rw [List.map_fst_zip]
  omega
 have hfr:∀ t∈ts,H t.1=none:=λt ht=>by
  have:t.1∈as:=by rw [<-hts];exact List.mem_map.mpr ⟨t,ht,rfl⟩
  obtain ⟨j,hj⟩:=List.getElem?_of_mem this
  exact I.hok.fresh (hat j _ hj).1
 obtain ⟨st,R1⟩:=ziG R0 (ts:=ts) (by rw [hts];exact nd) hfr
 have hn1:lays H ts h'.objs.size=none:=by
  rw [zdr,I.hok.fresh szL]
  rw [hts]
  intro hm
  obtain ⟨j,hj⟩:=List.getElem?_of_mem hm
  obtain ⟨_,e,_,e7⟩:=hat j _ hj
  exact absurd (Heap.lt_size e7) (Nat.lt_irrefl _)
 have tin:∀ (j:Nat) (b:Addr) (q:D×Addr×V),as[j]?=some b->xs[j]?=some q->(b,[V.ref q.2.1,q.2.2])∈ts:=λj b q e1 e2=>
  List.mem_map.mpr ⟨(b,q),List.mem_of_getElem? (i:=j) (by rw [List.getElem?_zip_eq_some];exact ⟨e1,e2⟩),rfl⟩
 have RD:RepDs X.K (Live μ h) (lays H ts) (kvs.map zcu) (as.map V.ref):=by
  refine zfn (by rw [List.length_map,List.length_map];omega) λj x u e1 e2=>?_
  rw [List.getElem?_map] at e1 e2
  cases e3:kvs[j]? with
  | none=>rw [e3] at e1;cases e1
  | some kv=>
   cases e4:as[j]? with
   | none=>rw [e4] at e2;cases e2
   | some b=>
    rw [e3] at e1;rw [e4] at e2
    simp only [Option.map_some,Option.some.injEq] at e1 e2
    subst e1 e2
    obtain ⟨_,q,t,d0,_,d2,d3,d4,d5,d6,d7⟩:=ent j kv b e3 e4
    simp only [zcu,RepD]
    exact ⟨b,_,rfl,.inl (.inl (zll (by rw [hts];exact nd) (tin j b q e4 d0))),.cons (RepD.stp st R0 d6) (.one (RepD.stp st R0 d7))⟩
 have key:=k h'.objs.size (lays H ts) (p.map λi=>(as.map V.ref).getD i .non) st R1 (by rw [S.out];exact zli RD S.mem) hn1
 have hlen:(kvs.map zcu).length=(as.map V.ref).length:=by rw [List.length_map,List.length_map];omega
 have V1:Vals (as.map V.ref) vs:=by
  rw [evs]
  refine zhu (by simp) λj x u e1 e2=>?_
  rw [List.getElem?_map] at e1 e2
  cases e4:as[j]? with
  | none=>rw [e4] at e2;cases e2
  | some b=>
   rw [e4] at e1 e2
   simp only [Option.map_some,Option.some.injEq] at e1 e2
   subst e1 e2
   rfl
 refine ⟨.ref h'.objs.size,upd (lays H ts) h'.objs.size (.lst (p.map λi=>(as.map V.ref).getD i .non)),znL (s:=s) (h':=h2) (t':=s.toks) I (λb o e=>hk2 b o (hk b o e)) (λb hb=>?_) (λb o hb e=>?_),rfl,key⟩
 ·rw [zak (Nat.ne_of_lt (Nat.lt_of_lt_of_le hb szL)),zdr]
  rw [hts]
  intro hm
  obtain ⟨j,hj⟩:=List.getElem?_of_mem hm
  exact absurd (hat j _ hj).1 (Nat.not_le_of_lt hb)
 ·by_cases eb:b=h'.objs.size
  ·subst eb
   rw [zaj] at e
   cases e
   refine ⟨?_,_,c,zn5 V1 (λi hi=>by have:=S.mem i hi;omega),hL⟩
   rw [List.length_map,S.plen,sizeLine_eq]
   have:=S.len
   omega
  ·rw [zak eb] at e
   rcases zkL e with e | ⟨ws,hm,rfl⟩
   ·rw [I.hok.fresh hb] at e;cases e
   ·obtain ⟨⟨b',q⟩,hm2,ez⟩:=List.mem_map.mp hm
    obtain ⟨j,hj⟩:=List.getElem?_of_mem hm2
    rw [List.getElem?_zip_eq_some] at hj
    simp only [Prod.mk.injEq] at ez hj
    obtain ⟨rfl,rfl⟩:=ez
    have hjl:j<kvs.length:=by
     have:=(List.getElem?_eq_some_iff.mp hj.1).1
     omega
    obtain ⟨_,q',t,d0,_,d2,d3,d4,_⟩:=ent j _ b' (List.getElem?_eq_getElem hjl) hj.1
    rw [hj.2] at d0
    cases d0
    have e9:=hk2 b' _ d4
    refine ⟨by show (2:Nat)<=sizeLine;rw [sizeLine_eq];omega,[.ref t.2.1,t.2.2],.cons (by rw [d2];rfl) (.cons d3 .nil),⟨_,e9,rfl,0,rfl⟩,λo e=>by rw [e9] at e;cases e;rfl⟩
end
end IT
namespace IT
open PySem PySem.Spec L2
section
variable {X:Cx}
theorem zj1:MtR X "dict.items" (λx vs H Q=>∃ (μ:List Addr) (h:Sto) (l:Nat) (kvs:List (D×D)) (a:Addr),x=.ref a/\μ[l]?=some a/\Rep X.K μ h H/\(h[l]?=some (.dic kvs)\/h[l]?=some (.dfr kvs))/\vs=[]/\∀ v,H v=none->Q (.ref v) (upd H v (zgB v a))):=by
 intro pins s σ H x vs v us Q I rx rs q
 obtain ⟨μ,h,l,kvs,a,rfl,ea,R0,ho,rfl,k⟩:=q
 cases rx
 cases rs
 obtain ⟨xs,xv,_,_,_,_,DA⟩:=zea I R0 ea ho
 refine wpAny_call_entry F.slot_dict_items DA.dic.typeIs F.entry_dict_items ?_ (F.args_dict_items_1 _)
 unfold Builtin.«dict.items»
 refine wpAny_bind ?_
 unfold Builtin.Dict.noArgs
 refine wpAny_bind (wpAny_notOrdered_dict DA.dic.typeIs ?_)
 show wpAny _ _ (pure a) _ _ s
 refine wpAny_pure ?_
 show wpAny _ _ (Builtin.Dict.showsAll a >>= _) _ _ s
 unfold Builtin.Dict.showsAll
 rw [if_neg (by rw [DA.sys];exact Bool.false_ne_true)]
 refine wpAny_bind (wpAny_pure ?_)
 refine wpAny_bind (wpAny_newObj_type (wpAny_pure ⟨_,rfl,?_⟩))
 refine ⟨.ref s.heap.objs.size,upd H s.heap.objs.size (zgB s.heap.objs.size a),I.laid (t':=s.toks) (λ_ _ q=>Heap.get?_push_of_some _ q) (Nat.le_refl _) ⟨⟨_,Heap.get?_push_size _ rfl,rfl,rfl⟩,⟨_,Heap.get?_push_size _ rfl⟩,λh1 h2 ⟨o,e,c⟩ kp=>⟨o,kp o e,c⟩⟩,rfl,k _ I.fresh⟩
theorem zsR (hu:X.A.units+64<cLine) (hc:X.calm=true) (hg:Gl X "sorted") (hm:X.mg "sorted"=none) (ho:IE X o f) (hname:name=("items":Str))
  (hbase:attributeBase o name X.env (eval o X.env)=eval o X.env) (hline:(apos.endLine==cpos.line)=true) (hs:starEach [.Call (.Attribute o name apos) [] [] cpos] X.env=[(false,eval (.Call (.Attribute o name apos) [] [] cpos) X.env)]) :
  IL X (.Call (.Name "sorted" p) [.Call (.Attribute o name apos) [] [] cpos] [] pos) (λσ=>bnd (f σ) λr=>bnd (dRd r) λkvs=>opt (zfV (kvs.map zcu))):=by
 subst hname
 refine PE.imp (zbR (zc9 hu hc) hg hm PyProof.Rows.boot_sorted (zaS (zoJ PySem.F.plainAttrs_dict PySem.F.slot_dict_items PySem.F.type_dict_items zj1 ho hbase hline) zb2 hs) (by decide) (by decide) hs rfl) λσ H Q q0=>?_
 obtain ⟨μ,h,env,R0,re,zs,h',e,k⟩:=q0
 simp only [zaa,zaE] at e
 obtain ⟨r,h1,e1,kvs,h2,e2,e3,rfl⟩:=e
 obtain ⟨l,rfl,ho1,rfl⟩:=zbP e2
 refine ⟨μ,h,env,R0,re,.loc l,_,e1,λμ1 H1 v s1 R1 q1=>?_⟩
 obtain ⟨a,ea,rfl⟩:=q1
 have ex:∃ xs,Rd H1 a (.dT xs):=by
  rcases ho1 with ho1 | ho1
  ·obtain ⟨xs,ex,_⟩:=R1.obj l a _ ea ho1;exact ⟨xs,.inl ex⟩
  ·obtain ⟨ob,xs,ex,_⟩:=R1.obj l a _ ea ho1;exact ⟨xs,.inr ⟨ob,ex⟩⟩
 refine ⟨.inr (.inr (.inl ⟨rfl,.inr ex⟩)),μ1,_,l,kvs,a,rfl,ea,R1,ho1,rfl,λv hv=>?_⟩
 have sF:=Stp.fresh (μ:=μ1) (h:=h2) (o:=zgB v a) hv
 refine ⟨μ1,h2,l,kvs,v,a,zs,rfl,zaj,R1.fresh hv,ea,ho1,e3,λp H' ws st R2 q2 hp=>?_⟩
 exact k μ1 H' p ws ((s1.trans sF).trans st) R2 q2 hp
end
end IT
namespace IT
open PySem PySem.Spec L2
inductive GEnt (K:PySem.W.Frag) (w:World):List (List Nat×D)->List DictEntry->Prop where
 | nil:GEnt K w [] []
 | cons {k:List Nat} {d:D} {e:DictEntry} {t:Tok} {v:V} {kvs:List (List Nat×D)} {es:List DictEntry} (h1:e.hash=hashStr w (zaH k)) (h2:e.key=.str (zaH k) t) (h3:RelV v e.val) (h4:∀ A H,RepD K A H d v) (r:GEnt K w kvs es):GEnt K w ((k,d)::kvs) (e::es)
inductive GDic (K:PySem.W.Frag) (w:World) (mg:Str->Option Value) (x:Str) (kvs:List (List Nat×D)):Prop where
 | mk (a:Addr) (o:Obj) (es:Array DictEntry) (ep:Nat) (h1:mg x=some (.ref a)) (h2:K.lookup a=some o) (h4:o.ExactDict) (h5:o.data=.dict es ep) (h6:GEnt K w kvs es.toList) (h7:(kvs.map (·.1)).Nodup)
section
variable {K:PySem.W.Frag} {w:World} {prog:Program}
theorem GEnt.keys {kvs:List (List Nat×D)} {es:List DictEntry} (g:GEnt K w kvs es):∀ e∈es,∃ k,(strKind prog w).is k e.key=true/\e.hash=(strKind prog w).hash k:=by
 induction g with
 | nil=>exact λe h=>nomatch h
 | @cons k _ _ _ _ _ _ h1 h2 h3 h4 r ih=>
  intro e h
  rcases List.mem_cons.mp h with rfl | h
  ·exact ⟨zaH k,by rw [h2];exact strKind_is ..,h1⟩
  ·exact ih e h
theorem GEnt.pairs {kvs:List (List Nat×D)} {es:List DictEntry} (g:GEnt K w kvs es):∃ vs:List (Str×Value),Pairs (strKind prog w) es vs/\vs.map (·.1)=kvs.map (λp=>zaH p.1)/\∀ (k:List Nat) (d:D),kvs.lookup k=some d->∃ (i:Nat) (u:Value) (v:V),vs[i]?=some (zaH k,u)/\RelV v u/\∀ A H,RepD K A H d v:=by
 induction g with
 | nil=>exact ⟨[],.nil,rfl,λk d e=>by cases e⟩
 | @cons k d e0 _ v kvs _ h1 h2 h3 h4 r ih=>
  obtain ⟨vs,g1,g2,g3⟩:=ih
  refine ⟨(zaH k,e0.val)::vs,.cons (by rw [h2];exact strKind_is ..) rfl g1,by rw [List.map_cons,List.map_cons,g2],λk' d' e=>?_⟩
  rw [List.lookup_cons] at e
  split at e
  ·rename_i hk
   have hk:=eq_of_beq hk
   cases e
   subst hk
   exact ⟨0,_,v,rfl,h3,h4⟩
  ·obtain ⟨i,u,v',e1,e2⟩:=g3 k' d' e
   exact ⟨i+1,u,v',e1,e2⟩
end
section
variable {X:Cx}
theorem ztb (g:GDic X.K X.w X.mg x kvs):∃ a,X.mg x=some (.ref a)/\IxR X (λv y H Q=>∃ k d,v=.ref a/\y=.str (zaH k)/\kvs.lookup k=some d/\∀ z,(∀ A H,RepD X.K A H d z)->Q z H):=by
 obtain ⟨a,o,es,ep,h1,h2,h4,h5,h6,h7⟩:=g
 refine ⟨a,h1,?_⟩
 intro value slice pins s σ H v y u w' Q I rx ry h hs
 obtain ⟨k,d,rfl,rfl,hl,q⟩:=h
 cases rx
 obtain ⟨t,rfl⟩:=ry
 obtain ⟨vs,g1,g2,g3⟩:=GEnt.pairs (prog:=X.prog) h6
 obtain ⟨i,u,z,e1,e2,e3⟩:=g3 k d hl
 have nd:(vs.map (·.1)).Nodup:=by
  rw [g2]
  have:kvs.map (λp=>zaH p.1)=(kvs.map (·.1)).map zaH:=by rw [List.map_map];rfl
  rw [this]
  exact zsm (λa b e=>zbD e) h7
 have dd:s.heap.DictOf (strKind X.prog X.w) a vs:=⟨o,es,ep,I.kIn a o h2,h4,h5,λe he=>GEnt.keys h6 e (by simpa using he),g1,nd⟩
 have hv:=valueAt_of_get nd e1
 refine PyProof.Rows.subscriptTail_builtinR (x:=u) dd.typeIs PySem.slot_dict_getitem.lookup ?_ hs
 exact wpAny_getItem_of (strKind_is _ _ _ _) dd.mapOf hv ⟨rfl,z,H,I.tok _,e2,q z e3⟩
theorem zsS (g:GDic X.K X.w X.mg x kvs) (hg:Gl X x) (hd:(x==("__debug__":Str))=false) (hb:IE X b f) (hx:zc0 b) :
  IE X (.Subscript (.Name x p) b pos) (λσ=>bnd (f σ) λy=>bnd (opt (gGet kvs y)) λv=>ok (.d v)):=by
 obtain ⟨a,hm,ix⟩:=ztb g
 refine PE.imp (zm7 ix (zkl (v:=.ref a) hg hm rfl hd) hb hx) λσ H Q q=>?_
 obtain ⟨μ,h,env,R0,re,r,h',e,k⟩:=q
 simp only [zaa,zab,zaE] at e
 obtain ⟨y,h1,e1,z,h2,⟨e2,rfl⟩,rfl,rfl⟩:=e
 refine ⟨μ,h,env,R0,re,y,_,e1,λμ1 H1 v s1 R1 q1=>?_⟩
 cases y with
 | loc _=>cases e2
 | d y=>
  cases y with
  | str kk=>
   simp only [RepR,RepD] at q1
   subst q1
   exact ⟨kk,z,rfl,rfl,e2,λw' hw=>k μ1 H1 w' s1 R1 (hw _ _)⟩
  | _=>cases e2
end
section
variable {X:Cx} {pos:Pos}
end
end IT
namespace IT
open PySem PySem.Spec L2
theorem noT {P:Prop} (h:false=true):P:=by cases h
theorem noF {P:Prop} (h:true=false):P:=by cases h
structure zlE where
 name:Str
 init:Nat
 fields:List Str
 meths:List (Str×Nat)
structure Cst where
 N:List Str
 names:List (Str×NameKind)
 fns:List (Str×Nat×List D)
 globs:List (Str×D)
 top:Bool
 cls:List zlE
 gds:List (Str×List (List Nat×D))
noncomputable def zar:Expr->Bool
 | .Starred _ _=>false
 | _=>true
noncomputable def visB (C:Cst) (x:Str):Bool:=match C.names.lookup x with
 | some .local=>true
 | some .cell=>true
 | some .free=>true
 | _=>false
noncomputable def locB (C:Cst) (x:Str):Bool:=match C.names.lookup x with
 | some .local=>true
 | some .cell=>C.top
 | _=>false
noncomputable def zcc (C:Cst) (x:Str):Bool:=match C.names.lookup x with
 | some .globalImplicit=>true
 | _=>false
noncomputable def zaX (x:Str):Bool:=!(x==("__debug__":Str))&&!(x==("__classdict__":Str))
noncomputable def conB:D->Const->Bool
 | .non,.none=>true
 | .bl b,.bool c=>b==c
 | .int i,.int j=>i==j
 | .str x,.str y=>zaH x==y
 | _,_=>false
noncomputable def boB:Bo->Operator->Bool
 | .add,.Add=>true
 | .sub,.Sub=>true
 | .mul,.Mult=>true
 | .fdiv,.FloorDiv=>true
 | .mod,.Mod=>true
 | .band,.BitAnd=>true
 | _,_=>false
noncomputable def coB:Co->CmpOp->Bool
 | .eq,.Eq=>true
 | .ne,.NotEq=>true
 | .lt,.Lt=>true
 | .gt,.Gt=>true
 | .ge,.GtE=>true
 | .isin,.In=>true
 | .notin,.NotIn=>true
 | .isN,.Is=>true
 | .isnotN,.IsNot=>true
 | _,_=>false
noncomputable def biS:Bi->Str
 | .len=>"len"
 | .tuple=>"tuple"
 | .all=>"all"
 | .any=>"any"
noncomputable def meS:Me->Str
 | .append=>"append"
 | .pop=>"pop"
 | .extend=>"extend"
noncomputable def biOn:Bi->Bool
 | .len=>true
 | .tuple=>true
 | .all=>true
 | .any=>true
noncomputable def meOn:Me->Bool
 | .append=>true
 | .pop=>true
 | .extend=>true
noncomputable def zlY:Expr->Bool
 | .Call _ [] _ _=>false
 | _=>true
noncomputable def me0:Me->Bool
 | .pop=>true
 | _=>false
noncomputable def zdK:Expr->Bool
 | .Name _ _=>true
 | _=>false
noncomputable def zh0:Expr->Bool
 | .Set _ _ _=>true
 | _=>false
noncomputable def zb7:Expr->Bool
 | .Slice _ _ _ _=>true
 | _=>false
noncomputable def zds:E->Bool
 | .con .non=>true
 | _=>false
noncomputable def zdB:Expr->Bool
 | .UnaryOp .Not _ _=>false
 | .BoolOp _ _ _=>false
 | .IfExp _ _ _ _=>false
 | .Compare _ _ _ _=>false
 | _=>true
noncomputable def zlS:Expr->Bool
 | .Compare _ _ _ _=>true
 | _=>false
noncomputable def zse (x:Str):Str:=("?":Str)++x
noncomputable def relN (outer names:List (Str×NameKind)):List (Str×NameKind):=
 names.map λ(n,k)=>if (k==NameKind.free&&outer.lookup n==some .cell) then (n,.cell) else (n,k)
mutual
noncomputable def za4:Tg->Expr->List (Nat×Str)
 | .name i,e=>match e with
  | .Name x _=>[(i,x)]
  | _=>[]
 | .tup ts,e=>match e with
  | .Tuple xs _ _=>tgNamess ts xs
  | _=>[]
noncomputable def tgNamess:List Tg->List Expr->List (Nat×Str)
 | [],_=>[]
 | t::ts,es=>match es with
  | e::es=>za4 t e++tgNamess ts es
  | []=>[]
end
noncomputable def blkN (N:List Str) (own:List (Nat×Str)):List Str:=
 own.foldl (λM p=>M.set p.1 p.2) (N.map λx=>if own.any (λp=>p.2==x) then zse x else x)
noncomputable def blkC (C:Cst) (sc:Scope) (own:List (Nat×Str)):Cst:={ N:=blkN C.N own,names:=relN C.names sc.names,fns:=C.fns,globs:=C.globs,top:=false,cls:=C.cls,gds:=C.gds }
noncomputable def zrD (C:Cst) (C':Cst) (own:List Nat) (i:Nat) (x:Str):Bool:=match C'.names.lookup x with
 | some .local=>own.contains i
 | some .cell | some .free=>own.contains i||(C.N[i]?==some x&&(C.names.lookup x==some .cell||C.names.lookup x==some .free))
 | _=>true
noncomputable def zjy (C:Cst) (sc:Scope) (C':Cst) (own:List Nat):Bool:=
 sc.kind==.function&&sc.names.all (λy=>y.2 != .cell)&&sc.names.all (λx=>x.2 != .local||sc.names.lookup x.1==some .local)
 && sc.names.all (λx=>x.2 != .free||C.names.lookup x.1==some .cell||C.names.lookup x.1==some .free)
 && (List.range C'.N.length).all (λi=>match C'.N[i]? with | some x=>zrD C C' own i x | none=>true)
 && C'.N.length==C.N.length&&decide C'.N.Nodup
mutual
noncomputable def zb6 (C:Cst):Tg->Expr->Bool
 | .name i,e=>match e with
  | .Name x _=>C.N[i]?==some x&&locB C x
  | _=>false
 | .tup ts,e=>match e with
  | .Tuple xs _ _=>chkTgs C ts xs
  | _=>false
noncomputable def chkTgs (C:Cst):List Tg->List Expr->Bool
 | [],es=>match es with
  | []=>true
  | _=>false
 | t::ts,es=>match es with
  | e::es=>zar e&&zb6 C t e&&chkTgs C ts es
  | []=>false
end
noncomputable def inB:Bool->CmpOp->Bool
 | false,.In=>true
 | true,.NotIn=>true
 | _,_=>false
noncomputable def ziT:List (List Nat×D)->List (List Nat×D)->Bool
 | [],ys=>ys.isEmpty
 | p::r,ys=>match ys with
  | q::t=>p.1==q.1&&p.2.same q.2&&ziT r t
  | []=>false
noncomputable def enuB:I->Expr->Bool
 | .enu _,e=>match e with
  | .Tuple _ _ _=>true
  | _=>false
 | _,_=>true
mutual
noncomputable def chkE:E->Cst->Expr->Bool
 | .con d,_,e=>match e with
  | .Constant c _ _=>conB d c
  | _=>false
 | .var i,C,e=>match e with
  | .Name x _=>C.N[i]?==some x&&visB C x&&zaX x
  | _=>false
 | .bin o a b,C,e=>match e with
  | .BinOp l op r _=>boB o op&&chkE a C l&&chkE b C r
  | _=>false
 | .neg a,C,e=>match e with
  | .UnaryOp .USub x _=>chkE a C x
  | _=>false
 | .cmp o a b,C,e=>match e with
  | .Compare l [op] [r] _=>coB o op&&chkE a C l&&chkE b C r&&!zh0 r
  | _=>false
 | .and a b,C,e=>match e with
  | .BoolOp .And (v::w::rest) pos=>chkE a C v&&(match rest with | []=>chkE b C w | y::ys=>chkE b C (.BoolOp .And (w::y::ys) pos))
  | _=>false
 | .or a b,C,e=>match e with
  | .BoolOp .Or (v::w::rest) pos=>chkE a C v&&(match rest with | []=>chkE b C w | y::ys=>chkE b C (.BoolOp .Or (w::y::ys) pos))
  | _=>false
 | .not a,C,e=>match e with
  | .UnaryOp .Not x _=>chkE a C x
  | _=>false
 | .ife c a b,C,e=>match e with
  | .IfExp t x y _=>chkT c C t&&chkE a C x&&chkE b C y
  | _=>false
 | .tup es,C,e=>match e with
  | .Tuple xs _ _=>chkEs es C xs&&decide (xs.length<=1000)
  | _=>false
 | .lst _ l,C,e=>chkL l C e
 | .idx a i,C,e=>match e with
  | .Subscript x y _=>chkE a C x&&chkE i C y&&!zb7 y
  | _=>false
 | .sli a lo hi,C,e=>match e with
  | .Subscript x (.Slice l u none _) _=>chkE a C x&&(match l with | none=>zds lo | some y=>chkE lo C y)&&(match u with | none=>zds hi | some y=>chkE hi C y)
  | _=>false
 | .call f es,C,e=>match e with
  | .Call (.Name x _) (v::vs) [] _=>(match C.fns[f]? with | some p=>p.1==x | none=>false)&&zcc C x&&zaX x&&chkEs es C (v::vs)
  | _=>false
 | .bi b es,C,e=>match e with
  | .Call (.Name x _) (v::vs) [] _=>(biOn b&&x==biS b)&&zcc C x&&chkEs es C (v::vs)
  | _=>false
 | .me m o es,C,e=>match e with
   | .Call (.Attribute ov name apos) (v::vs) [] cpos=>(!me0 m&&meOn m)&&name==meS m&&zdK ov&&chkE o C ov&&chkEs es C (v::vs)&&apos.endLine==cpos.line&&decide ((v::vs).length<20)
   | .Call (.Attribute ov name apos) [] [] cpos=>(me0 m&&meOn m)&&name==meS m&&zdK ov&&chkE o C ov&&chkEs es C []&&apos.endLine==cpos.line
   | _=>false
 | .glo d,C,e=>match e with
  | .Name x _=>(match C.globs.lookup x with | some d'=>D.same d d' | none=>false)&&zcc C x&&zaX x
  | _=>false
 | .isi t a,C,e=>match e with
  | .Call (.Name x _) [v,w] [] _=>(match w with
   | .Name y _=>x==("isinstance":Str)&&zcc C x&&zar v&&chkE a C v&&y==Str.ofString (tyS t)&&zcc C y
   | _=>false)
  | _=>false
 | .lm m o a,C,e=>match e with
   | .Call (.Attribute ov name apos) [v] [] cpos=>name==lmS m&&zlY ov&&chkE o C ov&&zar v&&chkE a C v&&apos.endLine==cpos.line
   | _=>false
 | .fld o f,C,e=>match e with
  | .Attribute ov name _=>name==f&&zlY ov&&chkE o C ov
  | _=>false
 | .make c f es,C,e=>match e with
  | .Call (.Name x _) (v::vs) [] _=>x==c&&(C.cls.any λi=>i.name==c&&i.init==f)&&zcc C x&&zaX x&&chkEs es C (v::vs)
  | _=>false
 | .mc c m f o es,C,e=>match e with
  | .Call (.Attribute ov name apos) (v::vs) [] cpos=>name==m&&(C.cls.any λi=>i.name==c&&i.meths.contains (m,f))&&zdK ov&&chkE o C ov&&chkEs es C (v::vs)&&apos.endLine==cpos.line&&decide ((v::vs).length<20)
  | .Call (.Attribute ov name apos) [] [] cpos=>name==m&&(C.cls.any λi=>i.name==c&&i.meths.contains (m,f))&&zdK ov&&chkE o C ov&&chkEs es C []&&apos.endLine==cpos.line
  | _=>false
 | .lstO tg it cs el,C,e=>match e with
  | .ListComp elt [g] sc _=>g.is_async==0&&!zh0 g.iter&&zjy C sc (blkC C sc (za4 tg g.target)) tg.slots&&(zb6 (blkC C sc (za4 tg g.target)) tg g.target&&enuB it g.target)&&chkI it C g.iter
    && chkTs cs (blkC C sc (za4 tg g.target)) g.ifs&&chkE el (blkC C sc (za4 tg g.target)) elt
  | _=>false
 | .oix a i,C,e=>match e with
  | .Subscript x y _=>chkE a C x&&chkE i C y&&!zb7 y
  | _=>false
 | .olen a,C,e=>match e with
  | .Call (.Name x _) [v] [] _=>x==("len":Str)&&zcc C x&&zar v&&chkE a C v
  | _=>false
 | .dnew,_,e=>match e with
  | .Dict [] [] _=>true
  | _=>false
 | .dof a,C,e=>match e with
  | .Call (.Name x _) [v] [] _=>x==("dict":Str)&&zcc C x&&zar v&&chkE a C v
  | _=>false
 | .din neg k d,C,e=>match e with
  | .Compare l [op] [r] _=>inB neg op&&chkE k C l&&chkE d C r&&!zh0 r
  | _=>false
 | .dgt d k,C,e=>match e with
  | .Call (.Attribute ov name apos) [v] [] cpos=>name==("get":Str)&&zlY ov&&chkE d C ov&&zar v&&chkE k C v&&apos.endLine==cpos.line
  | _=>false
 | .ddx d k,C,e=>match e with
  | .Subscript x y _=>chkE d C x&&chkE k C y&&!zb7 y
  | _=>false
 | .gdx g kvs k,C,e=>match e with
  | .Subscript z y _=>(match z with
   | .Name x _=>x==g&&(match C.gds.lookup x with | some kvs'=>ziT kvs kvs' | none=>false)&&zcc C x&&zaX x&&chkE k C y&&!zb7 y
   | _=>false)
  | _=>false
 | .stuck,_,_=>true
noncomputable def chkEs:List E->Cst->List Expr->Bool
 | [],_,es=>match es with
  | []=>true
  | _=>false
 | a::as,C,es=>match es with
  | e::es=>zar e&&chkE a C e&&chkEs as C es
  | []=>false
noncomputable def chkT:T->Cst->Expr->Bool
 | .val a,C,e=>chkE a C e&&(zdB e||zlS e)
 | .and a b,C,e=>match e with
  | .BoolOp .And (v::w::rest) pos=>chkT a C v&&(match rest with | []=>chkT b C w | y::ys=>chkT b C (.BoolOp .And (w::y::ys) pos))
  | _=>false
 | .or a b,C,e=>match e with
  | .BoolOp .Or (v::w::rest) pos=>chkT a C v&&(match rest with | []=>chkT b C w | y::ys=>chkT b C (.BoolOp .Or (w::y::ys) pos))
  | _=>false
 | .not a,C,e=>match e with
  | .UnaryOp .Not x _=>chkT a C x
  | _=>false
noncomputable def chkTs:List T->Cst->List Expr->Bool
 | [],_,es=>match es with
  | []=>true
  | _=>false
 | t::ts,C,es=>match es with
  | e::es=>chkT t C e&&chkTs ts C es&&es.isEmpty
  | []=>false
noncomputable def chkL:L->Cst->Expr->Bool
 | .disp es,C,e=>match e with
  | .List xs _=>chkEs es C xs&&decide (xs.length<=1000)
  | _=>false
 | .comp tg it cs el,C,e=>match e with
  | .ListComp elt [g] sc _=>g.is_async==0&&!zh0 g.iter&&zjy C sc (blkC C sc (za4 tg g.target)) tg.slots&&(zb6 (blkC C sc (za4 tg g.target)) tg g.target&&enuB it g.target)&&chkI it C g.iter
    && chkTs cs (blkC C sc (za4 tg g.target)) g.ifs&&chkE el (blkC C sc (za4 tg g.target)) elt
  | _=>false
 | .rev a,C,e=>match e with
  | .Subscript v w _=>(match w with
   | .Slice none none (some t) _=>(match t with
    | .UnaryOp .USub c _=>(match c with
     | .Constant (.int i) _ _=>i==1&&chkE a C v
     | _=>false)
    | _=>false)
   | _=>false)
  | _=>false
 | .sdi a,C,e=>match e with
  | .Call (.Name x _) [v] [] _=>(match v with
   | .Call (.Attribute ov name apos) [] [] cpos=>x==("sorted":Str)&&zcc C x&&name==("items":Str)&&zlY ov&&chkE a C ov&&apos.endLine==cpos.line
   | _=>false)
  | _=>false
noncomputable def chkI:I->Cst->Expr->Bool
 | .seq a,C,e=>chkE a C e
 | .rng a,C,e=>match e with
  | .Call (.Name x _) [v] [] _=>x==("range":Str)&&zcc C x&&zar v&&chkE a C v
  | _=>false
 | .rng2 a b,C,e=>match e with
  | .Call (.Name x _) [v,w] [] _=>x==("range":Str)&&zcc C x&&zar v&&zar w&&chkE a C v&&chkE b C w
  | _=>false
 | .enu a,C,e=>match e with
  | .Call (.Name x _) [v] [] _=>x==("enumerate":Str)&&zcc C x&&zar v&&chkE a C v
  | _=>false
 | .dic a,C,e=>chkE a C e
end
noncomputable def zeh:Expr->Bool
 | .ListComp _ _ _ _=>true
 | .SetComp _ _ _ _=>true
 | .DictComp _ _ _ _ _=>true
 | _=>false
noncomputable def zmi:E->Bool
 | .lstO _ _ _ _=>true
 | _=>false
noncomputable def zc3:Expr->Bool
 | .Tuple _ _ _=>true
 | .List _ _=>true
 | _=>false
mutual
noncomputable def chkS:S->Cst->Stmt->Bool
 | .asg tg a,C,st=>match st with
  | .Assign [t] v pos=>zb6 C tg t&&zar t&&chkE a C v&&!(zc3 t&&zc3 v)&&(!zeh v||(zeh v&&zdK t&&!zmi a))
  | _=>false
 | .setN c o f a,C,st=>match st with
  | .Assign [t] v _=>(match t with
   | .Attribute ov name _=>name==f&&(C.cls.any λi=>i.name==c&&i.fields.contains f)&&chkE a C v&&chkE o C ov
   | _=>false)
  | _=>false
 | .exp a,C,st=>match st with
  | .Expr v _=>chkE a C v&&!zeh v
  | _=>false
 | .ife c a b,C,st=>match st with
  | .If t x y _=>chkT c C t&&chkSs a C x&&chkSs b C y
  | _=>false
 | .for tg it body,C,st=>match st with
  | .For t iter b [] _=>(zb6 C tg t&&enuB it t)&&chkI it C iter&&chkSs body C b&&!zh0 iter
  | _=>false
 | .ret a,C,st=>match st with
  | .Return (some v) _=>chkE a C v
  | _=>false
 | .setD o i a,C,st=>match st with
  | .Assign [t] v _=>(match t with
   | .Subscript ov iv _=>chkE a C v&&chkE o C ov&&chkE i C iv&&!zeh v&&!zb7 iv
   | _=>false)
  | _=>false
 | .stuck,_,_=>true
noncomputable def chkSs:List S->Cst->List Stmt->Bool
 | [],_,sts=>match sts with
  | []=>true
  | _=>false
 | s::ss,C,sts=>match sts with
  | st::sts=>chkS s C st&&chkSs ss C sts
  | []=>false
end
end IT
namespace IT
open PySem PySem.Spec L2
noncomputable def zcQ:List Str:=["len", "sum", "tuple", "int", "range", "all", "any", "max", "min", "list", "isinstance", "str", "bool", "dict", "enumerate", "sorted", "set"]
structure Good (Γ:Calls) (n:Nat) (C:Cst) (X:Cx):Prop where
 nox:X.xe=λ_ _=>False
 calm:X.calm=true
 room:Room n X.A
 room1:Room (n+1) X.A
 kind:X.env.scope.kind=.function
 N:X.N=C.N
 nd:X.N.Nodup
 names:X.env.scope.names=C.names
 fn:C.top=true->∀ x,X.fn x=true
 funs:∀ (f:Nat) (p:Str×Nat×List D),C.fns[f]?=some p->zrP X n p.1 p.2.1 p.2.2 (Γ f)
 blt:∀ x∈zcQ,X.mg x=none
 glob:∀ (x:Str) (d:D),C.globs.lookup x=some d->∃ u v,X.mg x=some u/\RelV v u/\∀ A H,RepD X.K A H d v
 gdic:∀ (x:Str) (kvs:List (List Nat×D)),C.gds.lookup x=some kvs->GDic X.K X.w X.mg x kvs
 makes:∀ i∈C.cls,∃ np,zoi X n i.name np (Γ i.init)
 meths:∀ i∈C.cls,∀ p∈i.meths,∃ np,zj0 X n i.name p.1 np (Γ p.2)
 attrs:∀ i∈C.cls,∀ f∈i.fields,∀ A,PySem.W.nsIn X.K mainGlobals i.name=some (some (.ref A))->zbu X.K A f
theorem zam (h:zar e=true):starEach (e::es) env=(false,eval e env)::starEach es env:=by
 cases e<;>first | rfl | (first | exact noT h | exact noF h)
theorem zcp:∀ {as:List E} {C:Cst} {es:List Expr},chkEs as C es=true->as.length=es.length
 | [],C,[],_=>rfl
 | [],C,_::_,h=>by simp [chkEs] at h
 | a::as,C,[],h=>by simp [chkEs] at h
 | a::as,C,e::es,h=>by
  simp only [chkEs,Bool.and_eq_true] at h
  simp [zcp h.2]
theorem zaV:∀ {as:List E} {C:Cst} {es:List Expr},chkEs as C es=true->∀ e∈es,zar e=true
 | [],C,[],_,e,he=>by simp at he
 | [],C,_::_,h,_,_=>by simp [chkEs] at h
 | a::as,C,[],h,_,_=>by simp [chkEs] at h
 | a::as,C,e::es,h,x,hx=>by
  simp only [chkEs,Bool.and_eq_true] at h
  rcases List.mem_cons.mp hx with rfl | hx
  ·exact h.1.1
  ·exact zaV h.2 x hx
theorem zbn:∀ {es:List Expr},(∀ e∈es,zar e=true)->(backTo pos (starEach es env)).any (·.1)=false
  | [],_=>rfl
  | e::es,h=>by
    rw [zam (h e (by simp))]
    show (false||(backTo pos (starEach es env)).any (·.1))=false
    rw [zbn λx hx=>h x (by simp [hx])]
    rfl
theorem zcE:∀ {es:List Expr},(∀ e∈es,zar e=true)->(backTo pos (starEach es env)).all (λx=>!x.1)=true
 | [],_=>rfl
 | e::es,h=>by
  rw [zam (h e (by simp))]
  show (true&&(backTo pos (starEach es env)).all (λx=>!x.1))=true
  rw [zcE λx hx=>h x (by simp [hx])]
  rfl
theorem zfh:∀ {es:List E} {σ:IT.Env} {h h':Sto} {rs:List R},evs Γ es σ h=some (rs,h')->rs.length=es.length
 | [],σ,h,h',rs,e=>by
  simp only [evs,zab] at e
  rw [<-e.1];rfl
 | a::as,σ,h,h',rs,e=>by
  simp only [evs,zaa,zab] at e
  obtain ⟨r,h1,e1,rs',h2,e2,rfl,rfl⟩:=e
  simp [zfh e2]
section
variable {Γ:Calls} {n:Nat} {C:Cst} {X:Cx} {x:Str}
theorem zsM (G:Good Γ n C X) (h:visB C x=true):Vis X.env.scope x:=by
 unfold visB at h
 unfold Vis
 rw [G.names]
 split at h
 ·rename_i e;exact .inl e
 ·rename_i e;exact .inr (.inl e)
 ·rename_i e;exact .inr (.inr e)
 ·cases h
theorem zod (G:Good Γ n C X) (h:locB C x=true):Loc X.env.scope x/\(X.fn x=true\/X.env.scope.names.lookup x=some .local):=by
 unfold locB at h
 unfold L2.Loc
 rw [G.names]
 split at h
 ·rename_i e;exact ⟨.inl e,.inr e⟩
 ·rename_i e;exact ⟨.inr e,.inl (G.fn h x)⟩
 ·cases h
theorem zc6 (G:Good Γ n C X) (h:zcc C x=true):Gl X x:=by
 unfold zcc at h
 show X.env.scope.names.lookup x=_
 rw [G.names]
 split at h
 ·rename_i e;exact e
 ·cases h
theorem zcI (h:zaX x=true):(x==("__debug__":Str))=false/\(x==("__classdict__":Str))=false:=by
 unfold zaX at h
 simpa using h
end
theorem opB (h:boB o op=true):OpD X (binaryOp op) (bop o):=by
  cases o<;>cases op<;>first | (exact noT h) | exact zqe | exact zpL | exact zqp | exact znU | exact zqz | exact zmL
theorem coBe (hu:X.A.units+64<cLine) (h:coB o op=true):OpD X (compareOp op) (cop o):=by
  cases o<;>cases op<;>first | (exact noT h) | exact zqX hu | exact zsO hu | exact zre | exact zrk | exact zqY | exact zmN hu | exact zmb hu | exact zoQ | exact zjs
theorem zsq (h:cop o x y=some z):∃ t,z=.bl t:=by
 (delta cop at h;(try dsimp only at h))
 split at h<;>first
  | (split at h<;>first | (cases h;exact ⟨_,rfl⟩) | (split at h<;>first | (cases h;exact ⟨_,rfl⟩) | cases h) | cases h)
  | (cases h;exact ⟨_,rfl⟩)
  | cases h
theorem ztH (e:mD (cop o) x y h=some (r,h')):∃ t,r=.d (.bl t):=by
 simp only [mD,zaa,zab,zaE] at e
 obtain ⟨dx,h1,e1,dy,h2,e2,z,h3,⟨e3,_⟩,rfl,_⟩:=e
 obtain ⟨t,rfl⟩:=zsq e3
 exact ⟨t,rfl⟩
theorem zi8 (h:zdB e=true):∀ whole,isTrue e env whole=(do let v<-whole;standAt e.pos;holding [v] (truthy v)):=by
 intro whole
 cases e with
 | UnaryOp op x p=>cases op<;>first | rfl | (first | exact noT h | exact noF h)
 | BoolOp _ _ _=>first | exact noT h | exact noF h
 | IfExp _ _ _ _=>first | exact noT h | exact noF h
 | Compare _ _ _ _=>first | exact noT h | exact noF h
 | _=>rfl
theorem ze4 (h:zlY o=true):attributeBase o name env (eval o env)=eval o env:=by
 unfold attributeBase
 split
 ·cases h
 ·rfl
theorem zbJ (h:zdK o=true):attributeBase o name env (eval o env)=eval o env:=by
 cases o<;>first | rfl | (first | exact noT h | exact noF h)
theorem zdu (h:zb7 e=false):zc0 e:=by
 intro o i
 cases e<;>first | rfl | (first | exact noT h | exact noF h)
theorem zhv (h:zh0 e=false):∀ x,foldedSetIterable e env x=pure x:=by
 intro x
 cases e<;>first | rfl | (first | exact noT h | exact noF h)
theorem zeV (h:zh0 e=false):behindInMarks op e=false:=by
 cases e<;>first | rfl | (first | exact noT h | exact noF h)
theorem zln (h:zeh v=false):swapsWithSole [t] v l env=pure false:=by
 cases v<;>first | rfl | (first | exact noT h | exact noF h)
theorem znO (h:zeh v=false):swapsWith v none l env=pure false:=by
 cases v<;>first | rfl | (first | exact noT h | exact noF h)
theorem zdH (h:(zc3 t&&zc3 v)=false):swappedStores [t] v env=pure none:=by
 cases t with
 | Tuple a b c=>cases v<;>first | rfl | (first | exact noT h | exact noF h)
 | List a b=>cases v<;>first | rfl | (first | exact noT h | exact noF h)
 | _=>rfl
theorem zhT (h:zar t=true):(assignEach [t] env).map (·.2)=[assign t env]:=by
 cases t<;>first | rfl | (first | exact noT h | exact noF h)
theorem zdw (h:zar t=true):assignEach (t::ts) env=(false,assign t env)::assignEach ts env:=by
 cases t<;>first | rfl | (first | exact noT h | exact noF h)
theorem zhB:∀ {ts:List Expr},(∀ e∈ts,zar e=true)->(assignEach ts env).length=ts.length/\(assignEach ts env).findIdx? (·.1)=none
 | [],_=>⟨rfl,rfl⟩
 | t::ts,h=>by
  obtain ⟨h1,h2⟩:=zhB (env:=env) (ts:=ts) λx hx=>h x (by simp [hx])
  rw [zdw (h t (by simp))]
  refine ⟨by simp [h1],?_⟩
  rw [List.findIdx?_cons]
  simp [h2]
theorem zpv (h:zb7 i=false) (v:Value):assign (.Subscript o i p) env v=(do let ov<-holding [v] (eval o env);let iv<-holding [v,ov] (eval i env);standAt p;holding [v,ov,iv] (setItem ov iv v);release [v,ov,iv] []):=by
 cases i<;>first | rfl | (first | exact noT h | exact noF h)
theorem zsP (h:conB d c=true):IE X (.Constant c k pos) (λ_=>ok (.d d)):=by
 cases d with
 | non=>cases c<;>first | (exact noT h) | exact zgs zr2 (by intro _ _;simp only [RepD])
 | bl b=>
  cases c with
  | bool c=>obtain rfl:=eq_of_beq h;exact zgs ztA (by intro _ _;simp only [RepD])
  | _=>exact noT h
 | int b=>
  cases c with
  | int c=>obtain rfl:=eq_of_beq h;exact zgs zoy (by intro _ _;simp only [RepD])
  | _=>exact noT h
 | str b=>
  cases c with
  | str c=>obtain rfl:=eq_of_beq h;exact zgs zqN (by intro _ _;simp only [RepD])
  | _=>exact noT h
 | _=>cases c<;>exact noT h
theorem zhJ:∀ {ts:List Tg} {es:List Expr},chkTgs C ts es=true->(∀ e∈es,zar e=true)/\es.length=ts.length
 | [],[],_=>⟨by simp,rfl⟩
 | [],_::_,h=>by simp [chkTgs] at h
 | _::_,[],h=>by simp [chkTgs] at h
 | t::ts,e::es,h=>by
  simp only [chkTgs,Bool.and_eq_true] at h
  obtain ⟨h1,h2⟩:=zhJ h.2
  refine ⟨λx hx=>?_,by simp [h2]⟩
  rcases List.mem_cons.mp hx with rfl | hx
  ·exact h.1.1
  ·exact h1 x hx
mutual
theorem okTg {n:Nat} (G:Good Γ n C X):∀ (t:Tg) (e:Expr),zb6 C t e=true->PG X e (tG X.K t)
 | .name i,e,h=>by
  cases e with
  | Name x pos=>
   simp only [zb6,Bool.and_eq_true] at h
   obtain ⟨h1,h2⟩:=zod G h.2
   exact zoU G.nd (by rw [G.N];exact eq_of_beq h.1) h1 h2
  | _=>simp [zb6] at h
 | .tup ts,e,h=>by
  cases e with
  | Tuple xs k pos=>
   have h:chkTgs C ts xs=true:=by simpa [zb6] using h
   obtain ⟨h1,h2⟩:=zhJ h
   obtain ⟨h3,h4⟩:=zhB (env:=X.env) h1
   exact zsk G.calm (okTgs G ts xs h) h2 h3 h4
  | _=>simp [zb6] at h
theorem okTgs (G:Good Γ n C X):∀ (ts:List Tg) (es:List Expr),chkTgs C ts es=true->PGs X es (tGs X.K ts)
 | [],es,h=>by
  cases es with
  | nil=>exact zqt
  | cons _ _=>simp [chkTgs] at h
 | t::ts,es,h=>by
  cases es with
  | nil=>simp [chkTgs] at h
  | cons e es=>
   simp only [chkTgs,Bool.and_eq_true] at h
   exact zn4 (okTg G t e h.1.2) (okTgs G ts es h.2) (by rw [zdw h.1.1];rfl)
end
theorem zpU {n:Nat} (G:Good Γ n C X) (t:Tg) (e:Expr) (h:zb6 C t e=true):PG X e (tGI X.K t):=by
 cases t with
 | name i=>exact zmG (okTg G _ _ h)
 | tup ts=>
  by_cases hl:ts.length=2
  ·match ts,hl,h with
   | [a,b],_,h=>
    cases e with
    | Tuple xs k pos=>
     have h:chkTgs C [a,b] xs=true:=by simpa [zb6] using h
     match xs,h with
     | [x,y],h=>
      obtain ⟨h1,h2⟩:=zhJ h
      obtain ⟨h3,h4⟩:=zhB (env:=X.env) h1
      have hs:=okTgs G [a,b] [x,y] h
      simp only [chkTgs,Bool.and_eq_true] at h
      exact zqE G.calm hs (ztV (okTg G a x h.1.2) (okTg G b y h.2.1.2) (by rw [zdw h.1.1];rfl) (by rw [zdw h.2.1.1];rfl)) h3 h4
     | [],h=>simp [chkTgs] at h
     | [_],h=>simp [chkTgs] at h
     | _::_::_::_,h=>simp [chkTgs] at h
    | _=>simp [zb6] at h
  ·exact zpJ hl (okTg G _ _ h)
theorem zgd (e:zaY r h=some (w,h')):WlOk w h':=by
 (delta zaY at e;simp only [zaa] at e)
 obtain ⟨o,h1,e1,e2⟩:=e
 obtain ⟨rfl,ho⟩:=zbf e1
 cases o with
 | some ls=>
  obtain ⟨l,rfl,ho⟩:=ho
  simp only [zab] at e2
  obtain ⟨rfl,rfl⟩:=e2
  intro i hi
  cases hi
  exact ⟨_,ho,λc fs z=>by cases z⟩
 | none=>
  simp only [zaa] at e2
  obtain ⟨d,h2,e3,e4⟩:=e2
  cases r with
  | loc l=>
   obtain ⟨o,ho,il,rfl,rfl⟩:=zeK e3
   (delta wkOf items at e4;(try dsimp only at e4);simp only [zab] at e4)
   obtain ⟨rfl,rfl⟩:=e4
   intro i hi
   cases hi
   exact ⟨o,ho,λc fs z=>by rw [z] at il;cases il⟩
  | d x=>
   have:w.l=none:=by
    (delta wkOf at e4;(try dsimp only at e4))
    cases hi:items d with
    | none=>
     rw [hi] at e4;cases e4
    | some xs=>rw [hi] at e4;obtain ⟨rfl,rfl⟩:=zab.mp e4;rfl
   intro i hi
   rw [this] at hi
   cases hi
theorem zhP (e:evI Γ it σ h=some (w,h')):WlOk w h':=by
 cases it with
 | seq a=>
  simp only [evI,zaa] at e
  obtain ⟨r,h1,e1,e2⟩:=e
  exact zgd e2
 | enu a=>
  simp only [evI,zaa] at e
  obtain ⟨r,h1,e1,e2⟩:=e
  unfold zjG at e2
  split at e2
  ·simp only [zaa] at e2
   obtain ⟨w0,h2,e3,e4⟩:=e2
   have:=zgd e3
   cases en:zaq 0 w0.xs with
   | none=>rw [en] at e4;cases e4
   | some l=>rw [en] at e4;obtain ⟨rfl,rfl⟩:=zab.mp e4;exact this
  ·cases e2
 | dic a=>
  simp only [evI,zaa] at e
  obtain ⟨r,h1,e1,e2⟩:=e
  cases r with
  | d _=>cases e2
  | loc l=>
   simp only [zhn] at e2
   split at e2
   ·rename_i kvs ho
    simp only [Option.some.injEq,Prod.mk.injEq] at e2
    obtain ⟨rfl,rfl⟩:=e2
    intro i hi
    cases hi
    exact ⟨_,ho,λc fs z=>by cases z⟩
   ·cases e2
 | rng a=>
  simp only [evI,zaa] at e
  obtain ⟨r,h1,e1,e2⟩:=e
  (delta zfo at e2;(try dsimp only at e2))
  intro i el
  split at e2
  ·split at e2
   ·obtain ⟨rfl,rfl⟩:=zab.mp e2;cases el
   ·cases e2
  ·cases e2
 | rng2 a b=>
  simp only [evI,zaa] at e
  obtain ⟨r,h1,e1,q,h2,e2,e3⟩:=e
  (delta zg1 at e3;(try dsimp only at e3))
  intro i el
  split at e3
  ·split at e3
   ·obtain ⟨rfl,rfl⟩:=zab.mp e3;cases el
   ·cases e3
  ·cases e3
end IT
namespace IT
open PySem PySem.Spec L2
section
variable {Γ:Calls} {n:Nat} {C:Cst} {X:Cx}
theorem zg7 (G:Good Γ n C X) (sc:Scope):(relabel sc X.env).names=relN C.names sc.names:=by
 unfold relabel relN
 show sc.names.map _=sc.names.map _
 refine List.map_congr_left λp _=>?_
 obtain ⟨m,k⟩:=p
 have e1:X.env.kindOf m=C.names.lookup m:=by
  show X.env.scope.names.lookup m=_
  rw [G.names]
 simp only [G.kind,e1]
 have e2:(ScopeKind.function==ScopeKind.function)=true:=rfl
 rw [e2,Bool.and_true]
theorem Good.blk (G:Good Γ n C X) {os:List Nat} (h:zjy C sc (blkC C sc own) os=true) (cl:List (Str×Addr)) (pins:List (Addr×Obj)) (s₂:Shared) (H₂:Hp) (Cc:Addr) (fp:List Addr) :
  Good Γ n (blkC C sc own) (blk X (blkC C sc own).N s₂ H₂ (compEnvC sc cl Cc X.env) fp pins):=by
 unfold zjy at h
 simp only [Bool.and_eq_true] at h
 obtain ⟨⟨⟨⟨⟨⟨hk,_⟩,_⟩,_⟩,_⟩,_⟩,hnd⟩:=h
 refine ⟨G.nox,G.calm,G.room,G.room1,?_,rfl,of_decide_eq_true hnd,zg7 G sc,λz=>absurd z (by show ¬ (false=true);decide),λf x e=>⟨(G.funs f x e).ex,(G.funs f x e).fill,(G.funs f x e).len⟩,G.blt,G.glob,G.gdic,λi hi=>let ⟨np,z⟩:=G.makes i hi;⟨np,z.ex,z.len⟩,λi hi p hp=>let ⟨np,z⟩:=G.meths i hi p hp;⟨np,z.ex,z.len⟩,G.attrs⟩
 show (relabel sc X.env).kind=_
 have:sc.kind=.function:=by cases e:sc.kind<;>rw [e] at hk<;>first | rfl | (exact absurd hk (by decide))
 exact this
theorem zmp (G:Good Γ n C X) {os:List Nat} (h:zjy C sc (blkC C sc own) os=true):ziX X sc (blkC C sc own).N os:=by
 unfold zjy at h
 simp only [Bool.and_eq_true] at h
 obtain ⟨⟨⟨⟨⟨⟨hk,hc⟩,hn⟩,hf⟩,hs⟩,hl⟩,hnd⟩:=h
 have ke:∀ m,X.env.kindOf m=C.names.lookup m:=λm=>by
  show X.env.scope.names.lookup m=_
  rw [G.names]
 refine ⟨?_,?_,?_,?_,?_,?_⟩
 ·cases e:sc.kind<;>rw [e] at hk<;>first | rfl | (exact absurd hk (by decide))
 ·intro y hy z
  have:=List.all_eq_true.mp hc y hy
  rw [z] at this
  exact absurd this (by decide)
 ·intro x hx z
  have:=List.all_eq_true.mp hn x hx
  rw [z] at this
  have e2:(NameKind.local != NameKind.local)=false:=by decide
  rw [e2,Bool.false_or] at this
  exact eq_of_beq this
 ·intro x hx z
  have:=List.all_eq_true.mp hf x hx
  rw [z] at this
  have e2:(NameKind.free != NameKind.free)=false:=by decide
  rw [e2,Bool.false_or,Bool.or_eq_true] at this
  rw [ke]
  rcases this with q | q
  ·exact .inl (eq_of_beq q)
  ·exact .inr (eq_of_beq q)
 ·intro i x e v
  have hi:i<(blkC C sc own).N.length:=(List.getElem?_eq_some_iff.mp e).1
  have:=List.all_eq_true.mp hs i (by simpa using hi)
  rw [e] at this
  simp only [zrD] at this
  unfold Vis at v
  rw [zg7 G sc] at v ⊢
  have en:(blkC C sc own).names=relN C.names sc.names:=rfl
  rw [en] at this
  rw [G.N,ke]
  rcases v with v | v | v
  ·rw [v] at this
   exact .inl (by simpa using this)
  ·rw [v] at this
   simp only [Bool.or_eq_true,Bool.and_eq_true] at this
   rcases this with q | ⟨q,q2⟩
   ·exact .inl (by simpa using q)
   ·refine .inr ⟨eq_of_beq q,?_,by rw [v];decide⟩
    rcases q2 with q2 | q2
    ·exact .inl (eq_of_beq q2)
    ·exact .inr (eq_of_beq q2)
  ·rw [v] at this
   simp only [Bool.or_eq_true,Bool.and_eq_true] at this
   rcases this with q | ⟨q,q2⟩
   ·exact .inl (by simpa using q)
   ·refine .inr ⟨eq_of_beq q,?_,by rw [v];decide⟩
    rcases q2 with q2 | q2
    ·exact .inl (eq_of_beq q2)
    ·exact .inr (eq_of_beq q2)
 ·rw [G.N]
  exact eq_of_beq hl
end
noncomputable def zbY (Γ:Calls) (X:Cx) (tg:Tg) (it:I) (cs:List T) (el:E) (e:Expr):Prop:=
 ∃ elt gt gi gifs sc pos N',e=.ListComp elt [⟨gt,gi,gifs,0⟩] sc pos/\ziX X sc N' tg.slots/\PI X gt gi (tI X.K (evI Γ it)) ∧
  (∀ cl pins s₂ H₂ C fp,PG (blk X N' s₂ H₂ (compEnvC sc cl C X.env) fp pins) gt (tGI X.K tg)/\PTs (blk X N' s₂ H₂ (compEnvC sc cl C X.env) fp pins) gifs (tTv X.K (tvs Γ cs))/\PE (blk X N' s₂ H₂ (compEnvC sc cl C X.env) fp pins) elt (tE X.K (ev Γ el))) ∧
  ∀ x,foldedSetIterable gi X.env x=pure x
theorem zbY.read (q:tLs K (evL Γ (.comp tg it cs el)) σ H Q):zjw (tI K (evI Γ it)) tg.slots (tGI K tg) (tTv K (tvs Γ cs)) (tE K (ev Γ el)) σ H Q:=by
 have e:evL Γ (.comp tg it cs el)=λσ=>bnd (evI Γ it σ) λw=>zaZ w.l (zq3 tg (tvs Γ cs) (ev Γ el) σ) w.xs:=by
  funext σ
  rfl
 rw [e] at q
 exact zmu (λσ h w h' e=>zhP e) q
theorem zbY.il (hx:X.xe=λ_ _=>False) (hc:X.calm=true) (h:zbY Γ X tg it cs el e):IL X e (evL Γ (.comp tg it cs el)):=by
 obtain ⟨elt,gt,gi,gifs,sc,pos,N',rfl,ok,hi,hB,hs⟩:=h
 exact PE.imp (zkx hx hc ok hi hB hs) λσ H Q q=>zbY.read q
theorem zbY.io (hx:X.xe=λ_ _=>False) (hc:X.calm=true) (h:zbY Γ X tg it cs el e):IE X e (ev Γ (.lstO tg it cs el)):=by
 obtain ⟨elt,gt,gi,gifs,sc,pos,N',rfl,ok,hi,hB,hs⟩:=h
 refine PE.imp (zkx hx hc ok hi hB hs) λσ H Q q0=>?_
 refine zet (ztD X.K) (λσ h w h' e=>zhP e) ?_
 obtain ⟨μ,h,env,R0,re,r,h',e,k⟩:=q0
 replace e:(bnd (evI Γ it env) λw=>bnd (zaZ w.l (λx=>bnd (zaD tg x (clr tg.slots env)) λσ'=>bnd (tvs Γ cs σ') λt=>if t then bnd (ev Γ el σ') λr=>bnd (za5 r) λd=>IT.ok (some d) else IT.ok none) w.xs) λls=>allocO ls) h=some (r,h'):=e
 simp only [zaa,allocO,Option.some.injEq,Prod.mk.injEq] at e
 obtain ⟨w,h1,e1,ls,h2,e2,rfl,rfl⟩:=e
 refine ⟨μ,h,env,R0,re,ls,h2,zaa.mpr ⟨w,h1,e1,e2⟩,λμ1 H1 a vs s1 R1 z ha=>?_⟩
 have st:Stp μ1 h2 H1 (μ1++[a]) (h2++[.ols ls]) (upd H1 a (.lst vs)):=Stp.allocO R1 ha
 refine k (μ1++[a]) _ (.ref a) (s1.trans st) (R1.allocO ha ⟨vs,zaj,L2.Paired.mapP z λl v ⟨b,eb,ev⟩=>⟨b,st.pre l b eb,ev⟩⟩) ⟨a,?_,rfl⟩
 rw [<-R1.len]
 simp
theorem znx {m:Bool} (q:tE K (λσ=>bnd (fl σ) λxs=>if m then alloc xs else ok (.d (.lst xs))) σ H Q):tLs K fl σ H Q:=by
 obtain ⟨μ,h,env,R0,re,r,h',e,k⟩:=q
 simp only [zaa] at e
 obtain ⟨xs,h1,e1,e2⟩:=e
 refine ⟨μ,h,env,R0,re,xs,h1,e1,λμ1 H1 a vs s1 R1 q1 ha=>?_⟩
 cases m with
 | true=>
  simp only [if_true,alloc,Option.some.injEq,Prod.mk.injEq] at e2
  obtain ⟨rfl,rfl⟩:=e2
  refine k (μ1++[a]) _ (.ref a) (s1.trans (Stp.alloc R1 ha)) (R1.alloc ha q1) ⟨a,?_,rfl⟩
  rw [<-R1.len]
  simp
 | false=>
  simp only [Bool.false_eq_true,if_false] at e2
  obtain ⟨rfl,rfl⟩:=zab.mp e2
  have s2:Stp μ1 h1 H1 μ1 h1 (upd H1 a (.lst vs)):=Stp.fresh ha
  refine k μ1 _ (.ref a) (s1.trans s2) (R1.fresh ha) ?_
  simp only [RepR,RepD]
  refine ⟨a,vs,rfl,.inl ⟨λl=>?_,.inl zaj⟩,RepDs.stp s2 R1 q1⟩
  obtain ⟨ws,z,_⟩:=R1.liveAt l
  rw [ha] at z;cases z
theorem tLs.imp (q:tLs K fl σ H Q) (i:∀ v H,Q v H->Q' v H):tLs K fl σ H Q':=by
 obtain ⟨μ,h,env,R0,re,xs,h',e,k⟩:=q
 exact ⟨μ,h,env,R0,re,xs,h',e,λμ' H' a vs s1 R1 q1 ha=>i _ _ (k μ' H' a vs s1 R1 q1 ha)⟩
theorem zjr (q:tG K (.name i) v σ H Q):zmP i v σ H Q:=by
 obtain ⟨μ,h,env,r,env',R0,re,qr,e,k⟩:=q
 simp only [zaN,zab] at e
 obtain ⟨rfl,_⟩:=e
 exact k _ (re.set i qr)
theorem zne {D:Ends} (q:tS K (λσ=>bnd (f σ) λr=>bnd (zaN t r σ) λσ'=>ok (.nx,σ')) D σ H):tE K f σ H λx H1=>tG K t x σ H1 D.nx:=by
 obtain ⟨μ,h,env,R0,re,fl,env',h',e,k⟩:=q
 simp only [zaa,zab,Prod.mk.injEq] at e
 obtain ⟨r,h1,e1,env1,h2,e2,⟨rfl,rfl⟩,rfl⟩:=e
 have:=za3 _ _ _ _ _ _ e2
 subst this
 exact ⟨μ,h,env,R0,re,r,_,e1,λμ1 H1 v s1 R1 q1=>⟨μ1,_,env,r,env1,R1,re.stp s1 R0,q1,e2,λσ' re'=>k μ1 H1 σ' s1 R1 re'⟩⟩
noncomputable def zoA:Expr->Bool
 | .BoolOp _ _ _=>true
 | _=>false
theorem zuc (G:Good Γ n C X) (ho:biOn b=true) (hx:x=biS b) (hg:Gl X x) (ha:IA X (e::es) fs)
  (he:starEach (e::es) X.env=(false,eval e X.env)::starEach es X.env) (hpl:(backTo pos (starEach es X.env)).any (·.1)=false):IE X (.Call (.Name x p) (e::es) [] pos) (λσ=>bnd (fs σ) λrs=>bnd (rds rs) λds=>bnd (opt (biD b ds)) λz=>ok (.d z)):=by
 subst hx
 cases b with
 | len=>exact PE.imp (zbR zmm hg (G.blt _ (by decide)) PySem.boot_len ha (by decide) (by decide) he hpl) λσ H Q q=>zeX q
 | tuple=>exact PE.imp (zgv zhd hg (G.blt _ (by decide)) PyProof.Rows.boot_tuple ha (by decide) (by decide) he hpl) λσ H Q q=>zeX q
 | all=>exact PE.imp (zbR (zd3 G.calm true) hg (G.blt _ (by decide)) PyProof.Rows.boot_all ha (by decide) (by decide) he hpl) λσ H Q q=>zeX q
 | any=>exact PE.imp (zbR (zd3 G.calm false) hg (G.blt _ (by decide)) PyProof.Rows.boot_any ha (by decide) (by decide) he hpl) λσ H Q q=>zeX q
theorem zrm {neg:Bool} {op:CmpOp} (h:inB neg op=true):op=if neg then .NotIn else .In:=by
 cases neg<;>cases op<;>first | rfl | exact noT h
theorem zgu:∀ {a b:List (List Nat×D)},ziT a b=true->b=a
  | [],[],_=>rfl
  | [],_::_,h=>by cases h
  | _::_,[],h=>by cases h
  | (p1,p2)::r,(q1,q2)::t,h=>by
    simp only [ziT,Bool.and_eq_true] at h
    rw [eq_of_beq h.1.1,D.same_eq _ _ h.1.2,zgu h.2]
theorem zan {a:E} {C:Cst} {e:Expr} (h:chkT (.val a) C e=true):chkE a C e=true:=by
 unfold chkT at h
 rw [Bool.and_eq_true] at h
 exact h.1
theorem zag {Γ:Calls} {a:E} {C:Cst} {e:Expr} {X:Cx} (k:IE X e (ev Γ a)) (h:chkT (.val a) C e=true) (hn:∀ l ops rs pos,e≠.Compare l ops rs pos):IT' X e (tv Γ (.val a))/\(zoA e=true->PW X e (tTv X.K (tv Γ (.val a)))):=by
 unfold chkT at h
 rw [Bool.and_eq_true,Bool.or_eq_true] at h
 have hp:zdB e=true:=by
  rcases h.2 with z | z
  ·exact z
  ·cases e<;>first | (exact noT z) | exact absurd rfl (hn _ _ _ _)
 refine ⟨zrp k (zi8 hp),λz=>?_⟩
 cases e<;>first | (exact noT z) | (first | exact noT hp | exact noF hp)
mutual
theorem okE {Γ:Calls} {n:Nat}:∀ (a:E) (C:Cst) (e:Expr) (X:Cx),chkE a C e=true->Good Γ n C X->IE X e (ev Γ a)
 | .con d,C,e,X,h,G=>by
  cases e with
  | Constant c k pos=>exact zsP (d:=d) (by simpa only [chkE] using h)
  | _=>exact noT h
 | .var i,C,e,X,h,G=>by
  cases e with
  | Name x pos=>
   simp only [chkE,Bool.and_eq_true] at h
   obtain ⟨h1,h2⟩:=zcI h.2
   exact zrB (zr8 (by rw [G.N];exact eq_of_beq h.1.1) (zsM G h.1.2) h1 h2)
  | _=>exact noT h
 | .bin o a b,C,e,X,h,G=>by
  cases e with
  | BinOp l op r pos=>
   simp only [chkE,Bool.and_eq_true] at h
   exact zrU (m:=mD (bop o)) (OpD.opI (opB h.1.1)) (okE a C l X h.1.2 G) (okE b C r X h.2 G)
  | _=>exact noT h
 | .neg a,C,e,X,h,G=>by
  unfold chkE at h
  split at h
  ·exact zrT (okE a C _ X h G)
  ·cases h
 | .cmp o a b,C,e,X,h,G=>by
  unfold chkE at h
  split at h
  ·simp only [Bool.and_eq_true,Bool.not_eq_true'] at h
   exact zl6 (m:=mD (cop o)) (OpD.opI (coBe G.room.units h.1.1.1)) (okE a C _ X h.1.1.2 G) (okE b C _ X h.1.2 G) (zeV h.2)
  ·cases h
 | .and a b,C,e,X,h,G=>by
  unfold chkE at h
  split at h
  ·rename_i v w rest pos
   simp only [Bool.and_eq_true] at h
   cases rest with
   | nil=>exact zop (okE a C v X h.1 G) (zn9 (okE b C w X h.2 G))
   | cons y ys=>exact zop (okE a C v X h.1 G) (okE b C _ X h.2 G)
  ·cases h
 | .or a b,C,e,X,h,G=>by
  unfold chkE at h
  split at h
  ·rename_i v w rest pos
   simp only [Bool.and_eq_true] at h
   cases rest with
   | nil=>exact zr0 (okE a C v X h.1 G) (zn9 (okE b C w X h.2 G))
   | cons y ys=>exact zr0 (okE a C v X h.1 G) (okE b C _ X h.2 G)
  ·cases h
 | .not a,C,e,X,h,G=>by
  unfold chkE at h
  split at h
  ·exact zsE (okE a C _ X h G)
  ·cases h
 | .ife c a b,C,e,X,h,G=>by
  unfold chkE at h
  split at h
  ·simp only [Bool.and_eq_true] at h
   exact zqQ (okT c C _ X h.1.1 G).1 (okE a C _ X h.1.2 G) (okE b C _ X h.2 G)
  ·cases h
 | .tup es,C,e,X,h,G=>by
  unfold chkE at h
  split at h
  ·simp only [Bool.and_eq_true] at h
   exact zrc (okEs es C _ X h.1 G) (of_decide_eq_true h.2) (λσ h0 rs h' e=>by rw [zfh e];exact zcp h.1)
  ·cases h
 | .lst m l,C,e,X,h,G=>by
  cases l with
  | disp es=>exact zh5 m (okL (.disp es) C e X (by simpa only [chkE] using h) G)
  | comp tg it cs el=>exact zh5 m (zbY.il G.nox G.calm (okL (.comp tg it cs el) C e X (by simpa only [chkE] using h) G))
  | rev a=>exact zh5 m (okL (.rev a) C e X (by simpa only [chkE] using h) G)
  | sdi a=>exact zh5 m (okL (.sdi a) C e X (by simpa only [chkE] using h) G)
 | .idx a i,C,e,X,h,G=>by
  unfold chkE at h
  split at h
  ·simp only [Bool.and_eq_true,Bool.not_eq_true'] at h
   exact zrZ (okE a C _ X h.1.1 G) (okE i C _ X h.1.2 G) (zdu h.2)
  ·cases h
 | .sli a lo hi,C,e,X,h,G=>by
  unfold chkE at h
  split at h
  ·rename_i x l u p2 pos
   simp only [Bool.and_eq_true] at h
   have non:∀ {z:E},zds z=true->PO X none (tO X.K (ev Γ z)):=by
    intro z hz
    unfold zds at hz
    split at hz
    ·exact zqA
    ·cases hz
   have hl:PO X l (tO X.K (ev Γ lo)):=by
    cases l with
    | none=>exact non h.1.2
    | some y=>exact zmw (okE lo C y X h.1.2 G)
   have hu:PO X u (tO X.K (ev Γ hi)):=by
    cases u with
    | none=>exact non h.2
    | some y=>exact zmw (okE hi C y X h.2 G)
   exact zs4 (okE a C x X h.1.1 G) hl hu
  ·cases h
 | .call f es,C,e,X,h,G=>by
  unfold chkE at h
  split at h
  ·rename_i x p v vs pos
   simp only [Bool.and_eq_true] at h
   have st:=zaV h.2
   cases hp:C.fns[f]? with
   | none=>rw [hp] at h;simp at h
   | some q=>
    rw [hp] at h
    have hx:=eq_of_beq h.1.1.1
    subst hx
    exact zqm (G.funs f q hp) G.room (zc6 G h.1.1.2) (okEs es C _ X h.2 G) (λσ h0 rs h' e=>by rw [zfh e];exact zcp h.2) (zcI h.1.2).1 (zam (st v (by simp))) (zbn λy hy=>st y (by simp [hy]))
  ·cases h
 | .bi b es,C,e,X,h,G=>by
  unfold chkE at h
  split at h
  ·rename_i x p v vs pos
   simp only [Bool.and_eq_true] at h
   have st:=zaV h.2
   exact zuc G h.1.1.1 (eq_of_beq h.1.1.2) (zc6 G h.1.2) (okEs es C _ X h.2 G) (zam (st v (by simp))) (zbn λy hy=>st y (by simp [hy]))
  ·cases h
 | .me m o es,C,e,X,h,G=>by
  unfold chkE at h
  split at h
  ·rename_i ov name apos v vs cpos
   simp only [Bool.and_eq_true] at h
   obtain ⟨⟨⟨⟨⟨⟨h0,h1⟩,h2⟩,h3⟩,h4⟩,h5⟩,h6⟩:=h
   have st:=zaV h4
   have h7:(v::vs).length<20:=of_decide_eq_true h6
   have few:((backTo cpos (starEach (v::vs) X.env)).all (λx=>!x.1)&&(backToKw cpos (keywordEach [] X.env)).all (λx=>x.1.isSome)&&decide ((v::vs).length+([]:List Keyword).length+(if ([]:List Keyword).isEmpty then 0 else 1)<30))=true:=by
    rw [zcE st]
    simp only [List.length_nil,List.isEmpty_nil,if_true,Bool.true_and,Bool.and_eq_true]
    exact ⟨rfl,decide_eq_true (by omega)⟩
   cases m with
   | append=>exact zj6 (okE o C ov X h3 G) (okEs es C _ X h4 G) (eq_of_beq h1) (zbJ h2) few h5 (zam (st v (by simp))) (zbn λy hy=>st y (by simp [hy]))
   | extend=>exact zlq (okE o C ov X h3 G) (okEs es C _ X h4 G) (eq_of_beq h1) (zbJ h2) few h5 (zam (st v (by simp))) (zbn λy hy=>st y (by simp [hy]))
   | pop=>exact noT h0.1
  ·rename_i ov name apos cpos
   simp only [Bool.and_eq_true] at h
   obtain ⟨⟨⟨⟨⟨h0,h1⟩,h2⟩,h3⟩,h4⟩,h5⟩:=h
   cases es with
   | cons _ _=>simp [chkEs] at h4
   | nil=>
    cases m with
    | append=>exact noT h0.1
    | extend=>exact noT h0.1
    | pop=>exact zrH (okE o C ov X h3 G) (eq_of_beq h1) (zbJ h2) h5
  ·cases h
 | .glo d,C,e,X,h,G=>by
  unfold chkE at h
  split at h
  ·rename_i x pos
   simp only [Bool.and_eq_true] at h
   obtain ⟨⟨h1,h2⟩,h3⟩:=h
   cases hd:C.globs.lookup x with
   | none=>rw [hd] at h1;cases h1
   | some d'=>
    rw [hd] at h1
    have e:=D.same_eq _ _ h1
    subst e
    obtain ⟨u,v,e1,e2,e3⟩:=G.glob x d hd
    exact zgs (zkl (zc6 G h2) e1 e2 (zcI h3).1) e3
  ·cases h
 | .isi t a,C,e,X,h,G=>by
  unfold chkE at h
  split at h
  ·split at h
   ·rename_i x p v pos w y p2
    simp only [Bool.and_eq_true] at h
    obtain ⟨⟨⟨⟨⟨h1,h2⟩,h3⟩,h4⟩,h5⟩,h6⟩:=h
    have hx:=eq_of_beq h1
    subst hx
    have hy:=eq_of_beq h5
    have hb:y∈zcQ:=by rw [hy];cases t<;>decide
    exact zqM (zc6 G h2) (G.blt _ (by decide)) (okE a C v X h4 G) hy (zc6 G h6) (G.blt _ hb) (by rw [zam h3];rfl)
   ·cases h
  ·cases h
 | .lm m o a,C,e,X,h,G=>by
  unfold chkE at h
  split at h
  ·rename_i ov name apos v cpos
   simp only [Bool.and_eq_true] at h
   obtain ⟨⟨⟨⟨⟨h1,h2⟩,h3⟩,h4⟩,h5⟩,h6⟩:=h
   have st:∀ y∈[v],zar y=true:=by intro y hy;simp at hy;rw [hy];exact h4
   have few:((backTo cpos (starEach [v] X.env)).all (λx=>!x.1)&&(backToKw cpos (keywordEach [] X.env)).all (λx=>x.1.isSome)
     && decide ([v].length+([]:List Keyword).length+(if ([]:List Keyword).isEmpty then 0 else 1)<30))=true:=by
    rw [zcE st]
    simp only [List.length_nil,List.isEmpty_nil,if_true,Bool.true_and,Bool.and_eq_true]
    exact ⟨rfl,decide_eq_true (by simp)⟩
   exact zte G.room.units (okE o C ov X h3 G) (okE a C v X h5 G) (eq_of_beq h1) (ze4 h2) few h6 (zam h4) rfl
  ·cases h
 | .fld o f,C,e,X,h,G=>by
  unfold chkE at h
  split at h
  ·simp only [Bool.and_eq_true] at h
   obtain ⟨⟨h1,h2⟩,h3⟩:=h
   have hx:=eq_of_beq h1
   subst hx
   exact zr4 (okE o C _ X h3 G) (ze4 h2)
  ·cases h
 | .make c f es,C,e,X,h,G=>by
  unfold chkE at h
  split at h
  ·rename_i x p v vs pos
   simp only [Bool.and_eq_true,List.any_eq_true] at h
   obtain ⟨⟨⟨⟨h1,i,hi,h2,h2'⟩,h3⟩,h4⟩,h5⟩:=h
   have hx:=eq_of_beq h1
   subst hx
   have hn:=eq_of_beq h2
   have hf:=eq_of_beq h2'
   obtain ⟨np,M⟩:=G.makes i hi
   rw [hn,hf] at M
   have st:=zaV h5
   exact zp4 M G.room1 (zc6 G h3) (okEs es C _ X h5 G) (zcI h4).1 (zam (st v (by simp))) (zbn λy hy=>st y (by simp [hy]))
  ·cases h
 | .mc c m f o es,C,e,X,h,G=>by
  unfold chkE at h
  split at h
  ·rename_i ov name apos v vs cpos
   simp only [Bool.and_eq_true,List.any_eq_true] at h
   obtain ⟨⟨⟨⟨⟨⟨h1,i,hi,h2,h2'⟩,h3⟩,h4⟩,h5⟩,h6⟩,h7⟩:=h
   have hx:=eq_of_beq h1
   subst hx
   have hn:=eq_of_beq h2
   obtain ⟨np,M⟩:=G.meths i hi _ (List.contains_iff_mem.mp h2')
   rw [hn] at M
   have st:=zaV h5
   have h7:(v::vs).length<20:=of_decide_eq_true h7
   have few:((backTo cpos (starEach (v::vs) X.env)).all (λx=>!x.1)&&(backToKw cpos (keywordEach [] X.env)).all (λx=>x.1.isSome)&&decide ((v::vs).length+([]:List Keyword).length+(if ([]:List Keyword).isEmpty then 0 else 1)<30))=true:=by
    rw [zcE st]
    simp only [List.length_nil,List.isEmpty_nil,if_true,Bool.true_and,Bool.and_eq_true]
    exact ⟨rfl,decide_eq_true (by omega)⟩
   exact zt7 M G.room (okE o C _ X h4 G) (okEs es C _ X h5 G) (zam (st v (by simp))) (zbn λy hy=>st y (by simp [hy])) (zf1 (zbJ h3) few h6)
  ·rename_i ov name apos cpos
   simp only [Bool.and_eq_true,List.any_eq_true] at h
   obtain ⟨⟨⟨⟨⟨h1,i,hi,h2,h2'⟩,h3⟩,h4⟩,h5⟩,h6⟩:=h
   have hx:=eq_of_beq h1
   subst hx
   have hn:=eq_of_beq h2
   obtain ⟨np,M⟩:=G.meths i hi _ (List.contains_iff_mem.mp h2')
   rw [hn] at M
   cases es with
   | cons _ _=>simp [chkEs] at h5
   | nil=>exact zsn M G.room (okE o C _ X h4 G) (zf1 (zbJ h3) (by rfl) h6)
  ·cases h
 | .lstO tg it cs el,C,e,X,h,G=>by
  unfold chkE at h
  split at h
  ·rename_i elt g sc pos
   obtain ⟨gt,gi,gifs,ga⟩:=g
   simp only [Bool.and_eq_true,Bool.not_eq_true'] at h
   obtain ⟨⟨⟨⟨⟨⟨h1,h2⟩,h3⟩,h4,h4'⟩,h5⟩,h6⟩,h7⟩:=h
   have ea:ga=0:=by simpa using h1
   subst ea
   refine zbY.io G.nox G.calm ⟨elt,gt,gi,gifs,sc,pos,(blkC C sc (za4 tg gt)).N,rfl,zmp G h3,okI it C gi X h5 G gt h4',λcl pins s₂ H₂ Cc fp=>?_,zhv h2⟩
   have G':=G.blk h3 cl pins s₂ H₂ Cc fp
   exact ⟨zpU G' tg gt h4,okTs cs _ gifs _ h6 G',okE el _ elt _ h7 G'⟩
  ·cases h
 | .oix a i,C,e,X,h,G=>by
  unfold chkE at h
  split at h
  ·simp only [Bool.and_eq_true,Bool.not_eq_true'] at h
   exact zrF (okE a C _ X h.1.1 G) (okE i C _ X h.1.2 G) (zdu h.2)
  ·cases h
 | .olen a,C,e,X,h,G=>by
  unfold chkE at h
  split at h
  ·rename_i x p v pos
   simp only [Bool.and_eq_true] at h
   have hx:=eq_of_beq h.1.1.1
   subst hx
   exact zpC (zc6 G h.1.1.2) (G.blt _ (by decide)) (okE a C v X h.2 G) (zam h.1.2)
  ·cases h
 | .dnew,C,e,X,h,G=>by
  unfold chkE at h
  split at h
  ·exact zpf
  ·cases h
 | .dof a,C,e,X,h,G=>by
  unfold chkE at h
  split at h
  ·rename_i x p v pos
   simp only [Bool.and_eq_true] at h
   have hx:=eq_of_beq h.1.1.1
   subst hx
   exact zs2 G.calm G.room.units (zc6 G h.1.1.2) (G.blt _ (by decide)) (okE a C v X h.2 G) (zam h.1.2)
  ·cases h
 | .din neg k d,C,e,X,h,G=>by
  unfold chkE at h
  split at h
  ·simp only [Bool.and_eq_true,Bool.not_eq_true'] at h
   exact zsw G.room.units (zrm h.1.1.1) (okE k C _ X h.1.1.2 G) (okE d C _ X h.1.2 G) (zeV h.2)
  ·cases h
 | .dgt d k,C,e,X,h,G=>by
  unfold chkE at h
  split at h
  ·rename_i ov name apos v cpos
   simp only [Bool.and_eq_true] at h
   obtain ⟨⟨⟨⟨⟨h1,h2⟩,h3⟩,h4⟩,h5⟩,h6⟩:=h
   have st:∀ y∈[v],zar y=true:=by intro y hy;simp at hy;rw [hy];exact h4
   have few:((backTo cpos (starEach [v] X.env)).all (λx=>!x.1)&&(backToKw cpos (keywordEach [] X.env)).all (λx=>x.1.isSome)
     && decide ([v].length+([]:List Keyword).length+(if ([]:List Keyword).isEmpty then 0 else 1)<30))=true:=by
    rw [zcE st]
    simp only [List.length_nil,List.isEmpty_nil,if_true,Bool.true_and,Bool.and_eq_true]
    exact ⟨rfl,decide_eq_true (by simp)⟩
   exact zsJ G.room.units (okE d C ov X h3 G) (okE k C v X h5 G) (eq_of_beq h1) (ze4 h2) few h6 (zam h4) rfl
  ·cases h
 | .ddx d k,C,e,X,h,G=>by
  unfold chkE at h
  split at h
  ·simp only [Bool.and_eq_true,Bool.not_eq_true'] at h
   exact zsW G.room.units (okE d C _ X h.1.1 G) (okE k C _ X h.1.2 G) (zdu h.2)
  ·cases h
 | .gdx g kvs k,C,e,X,h,G=>by
  unfold chkE at h
  split at h
  ·split at h
   ·rename_i y pos z x p
    simp only [Bool.and_eq_true,Bool.not_eq_true'] at h
    obtain ⟨⟨⟨⟨⟨h1,h2⟩,h3⟩,h4⟩,h5⟩,h6⟩:=h
    cases hp:C.gds.lookup x with
    | none=>rw [hp] at h2;cases h2
    | some kvs'=>
     rw [hp] at h2
     have hk:=zgu h2
     subst hk
     exact zsS (G.gdic x _ hp) (zc6 G h3) (zcI h4).1 (okE k C y X h5 G) (zdu h6)
   ·cases h
  ·cases h
 | .stuck,C,e,X,h,G=>znS
theorem okEs {Γ:Calls} {n:Nat}:∀ (as:List E) (C:Cst) (es:List Expr) (X:Cx),chkEs as C es=true->Good Γ n C X->IA X es (evs Γ as)
 | [],C,es,X,h,G=>by
  cases es with
  | nil=>exact zsj
  | cons _ _=>simp [chkEs] at h
 | a::as,C,es,X,h,G=>by
  cases es with
  | nil=>simp [chkEs] at h
  | cons e es=>
   simp only [chkEs,Bool.and_eq_true] at h
   exact zpY (okE a C e X h.1.2 G) (okEs as C es X h.2 G) (zam h.1.1)
theorem okT {Γ:Calls} {n:Nat}:∀ (t:T) (C:Cst) (e:Expr) (X:Cx),chkT t C e=true->Good Γ n C X->IT' X e (tv Γ t)/\(zoA e=true->PW X e (tTv X.K (tv Γ t)))
 | .val (.cmp o a b),C,e,X,h,G=>by
  unfold chkT at h
  rw [Bool.and_eq_true] at h
  obtain ⟨h,h'⟩:=h
  unfold chkE at h
  split at h
  ·simp only [Bool.and_eq_true,Bool.not_eq_true'] at h
   exact ⟨zj9 (m:=mD (cop o)) (OpD.opI (coBe G.room.units h.1.1.1)) (okE a C _ X h.1.1.2 G) (okE b C _ X h.1.2 G) (zeV h.2) (λx y h0 r h1 e=>ztH e),λz=>by first | exact noT z | exact noF z⟩
  ·cases h
 | .val (.con d),C,e,X,h,G=>zag (okE (.con d) C e X (zan h) G) h (by intro l ops rs pos z;subst z;exact noT (zan h))
 | .val (.var i),C,e,X,h,G=>zag (okE (.var i) C e X (zan h) G) h (by intro l ops rs pos z;subst z;exact noT (zan h))
 | .val (.bin o a b),C,e,X,h,G=>zag (okE (.bin o a b) C e X (zan h) G) h (by intro l ops rs pos z;subst z;exact noT (zan h))
 | .val (.neg a),C,e,X,h,G=>zag (okE (.neg a) C e X (zan h) G) h (by intro l ops rs pos z;subst z;exact noT (zan h))
 | .val (.and a b),C,e,X,h,G=>zag (okE (.and a b) C e X (zan h) G) h (by intro l ops rs pos z;subst z;exact noT (zan h))
 | .val (.or a b),C,e,X,h,G=>zag (okE (.or a b) C e X (zan h) G) h (by intro l ops rs pos z;subst z;exact noT (zan h))
 | .val (.not a),C,e,X,h,G=>zag (okE (.not a) C e X (zan h) G) h (by intro l ops rs pos z;subst z;exact noT (zan h))
 | .val (.ife c a b),C,e,X,h,G=>zag (okE (.ife c a b) C e X (zan h) G) h (by intro l ops rs pos z;subst z;exact noT (zan h))
 | .val (.tup es),C,e,X,h,G=>zag (okE (.tup es) C e X (zan h) G) h (by intro l ops rs pos z;subst z;exact noT (zan h))
 | .val (.idx a i),C,e,X,h,G=>zag (okE (.idx a i) C e X (zan h) G) h (by intro l ops rs pos z;subst z;exact noT (zan h))
 | .val (.sli a lo hi),C,e,X,h,G=>zag (okE (.sli a lo hi) C e X (zan h) G) h (by intro l ops rs pos z;subst z;exact noT (zan h))
 | .val (.call f es),C,e,X,h,G=>zag (okE (.call f es) C e X (zan h) G) h (by intro l ops rs pos z;subst z;exact noT (zan h))
 | .val (.bi b es),C,e,X,h,G=>zag (okE (.bi b es) C e X (zan h) G) h (by intro l ops rs pos z;subst z;exact noT (zan h))
 | .val (.lst m l),C,e,X,h,G=>zag (okE (.lst m l) C e X (zan h) G) h (by intro _ ops rs pos z;subst z;cases l<;>simp [chkT,chkE,chkL] at h)
 | .val (.me m o es),C,e,X,h,G=>zag (okE (.me m o es) C e X (zan h) G) h (by intro l ops rs pos z;subst z;exact noT (zan h))
 | .val (.glo d),C,e,X,h,G=>zag (okE (.glo d) C e X (zan h) G) h (by intro l ops rs pos z;subst z;exact noT (zan h))
 | .val (.isi t a),C,e,X,h,G=>zag (okE (.isi t a) C e X (zan h) G) h (by intro l ops rs pos z;subst z;exact noT (zan h))
 | .val (.lm m o a),C,e,X,h,G=>zag (okE (.lm m o a) C e X (zan h) G) h (by intro l ops rs pos z;subst z;exact noT (zan h))
 | .val (.fld o f),C,e,X,h,G=>zag (okE (.fld o f) C e X (zan h) G) h (by intro l ops rs pos z;subst z;exact noT (zan h))
 | .val (.make c f es),C,e,X,h,G=>zag (okE (.make c f es) C e X (zan h) G) h (by intro l ops rs pos z;subst z;exact noT (zan h))
 | .val (.mc c m f o es),C,e,X,h,G=>zag (okE (.mc c m f o es) C e X (zan h) G) h (by intro l ops rs pos z;subst z;exact noT (zan h))
 | .val (.lstO tg it cs el),C,e,X,h,G=>zag (okE (.lstO tg it cs el) C e X (zan h) G) h (by intro l ops rs pos z;subst z;exact noT (zan h))
 | .val (.oix a i),C,e,X,h,G=>zag (okE (.oix a i) C e X (zan h) G) h (by intro l ops rs pos z;subst z;exact noT (zan h))
 | .val (.olen a),C,e,X,h,G=>zag (okE (.olen a) C e X (zan h) G) h (by intro l ops rs pos z;subst z;exact noT (zan h))
 | .val (.din neg k d),C,e,X,h,G=>by
  unfold chkT at h
  rw [Bool.and_eq_true] at h
  obtain ⟨h,h'⟩:=h
  unfold chkE at h
  split at h
  ·simp only [Bool.and_eq_true,Bool.not_eq_true'] at h
   exact ⟨zsh G.room.units (zrm h.1.1.1) (okE k C _ X h.1.1.2 G) (okE d C _ X h.1.2 G) (zeV h.2),λz=>by first | exact noT z | exact noF z⟩
  ·cases h
 | .val (.dnew),C,e,X,h,G=>zag (okE (.dnew) C e X (zan h) G) h (by intro l ops rs pos z;subst z;exact noT (zan h))
 | .val (.dof a),C,e,X,h,G=>zag (okE (.dof a) C e X (zan h) G) h (by intro l ops rs pos z;subst z;exact noT (zan h))
 | .val (.dgt d k),C,e,X,h,G=>zag (okE (.dgt d k) C e X (zan h) G) h (by intro l ops rs pos z;subst z;exact noT (zan h))
 | .val (.ddx d k),C,e,X,h,G=>zag (okE (.ddx d k) C e X (zan h) G) h (by intro l ops rs pos z;subst z;exact noT (zan h))
 | .val (.gdx g kvs k),C,e,X,h,G=>zag (okE (.gdx g kvs k) C e X (zan h) G) h (by intro l ops rs pos z;subst z;exact noT (zan h))
 | .val .stuck,C,e,X,h,G=>by
  refine ⟨λpins s σ H Q I q=>?_,λ_ whole pins s σ H Q I q=>?_⟩
  ·obtain ⟨μ,h,env,R0,re,t,h',e,k⟩:=q
   cases e
  ·obtain ⟨μ,h,env,R0,re,t,h',e,k⟩:=q
   cases e
 | .and a b,C,e,X,h,G=>by
  unfold chkT at h
  split at h
  ·rename_i v w rest pos
   simp only [Bool.and_eq_true] at h
   have key:PW X (.BoolOp .And (v::w::rest) pos) (tTv X.K (tv Γ (.and a b))):=by
    cases rest with
    | nil=>exact zor (tb:=λ_ _ _=>True) (okT a C v X h.1 G).1 (zo0 (okT b C w X h.2 G).1)
    | cons y ys=>exact zor (tb:=λ_ _ _=>True) (okT a C v X h.1 G).1 ((okT b C _ X h.2 G).2 rfl)
   exact ⟨key.pt,λ_=>key⟩
  ·cases h
 | .or a b,C,e,X,h,G=>by
  unfold chkT at h
  split at h
  ·rename_i v w rest pos
   simp only [Bool.and_eq_true] at h
   have key:PW X (.BoolOp .Or (v::w::rest) pos) (tTv X.K (tv Γ (.or a b))):=by
    cases rest with
    | nil=>exact zq2 (okT a C v X h.1 G).1 (zr5 (okT b C w X h.2 G).1)
    | cons y ys=>exact zq2 (okT a C v X h.1 G).1 ((okT b C _ X h.2 G).2 rfl)
   exact ⟨key.pt,λ_=>key⟩
  ·cases h
 | .not a,C,e,X,h,G=>by
  unfold chkT at h
  split at h
  ·exact ⟨zsG (okT a C _ X h G).1,λz=>by first | exact noT z | exact noF z⟩
  ·cases h
theorem okTs {Γ:Calls} {n:Nat}:∀ (ts:List T) (C:Cst) (es:List Expr) (X:Cx),chkTs ts C es=true->Good Γ n C X->PTs X es (tTv X.K (tvs Γ ts))
 | [],C,es,X,h,G=>by
  cases es with
  | nil=>
   intro pins s σ H Q I ⟨μ,h0,env,R0,re,t,h',e,k⟩
   simp only [tvs,zab] at e
   obtain ⟨rfl,rfl⟩:=e
   exact zp3 pins s σ H Q I (k μ H true Stp.refl R0 rfl)
  | cons _ _=>simp [chkTs] at h
 | t :: ts,C,es,X,h,G=>by
  cases es with
  | nil=>simp [chkTs] at h
  | cons e es=>
   simp only [chkTs,Bool.and_eq_true] at h
   obtain ⟨⟨h1,h2⟩,h3⟩:=h
   cases es with
   | cons _ _=>simp at h3
   | nil=>
    cases ts with
    | cons _ _=>simp [chkTs] at h2
    | nil=>
     intro pins s σ H Q I ⟨μ,h0,env,R0,re,t',h',e,k⟩
     simp only [tvs,zaa] at e
     obtain ⟨t1,h1',e1,e2⟩:=e
     refine zoW (okT t C _ X h1 G).1 pins s σ H Q I ⟨μ,h0,env,R0,re,t1,h1',e1,λμ1 H1 b s1 R1 hb=>?_⟩
     subst hb
     cases t1 with
     | true=>
      simp only [if_true,zab] at e2
      obtain ⟨rfl,rfl⟩:=e2
      exact k μ1 H1 _ s1 R1 rfl
     | false=>
      simp only [Bool.false_eq_true,if_false,zab] at e2
      obtain ⟨rfl,rfl⟩:=e2
      exact k μ1 H1 _ s1 R1 rfl
theorem okL {Γ:Calls} {n:Nat}:∀ (l:L) (C:Cst) (e:Expr) (X:Cx),chkL l C e=true->Good Γ n C X->match l with
  | .disp es=>IL X e (evL Γ (.disp es))
  | .comp tg it cs el=>zbY Γ X tg it cs el e
  | .rev a=>IL X e (evL Γ (.rev a))
  | .sdi a=>IL X e (evL Γ (.sdi a))
 | .disp es,C,e,X,h,G=>by
  unfold chkL at h
  split at h
  ·simp only [Bool.and_eq_true] at h
   exact zqs (okEs es C _ X h.1 G) (of_decide_eq_true h.2) (λσ h0 rs h' e=>by rw [zfh e];exact zcp h.1)
  ·cases h
 | .comp tg it cs el,C,e,X,h,G=>by
  unfold chkL at h
  split at h
  ·rename_i elt g sc pos
   obtain ⟨gt,gi,gifs,ga⟩:=g
   simp only [Bool.and_eq_true,Bool.not_eq_true'] at h
   obtain ⟨⟨⟨⟨⟨⟨h1,h2⟩,h3⟩,h4,h4'⟩,h5⟩,h6⟩,h7⟩:=h
   have ea:ga=0:=by simpa using h1
   subst ea
   refine ⟨elt,gt,gi,gifs,sc,pos,(blkC C sc (za4 tg gt)).N,rfl,zmp G h3,okI it C gi X h5 G gt h4',λcl pins s₂ H₂ Cc fp=>?_,zhv h2⟩
   have G':=G.blk h3 cl pins s₂ H₂ Cc fp
   exact ⟨zpU G' tg gt h4,okTs cs _ gifs _ h6 G',okE el _ elt _ h7 G'⟩
  ·cases h
 | .rev a,C,e,X,h,G=>by
  unfold chkL at h
  split at h
  ·split at h
   ·split at h
    ·split at h
     ·simp only [Bool.and_eq_true] at h
      have hi:=eq_of_beq h.1
      subst hi
      exact zsA (okE a C _ X h.2 G) (PE.imp (zsV zoG zoy) λσ H Q q=>⟨1,rfl,q⟩)
     ·cases h
    ·cases h
   ·cases h
  ·cases h
 | .sdi a,C,e,X,h,G=>by
  unfold chkL at h
  split at h
  ·split at h
   ·simp only [Bool.and_eq_true] at h
    obtain ⟨⟨⟨⟨⟨h1,h2⟩,h3⟩,h4⟩,h5⟩,h6⟩:=h
    have hx:=eq_of_beq h1
    subst hx
    exact zsR G.room.units G.calm (zc6 G h2) (G.blt _ (by decide)) (okE a C _ X h5 G) (eq_of_beq h3) (ze4 h4) h6 rfl
   ·cases h
  ·cases h
theorem okI {Γ:Calls} {n:Nat}:∀ (it:I) (C:Cst) (e:Expr) (X:Cx),chkI it C e=true->Good Γ n C X->∀ tg,enuB it tg=true->PI X tg e (tI X.K (evI Γ it))
 | .seq a,C,e,X,h,G,tg,_=>zr1 (okE a C e X (by simpa only [chkI] using h) G)
 | .dic a,C,e,X,h,G,tg,_=>zq6 (okE a C e X (by simpa only [chkI] using h) G)
 | .enu a,C,e,X,h,G,tg,ht=>by
  unfold chkI at h
  split at h
  ·rename_i x p v pos
   simp only [Bool.and_eq_true] at h
   obtain ⟨⟨⟨h1,h2⟩,h3⟩,h4⟩:=h
   have hx:=eq_of_beq h1
   subst hx
   cases tg with
   | Tuple es k tp=>exact zsZ (zc6 G h2) (G.blt _ (by decide)) (okE a C v X h4 G) (zam h3)
   | _=>first | exact noT ht | exact noF ht
  ·cases h
 | .rng a,C,e,X,h,G,tg,_=>by
  unfold chkI at h
  split at h
  ·rename_i x p v pos
   simp only [Bool.and_eq_true] at h
   have hx:=eq_of_beq h.1.1.1
   subst hx
   exact zrq (zc6 G h.1.1.2) (G.blt _ (by decide)) (okE a C v X h.2 G) (zam h.1.2)
  ·cases h
 | .rng2 a b,C,e,X,h,G,tg,_=>by
  unfold chkI at h
  split at h
  ·rename_i x p v w pos
   simp only [Bool.and_eq_true] at h
   obtain ⟨⟨⟨⟨⟨h1,h2⟩,h3⟩,h4⟩,h5⟩,h6⟩:=h
   have hx:=eq_of_beq h1
   subst hx
   exact zqB (zc6 G h2) (G.blt _ (by decide)) (okE a C v X h5 G) (okE b C w X h6 G) (by rw [zam h3,zam h4];rfl) (zam h4)
  ·cases h
end
theorem znJ {C:Cst} {a:E} {x1:Expr} {x2:_} {x3:_} {x4:_} (h:chkE a C (.SetComp x1 x2 x3 x4)=true):a=.stuck:=by
 cases a with
 | stuck=>rfl
 | lst m l=>cases l<;>exact noT h
 | _=>exact noT h
theorem zmF {C:Cst} {a:E} {x0 x1:Expr} {x2:_} {x3:_} {x4:_} (h:chkE a C (.DictComp x0 x1 x2 x3 x4)=true):a=.stuck:=by
 cases a with
 | stuck=>rfl
 | lst m l=>cases l<;>exact noT h
 | _=>exact noT h
theorem znT {C:Cst} {a:E} {x1:Expr} {x2:_} {x3:_} {x4:_} (h:chkE a C (.ListComp x1 x2 x3 x4)=true) (hO:zmi a=false):a=.stuck\/∃ m tg it cs el,a=.lst m (.comp tg it cs el):=by
 cases a with
 | stuck=>exact .inl rfl
 | lst m l=>
  cases l with
  | comp tg it cs el=>exact .inr ⟨m,tg,it,cs,el,rfl⟩
  | _=>exact noT h
 | lstO=>exact noF hO
 | _=>exact noT h
theorem znV {Γ:Calls} {n:Nat} {C:Cst} {X:Cx} (G:Good Γ n C X) {tg:Tg} {a:E} {t v:Expr} {pos:Pos} (h1:zb6 C tg t=true) (h3:chkE a C v=true) (h2:zar t=true) (h4:(zc3 t&&zc3 v)=false) (hc:zeh v=true) (hn:zdK t=true) (hO:zmi a=false) :
  PS X (.Assign [t] v pos) (tS X.K λσ=>bnd (ev Γ a σ) λr=>bnd (zaN tg r σ) λσ'=>ok (.nx,σ')):=by
 have g:=okTg G tg t h1
 cases t with
 | Name y py=>
  cases tg with
  | tup ts=>exact noT h1
  | name iy=>
   cases v with
   | ListComp elt gens sc cpos=>
    have hb:∃ b,swapsWith (.ListComp elt gens sc cpos) (some (.Name y py)) pos.line X.env=pure b:=⟨_,rfl⟩
    obtain ⟨b,hb⟩:=hb
    cases b with
    | false=>exact zoN (okE a C _ X h3 G) g hb (zdH h4) (zhT h2)
    | true=>
     rcases znT h3 hO with rfl | ⟨m,tg2,it,cs,el,rfl⟩
     ·exact λpins s σ H D I ⟨μ,h,env,R0,re,fl,env',h',e,k⟩=>by cases e
     ·obtain ⟨elt',gt,gi,gifs,sc',pos',N',e,ok,hi,hB,hs⟩:=okL (Γ:=Γ) (n:=n) (.comp tg2 it cs el) C _ X (by simpa only [chkE] using h3) G
      cases e
      simp only [zb6,Bool.and_eq_true] at h1
      obtain ⟨l1,l2⟩:=zod G h1.2
      refine PS.imp (zhs G.nox G.calm ok hi hB hs hb (zlh G.nd (by rw [G.N];exact eq_of_beq h1.1) l1 l2)) λD σ H q=>?_
      have q1:=zne q
      have q2:=znx (fl:=evL Γ (.comp tg2 it cs el)) (m:=m) q1
      exact zbY.read (q2.imp λv H1 z=>zjr z)
   | SetComp _ _ _ _=>
    obtain rfl:=znJ h3
    exact λpins s σ H D I ⟨μ,h,env,R0,re,fl,env',h',e,k⟩=>by cases e
   | DictComp _ _ _ _ _=>
    obtain rfl:=zmF h3
    exact λpins s σ H D I ⟨μ,h,env,R0,re,fl,env',h',e,k⟩=>by cases e
   | _=>first | exact noT hc | exact noF hc
 | _=>first | exact noT hn | exact noF hn
theorem swA {v ov:Expr} {name:Str} {p2:Pos} {l:Nat} {env:PySem.Env}:swapsWith v (some (.Attribute ov name p2)) l env=pure false:=by
 cases v<;>rfl
mutual
theorem okS {Γ:Calls} {n:Nat}:∀ (s:S) (C:Cst) (st:Stmt) (X:Cx),chkS s C st=true->Good Γ n C X->PS X st (tS X.K (ex Γ s))
 | .asg tg a,C,st,X,h,G=>by
  unfold chkS at h
  split at h
  ·rename_i t v pos
   simp only [Bool.and_eq_true,Bool.not_eq_true',Bool.or_eq_true] at h
   obtain ⟨⟨⟨⟨h1,h2⟩,h3⟩,h4⟩,h5⟩:=h
   rcases h5 with h5 | h5
   ·exact zoN (okE a C v X h3 G) (okTg G tg t h1) (zln h5) (zdH h4) (zhT h2)
   ·exact znV G h1 h3 h2 h4 h5.1.1 h5.1.2 h5.2
  ·cases h
 | .setN c o f a,C,st,X,h,G=>by
  unfold chkS at h
  split at h
  ·split at h
   ·simp only [Bool.and_eq_true,List.any_eq_true] at h
    obtain ⟨⟨⟨h1,i,hi,h2,h2'⟩,h3⟩,h4⟩:=h
    have hx:=eq_of_beq h1
    subst hx
    have hn:=eq_of_beq h2
    exact zpG (okE a C _ X h3 G) (okE o C _ X h4 G) (swA) λA hA=>G.attrs i hi _ (List.contains_iff_mem.mp h2') A (by rw [hn];exact hA)
   ·cases h
  ·cases h
 | .exp a,C,st,X,h,G=>by
  unfold chkS at h
  split at h
  ·simp only [Bool.and_eq_true,Bool.not_eq_true'] at h
   exact zsa (okE a C _ X h.1 G) (znO h.2)
  ·cases h
 | .ife c a b,C,st,X,h,G=>by
  unfold chkS at h
  split at h
  ·simp only [Bool.and_eq_true] at h
   exact zs7 (okT c C _ X h.1.1 G).1 (okSs a C _ X h.1.2 G) (okSs b C _ X h.2 G)
  ·cases h
 | .for tg it body,C,st,X,h,G=>by
  unfold chkS at h
  split at h
  ·simp only [Bool.and_eq_true,Bool.not_eq_true'] at h
   obtain ⟨⟨⟨⟨h1,h1'⟩,h2⟩,h3⟩,h4⟩:=h
   exact zrj (by rw [G.nox];exact PassesOwn.never) G.calm (okI it C _ X h2 G _ h1') (zpU G tg _ h1) (okSs body C _ X h3 G) (zhv h4) (λσ h w h' e=>zhP e)
  ·cases h
 | .ret a,C,st,X,h,G=>by
  unfold chkS at h
  split at h
  ·exact zra (okE a C _ X h G)
  ·cases h
 | .setD o i a,C,st,X,h,G=>by
  unfold chkS at h
  split at h
  ·split at h
   ·simp only [Bool.and_eq_true,Bool.not_eq_true'] at h
    obtain ⟨⟨⟨⟨h1,h2⟩,h3⟩,h4⟩,h5⟩:=h
    exact zqw G.room.units (okE a C _ X h1 G) (okE o C _ X h2 G) (okE i C _ X h3 G) (zpv h5) (zln h4) (zdH (by rfl)) (zhT rfl)
   ·cases h
  ·cases h
 | .stuck,C,st,X,h,G=>znN
theorem okSs {Γ:Calls} {n:Nat}:∀ (ss:List S) (C:Cst) (sts:List Stmt) (X:Cx),chkSs ss C sts=true->Good Γ n C X->PSs X sts (tS X.K (exs Γ ss))
 | [],C,sts,X,h,G=>by
  cases sts with
  | nil=>exact zqx
  | cons _ _=>simp [chkSs] at h
 | s::ss,C,sts,X,h,G=>by
  cases sts with
  | nil=>simp [chkSs] at h
  | cons st sts=>
   simp only [chkSs,Bool.and_eq_true] at h
   exact zmM (okS s C st X h.1 G) (okSs ss C sts X h.2 G)
end
end IT
namespace IT
open PySem PySem.Spec L2
section
variable {K:PySem.W.Frag} {μ μ':List Addr} {h h':Sto} {H H':Hp}
theorem RepDs.less (i:∀ a,A' a->A a) (q:RepDs K A H x v):RepDs K A' H x v:=RepDs.mono (λ_ _ z=>z) (λ_ _ n z=>⟨λl=>n (i _ l),z⟩) x v q
theorem RepD.less (i:∀ a,A' a->A a) (q:RepD K A H x v):RepD K A' H x v:=RepD.mono (λ_ _ z=>z) (λ_ _ n z=>⟨λl=>n (i _ l),z⟩) x v q
theorem zdt (st:Stp μ h H μ' h' H') (R0:Rep K μ h H):μ'.take h.length=μ:=by
 have hl:=R0.len
 refine List.ext_getElem? λi=>?_
 by_cases hi:i<μ.length
 ·rw [List.getElem?_take_of_lt (by omega),st.pre i μ[i] (List.getElem?_eq_getElem hi),List.getElem?_eq_getElem hi]
 ·rw [List.getElem?_eq_none (by simp;omega),List.getElem?_eq_none (by omega)]
theorem zgC:∀ a,Live (μ'.take n) (h'.take n) a->Live μ' h' a:=by
 rintro a ⟨i,o,e1,e2,e3⟩
 have hi:i<n:=by
  have:=(List.getElem?_eq_some_iff.mp e1).1
  simp at this
  omega
 rw [List.getElem?_take_of_lt hi] at e1 e2
 exact ⟨i,o,e1,e2,e3⟩
noncomputable def R.locs:R->List Nat
 | .d _=>[]
 | .loc l=>[l]
noncomputable def Ob.locs:Ob->List Nat
 | .lst _=>[]
 | .fro _=>[]
 | .ols ls=>ls
 | .dic _=>[]
 | .dfr _=>[]
 | .ins _ fs=>(fs.map λp=>R.locs p.2).flatten
theorem zcX {α β:Type} {F:α->β->Prop} {xs:List α} {ys:List β} {x:α} (q:Paired F xs ys) (h:x∈xs):∃ y,F x y:=by
 induction q with
 | nil=>cases h
 | cons r t ih=>
  cases h with
  | head=>exact ⟨_,r⟩
  | tail _ h=>exact ih h
theorem zbI {α β:Type} {F G:α->β->Prop} {xs:List α} {ys:List β} (h:Paired F xs ys) (f:∀ x∈xs,∀ y,F x y->G x y):Paired G xs ys:=by
 induction h with
 | nil=>exact .nil
 | cons r t ih=>exact .cons (f _ (.head _) _ r) (ih λx hx=>f x (.tail _ hx))
theorem zmh {a:Addr} {o:Ob} (q:RepO K μ h H a o):∀ l∈o.locs,l<μ.length:=by
 intro l hl
 cases o with
 | lst _=>simp [Ob.locs] at hl
 | fro _=>simp [Ob.locs] at hl
 | dic _=>simp [Ob.locs] at hl
 | dfr _=>simp [Ob.locs] at hl
 | ols ls=>
  obtain ⟨vs,_,z⟩:=q
  obtain ⟨v,b,eb,_⟩:=zcX z hl
  exact (List.getElem?_eq_some_iff.mp eb).1
 | ins c fs=>
  obtain ⟨C,dx,fs',_,_,z⟩:=q
  simp only [Ob.locs,List.mem_flatten,List.mem_map] at hl
  obtain ⟨_,⟨p,hp,rfl⟩,hl⟩:=hl
  obtain ⟨q',_,qr⟩:=zcX z hp
  cases hr:p.2 with
  | d x=>rw [hr] at hl;simp [R.locs] at hl
  | loc k=>
   rw [hr] at hl qr
   simp [R.locs] at hl
   subst hl
   obtain ⟨b,eb,_⟩:=qr
   exact (List.getElem?_eq_some_iff.mp eb).1
theorem zha {μ2:List Addr} {h2:Sto} {a:Addr} (q:RepO K μ' h' H' a o) (lv:∀ b,Live μ2 h2 b->Live μ' h' b) (cl:∀ l∈o.locs,∀ b,μ'[l]?=some b->μ2[l]?=some b):RepO K μ2 h2 H' a o:=by
 cases o with
 | lst xs=>obtain ⟨vs,e,z⟩:=q;exact ⟨vs,e,z.less lv⟩
 | fro xs=>obtain ⟨vs,e,z⟩:=q;exact ⟨vs,e,z.less lv⟩
 | dic kvs=>obtain ⟨xs,e,z⟩:=q;exact ⟨xs,e,zbI z λp _ r y=>⟨y.1,⟨y.2.1.1,RepD.less lv y.2.1.2⟩,RepD.less lv y.2.2⟩⟩
 | dfr kvs=>obtain ⟨ob,xs,e,z⟩:=q;exact ⟨ob,xs,e,zbI z λp _ r y=>⟨y.1,⟨y.2.1.1,RepD.less lv y.2.1.2⟩,RepD.less lv y.2.2⟩⟩
 | ols ls=>obtain ⟨vs,e,z⟩:=q;exact ⟨vs,e,zbI z λl hl v ⟨b,eb,ev⟩=>⟨b,cl l hl b eb,ev⟩⟩
 | ins c fs=>
  obtain ⟨C,dx,fs',hC,e,z⟩:=q
  refine ⟨C,dx,fs',hC,e,zbI z λp hp q' ⟨e1,qr⟩=>⟨e1,?_⟩⟩
  cases hr:p.2 with
  | d x=>rw [hr] at qr;exact RepD.less lv qr
  | loc k=>
   rw [hr] at qr
   obtain ⟨b,eb,ev⟩:=qr
   refine ⟨b,cl k ?_ b eb,ev⟩
   simp only [Ob.locs,List.mem_flatten,List.mem_map]
   exact ⟨_,⟨p,hp,rfl⟩,by rw [hr];simp [R.locs]⟩
theorem R.same_eq {x y:R} (e:x.same y=true):x=y:=by
 cases x with
 | d x=>
  cases y with
  | d y=>rw [D.same_eq x y e]
  | loc _=>cases e
 | loc l=>
  cases y with
  | d _=>cases e
  | loc k=>simp only [R.same] at e;rw [eq_of_beq e]
theorem zfY:∀ {fs gs:List (Str×R)},zcG fs gs=true->fs=gs
  | [],[],_=>rfl
  | [],_::_,e=>by simp [zcG] at e
  | (f,x)::r,[],e=>by simp [zcG] at e
  | (f,x)::r,(g,y)::t,e=>by
    simp only [zcG,Bool.and_eq_true] at e
    obtain ⟨⟨e1,e2⟩,e3⟩:=e
    rw [eq_of_beq e1,R.same_eq e2,zfY e3]
theorem zg5:∀ {h h1:Sto} {i:Nat} {o1:Ob},objs h h1=true->h1[i]?=some o1->i<h.length->∃ o,h[i]?=some o/\o1.locs=o.locs
 | [],_,_,_,_,_,hi=>by simp at hi
 | o::h,[],_,_,e,_,_=>by simp [objs] at e
 | o::h,o1::t,0,x,e,ex,_=>by
  simp only [List.getElem?_cons_zero,Option.some.injEq] at ex
  subst ex
  refine ⟨o,rfl,?_⟩
  simp only [objs,Bool.and_eq_true] at e
  have e:=e.1
  cases o<;>cases o1<;>simp only [Bool.false_eq_true] at e<;>try rfl
  ·simp only [Bool.and_eq_true] at e
   rw [zfY e.2]
   rfl
  ·simp only [Ob.locs]
   rw [eq_of_beq e]
 | o::h,o1::t,i+1,x,e,ex,hi=>by
  simp only [objs,Bool.and_eq_true] at e
  obtain ⟨o',e1,e2⟩:=zg5 (i:=i) e.2 (by simpa using ex) (by simpa using hi)
  exact ⟨o',by simpa using e1,e2⟩
theorem znt (st:Stp μ h H μ' h' H') (R0:Rep K μ h H) (R1:Rep K μ' h' H'):Stp μ h H μ (h'.take h.length) H':=by
 refine ⟨λ_ _ e=>e,st.keep,λa l=>st.live a (zgC (n:=h.length) a ?_)⟩
 rw [zdt st R0]
 exact l
theorem zpP (st:Stp μ h H μ' h' H') (R0:Rep K μ h H) (R1:Rep K μ' h' H') (ob:objs h h'=true) (q:RepR K μ' h' H' r v) (e:fin0 h.length keep r h'=some (r2,h2)) :
  ∃ μ2,Stp μ h H μ2 h2 H'/\Rep K μ2 h2 H'/\RepR K μ2 h2 H' r2 v:=by
 have st1:=znt st R0 R1
 have lv:∀ a,Live μ (h'.take h.length) a->Live μ' h' a:=λa l=>zgC (n:=h.length) a (by rw [zdt st R0];exact l)
 have hlen:=R0.len
 have at1:∀ (l:Nat) (b:Addr),l<h.length->μ'[l]?=some b->μ[l]?=some b:=λl b hl eb=>by
  rw [<-zdt st R0,List.getElem?_take_of_lt hl];exact eb
 have small:∀ (i:Nat) (o:Ob),i<h.length->h'[i]?=some o->∀ l∈o.locs,l<h.length:=by
  intro i o hi ho l hl
  obtain ⟨o0,e0,el⟩:=zg5 ob ho hi
  rw [el] at hl
  have hi':i<μ.length:=by omega
  have:=zmh (R0.obj i μ[i] o0 (List.getElem?_eq_getElem hi') e0) l hl
  omega
 have R2:Rep K μ (h'.take h.length) H':=by
  have hl':(h'.take h.length).length=h.length:=by
   have:=R1.len
   have h3:μ.length<=μ'.length:=by rw [<-zdt st R0,List.length_take];exact Nat.min_le_right _ _
   simp;omega
  refine ⟨by rw [hl'];exact hlen,R0.nd,λi a o e1 e2=>?_⟩
  have hi:i<h.length:=by rw [<-hlen];exact (List.getElem?_eq_some_iff.mp e1).1
  rw [List.getElem?_take_of_lt hi] at e2
  exact zha (R1.obj i a o (st.pre i a e1) e2) lv λl hl b eb=>at1 l b (small i o hi e2 l hl) eb
 cases r with
 | d x=>
  simp only [fin0,Option.some.injEq,Prod.mk.injEq] at e
  obtain ⟨rfl,rfl⟩:=e
  exact ⟨μ,st1,R2,RepD.less lv q⟩
 | loc l =>
  obtain ⟨a,ea,rfl⟩:=q
  simp only [fin0] at e
  by_cases hl:l<h.length
  ·rw [if_pos hl] at e
   simp only [Option.some.injEq,Prod.mk.injEq] at e
   obtain ⟨rfl,rfl⟩:=e
   exact ⟨μ,st1,R2,a,at1 l a hl ea,rfl⟩
  ·rw [if_neg hl] at e
   obtain ⟨o,ho⟩:=R1.placeO ea
   rw [ho] at e
   have apart:a ∉ μ:=by
    intro hm
    obtain ⟨i,hi,ei⟩:=List.getElem_of_mem hm
    have:=zfk R1.nd (st.pre i a (by rw [List.getElem?_eq_getElem hi,ei])) ea
    omega
   have data:∀ xs,o.isL=true->o.items=xs->∃ μ2,Stp μ h H μ2 (h'.take h.length) H'/\Rep K μ2 (h'.take h.length) H'/\RepR K μ2 (h'.take h.length) H' (.d (.lst xs)) (.ref a):=by
    rintro xs il rfl
    obtain ⟨vs,hH,z⟩:=R1.placeL ea ho il
    refine ⟨μ,st1,R2,?_⟩
    simp only [RepR,RepD]
    refine ⟨a,vs,rfl,.inl ⟨?_,.inl hH⟩,z.less lv⟩
    rintro ⟨i,ys,e1,e2,_⟩
    exact apart (List.mem_of_getElem? e1)
   cases o with
   | ins _ _=>cases e
   | ols _=>cases e
   | dic _=>cases e
   | dfr _=>cases e
   | fro xs=>
    simp only [Option.some.injEq,Prod.mk.injEq] at e
    obtain ⟨rfl,rfl⟩:=e
    exact data xs rfl rfl
   | lst xs=>
    cases keep with
    | false=>
     simp only [Bool.false_eq_true,if_false,Option.some.injEq,Prod.mk.injEq] at e
     obtain ⟨rfl,rfl⟩:=e
     exact data xs rfl rfl
    | true=>
     simp only [if_true,Option.some.injEq,Prod.mk.injEq] at e
     obtain ⟨rfl,rfl⟩:=e
     obtain ⟨vs,hH,z⟩:=R1.placeL ea ho rfl
     have hl2:(h'.take h.length).length=μ.length:=by rw [<-R2.len]
     have lv2:∀ b,Live (μ++[a]) (h'.take h.length++[.lst xs]) b->Live μ' h' b:=by
      intro b l2
      rcases (ziL R2.len).mp l2 with w | ⟨rfl,_⟩
      ·exact lv b w
      ·exact ⟨l,_,ea,ho,rfl⟩
     refine ⟨μ++[a],⟨λi b e=>?_,st.keep,λb l2=>st.live b (lv2 b l2)⟩,⟨by simp [hl2],?_,λi b o e1 e2=>?_⟩,a,?_,rfl⟩
     ·rw [List.getElem?_append_left (List.getElem?_eq_some_iff.mp e).1];exact e
     ·rw [List.nodup_append]
      refine ⟨R0.nd,by simp,λb hb c hc=>?_⟩
      simp at hc
      subst hc
      rintro rfl
      exact apart hb
     ·by_cases hi:i<μ.length
      ·rw [List.getElem?_append_left hi] at e1
       rw [List.getElem?_append_left (by omega)] at e2
       have hi2:i<h.length:=by omega
       rw [List.getElem?_take_of_lt hi2] at e2
       refine zha (R1.obj i b o (st.pre i b e1) e2) lv2 λk hk c ec=>?_
       have hk2:=small i o hi2 e2 k hk
       rw [List.getElem?_append_left (by omega)]
       exact at1 k c hk2 ec
      ·rw [List.getElem?_append_right (by omega)] at e1
       rw [List.getElem?_append_right (by omega)] at e2
       have hz:i-μ.length=0:=by
        cases hk:i-μ.length with
        | zero=>rfl
        | succ k=>rw [hk] at e1;simp at e1
       rw [hl2,hz] at e2
       rw [hz] at e1
       simp at e1 e2
       subst e1 e2
       exact ⟨vs,hH,z.less lv2⟩
     ·rw [hlen.symm]
      simp
theorem zoe (st:Stp μ h H μ' h' H') (R0:Rep K μ h H) (R1:Rep K μ' h' H') (q:RepR K μ' h' H' r v) (e:fin h all keep r h'=some (r2,h2)) :
  ∃ μ2,Stp μ h H μ2 h2 H'/\Rep K μ2 h2 H'/\RepR K μ2 h2 H' r2 v:=by
 unfold fin at e
 cases all with
 | true=>
  simp only [if_true,Option.some.injEq,Prod.mk.injEq] at e
  obtain ⟨rfl,rfl⟩:=e
  exact ⟨μ',st,R1,q⟩
 | false=>
  simp only [Bool.false_eq_true,if_false] at e
  split at e
  ·rename_i ob
   exact zpP st R0 R1 ob q e
  ·cases e
end
structure Fun2 (K:PySem.W.Frag) (x qual:Str) (st:Stmt) (f:Addr) (fd:FuncData):Prop where
 ex:∃ (oc:Value) (od:Option Addr) (dV kV doc pm:Value) (an:Option Addr) (cdv ct:Value) (osl:Array (Option Value)),
  fd=PySem.W.fnOf x qual (zaA st) (zas st) (zad st) dV kV doc pm an cdv ct/\K.lookup f=some ⟨oc,od,.func fd,osl⟩/\PySem.W.codeIn K cdv qual=true
 kp:PySem.W.keepIn K (.ref f)=true
section
variable {P:Program} {w:World} {K:PySem.W.Frag} {mg:Str->Option Value} {base:Heap}
theorem Fun2.ok (F:Fun2 K x qual st f fd) (S:zed N ps (zad st)) (len:∀ vs H Q E,sp vs H Q E->vs.length=ps.length)
  (hbody:∀ (cdv:Value) (A:Around) (outer:List PySem.Env) (s:Shared) (H:Hp) (vs:List V) (Q:VK) (E:XK),Room k (A.deeper (PyProof.Rows.envOfC qual (zad st) s.heap.objs.size f cdv))->sp vs H Q E →
   ∃ t,PSs (cxOf CX0 P w K mg base N qual (zad st) f cdv A outer s H E).nox (zas st) t/\t { nx:=λ_ H'=>Q .non H',rt:=Q } (L2.start N vs) H):FnOk P w K mg base CX0 (k+1) f fd ps sp:=by
 obtain ⟨oc,od,dV,kV,doc,pm,an,cdv,ct,osl,rfl,lk,hcd⟩:=F.ex
 refine zs8 lk hcd S len λA outer s H vs Q E hr hsp=>?_
 obtain ⟨t,h,q⟩:=hbody cdv A outer s H vs Q E hr hsp
 exact ⟨t,h.nox,q⟩
theorem zdG {dV kV doc pm cdv ct:Value} (l:K.lookup f=some ⟨oc,od,.func (PySem.W.fnOf x qual (zaA st) (zas st) (zad st) dV kV doc pm an cdv ct),osl⟩)
  (c:PySem.W.codeIn K cdv qual=true) (k:PySem.W.keepIn K (.ref f)=true):Fun2 K x qual st f (PySem.W.fnOf x qual (zaA st) (zas st) (zad st) dV kV doc pm an cdv ct):=⟨⟨oc,od,dV,kV,doc,pm,an,cdv,ct,osl,rfl,l,c⟩,k⟩
end
structure zel (K:PySem.W.Frag) (fns:List (Str×Nat×List D)) (cls:List zlE) (Pr:List F) (globs:List (Str×D)) (gds:List (Str×List (List Nat×D))) (fi:Nat) (x qual:Str) (st:Stmt) (f:Addr) (fd:FuncData) (N ps:List Str) (B:F):Prop where
 at':Pr[fi]?=some B
 fn:Fun2 K x qual st f fd
 sc:zed N ps (zad st)
 np:B.np=ps.length
 ns:B.ns=N.length
 bi:∃ dvs,(∀ A H,RepDs K A H B.dfl dvs)/\∀ j,j<=B.dfl.length->∃ ds,zb8 K fd ps ds/\Vals (dvs.drop j) ds
 chk:chkSs B.body ⟨N,(zad st).names,fns,globs,true,cls,gds⟩ (zas st)=true
structure Txt (w:World) (K:PySem.W.Frag) (mg:Str->Option Value) (fns:List (Str×Nat×List D)) (cls:List zlE) (Pr:List F) (globs:List (Str×D)) (gds:List (Str×List (List Nat×D))) (addr:Nat->Addr) (fdOf:Nat->FuncData) (psOf:Nat->List Str):Prop where
 defs:∀ fi B,Pr[fi]?=some B->∃ x qual st N,zel K fns cls Pr globs gds fi x qual st (addr fi) (fdOf fi) N (psOf fi) B
 blt:∀ x∈zcQ,mg x=none
 glob:∀ (x:Str) (d:D),globs.lookup x=some d->∃ u v,mg x=some u/\RelV v u/\∀ A H,RepD K A H d v
 gdic:∀ (x:Str) (kvs:List (List Nat×D)),gds.lookup x=some kvs->GDic K w mg x kvs
 funs:∀ fi p,fns[fi]?=some p->mg p.1=some (.ref (addr fi))/\∃ B,Pr[fi]?=some B/\B.np=p.2.1/\B.dfl=p.2.2
 makes:∀ i∈cls,∃ C B,mg i.name=some (.ref C)/\PySem.W.nsIn K mainGlobals i.name=some (some (.ref C))/\Cls K C/\Mk K C (addr i.init)/\Pr[i.init]?=some B/\B.dfl=[]
 meths:∀ i∈cls,∀ p∈i.meths,∃ C B,PySem.W.nsIn K mainGlobals i.name=some (some (.ref C))/\Cls K C/\Meth K C p.1 (addr p.2)/\Pr[p.2]?=some B/\B.dfl=[]
 attrs:∀ i∈cls,∀ f∈i.fields,∀ A,PySem.W.nsIn K mainGlobals i.name=some (some (.ref A))->zbu K A f
section
variable {P:Program} {w:World} {K:PySem.W.Frag} {mg:Str->Option Value} {base:Heap} {fns:List (Str×Nat×List D)} {cls:List zlE} {Pr:List F} {globs:List (Str×D)} {gds:List (Str×List (List Nat×D))} {addr:Nat->Addr} {fdOf:Nat->FuncData} {psOf:Nat->List Str}
theorem zgJ (h:np<=rs.length):zaM np dfl rs=rs:=by
 rw [zcM (by omega),List.drop_eq_nil_of_le (by omega)]
 simp
theorem zko:zaM np dfl (zaM np dfl rs)=zaM np dfl rs:=by
 by_cases hs:rs.length+dfl.length<np
 ·rw [zcS hs,zcS hs]
 ·refine zgJ ?_
  rw [zcM hs]
  simp only [List.length_append,List.length_map,List.length_drop]
  omega
theorem zjb (e0:Pr[fi]?=some B) (rs:List R):zah Pr m fi rs=zah Pr m fi (zaM B.np B.dfl rs):=by
 cases m with
 | zero=>rfl
 | succ m=>
  funext h
  rw [zbh,zbh]
  simp only [e0]
  rw [zko]
theorem zgR (e0:Pr[fi]?=some B) (e:zah Pr (m+1) fi rs h=some p):(zaM B.np B.dfl rs).length=B.np:=by
 rw [zbh] at e
 simp only [e0] at e
 split at e
 ·assumption
 ·cases e
theorem za1.env (q:za1 K μ h H rs vs) (i:Nat) (r:R) (e:(rs.map some)[i]?=some (some r)):∃ v,(vs.map some)[i]?=some (some v)/\RepR K μ h H r v:=by
 induction q generalizing i with
 | nil=>simp at e
 | @cons r' v rs vs q1 _ ih=>
  cases i with
  | zero=>simp at e;subst e;exact ⟨v,rfl,q1⟩
  | succ i=>
   simp only [List.map_cons,List.getElem?_cons_succ] at e ⊢
   exact ih i e
theorem zeD (e0:Pr[fi]?=some B) (ed:B.dfl=[]) (e:zah Pr m fi rs h=some p):rs.length=B.np:=by
 cases m with
 | zero=>cases e
 | succ m=>
  have:=zgR e0 e
  rw [ed] at this
  have ef:zaM B.np [] rs=rs:=by
   unfold zaM
   split
   ·rfl
   ·simp
  rwa [ef] at this
theorem zjA (e0:Pr[fi]?=some B) (e:zah Pr m fi rs h=some p):(zaM B.np B.dfl rs).length=B.np:=by
 cases m with
 | zero=>cases e
 | succ m=>exact zgR e0 e
theorem zrz (T:Txt w K mg fns cls Pr globs gds addr fdOf psOf) (Dd:zel K fns cls Pr globs gds fi x qual st f fd N ps B)
  (ih:∀ g B,Pr[g]?=some B->FnOk P w K mg base CX0 (2*m) (addr g) (fdOf g) (psOf g) (spF K (psOf g).length (zah Pr m g))):FnOk P w K mg base CX0 (2*m+2) f fd ps (spF K ps.length (zah Pr (m+1) fi)):=by
 refine Dd.fn.ok (k:=2*m+1) Dd.sc (λvs H Q E h=>?_) (λcdv A outer s H vs Q E hr h=>?_)
 ·exact h.1
 ·have G:Good (zah Pr m) (2*m) ⟨N,(zad st).names,fns,globs,true,cls,gds⟩ (cxOf CX0 P w K mg base N qual (zad st) f cdv A outer s H E).nox:=by
   refine ⟨rfl,rfl,hr.mono (by omega),hr,Dd.sc.kind,rfl,Dd.sc.nd,rfl,λ_ _=>rfl,λg y e=>?_,T.blt,T.glob,T.gdic,λi hi=>?_,λi hi p hp=>?_,T.attrs⟩
   ·obtain ⟨e1,B',e2,e3,e4⟩:=T.funs g y e
    obtain ⟨x',q',st',N',d'⟩:=T.defs g B' e2
    obtain ⟨dvs,b1,b2⟩:=d'.bi
    rw [<-e3,<-e4]
    have:=ih g B' e2
    rw [<-d'.np] at this
    exact ⟨⟨addr g,fdOf g,psOf g,dvs,this,e1,d'.fn.kp,b1,b2⟩,zjb d'.at',λrs h p e=>zjA d'.at' e⟩
   ·obtain ⟨C,B',e1,e2,e3,e4,e5,e6⟩:=T.makes i hi
    obtain ⟨x',q',st',N',d'⟩:=T.defs _ B' e5
    obtain ⟨dvs,b1,b2⟩:=d'.bi
    have:=ih _ B' e5
    rw [<-d'.np] at this
    obtain ⟨ds,c1,c2⟩:=b2 0 (Nat.zero_le _)
    have hd:ds=[]:=by
     have hv:dvs=[]:=by
      have:=b1 (λ_=>False) (λ_=>none)
      rw [e6] at this
      simpa [RepDs] using this
     rw [hv] at c2
     cases c2
     rfl
    subst hd
    exact ⟨B'.np,⟨C,addr i.init,fdOf i.init,psOf i.init,e1,e2,e3,e4,this,c1⟩,λrs h p e=>zeD d'.at' e6 e⟩
   ·obtain ⟨C,B',e2,e3,e4,e5,e6⟩:=T.meths i hi p hp
    obtain ⟨x',q',st',N',d'⟩:=T.defs _ B' e5
    obtain ⟨dvs,b1,b2⟩:=d'.bi
    have:=ih _ B' e5
    rw [<-d'.np] at this
    obtain ⟨ds,c1,c2⟩:=b2 0 (Nat.zero_le _)
    have hd:ds=[]:=by
     have hv:dvs=[]:=by
      have:=b1 (λ_=>False) (λ_=>none)
      rw [e6] at this
      simpa [RepDs] using this
     rw [hv] at c2
     cases c2
     rfl
    subst hd
    exact ⟨B'.np,⟨C,addr p.2,fdOf p.2,psOf p.2,e2,e3,e4,this,c1⟩,λrs h p e=>zeD d'.at' e6 e⟩
  refine ⟨_,okSs B.body _ (zas st) _ Dd.chk G,?_⟩
  obtain ⟨hv0,μ,h0,rs,R0,qr,r,h',e,k⟩:=h
  have hl0:rs.length=B.np:=by rw [qr.length,hv0,Dd.np]
  have ef:zaM B.np B.dfl rs=rs:=zgJ (by omega)
  rw [zbh] at e
  simp only [Dd.at'] at e
  rw [ef,if_pos hl0] at e
  have hpl:ps.length<=N.length:=by have:=congrArg List.length Dd.sc.pre;rw [List.length_take] at this;omega
  have re:RepE K μ h0 H (rs.map some++List.replicate (B.ns-B.np) none) (L2.start N vs):=by
   have hv:=qr.length
   have h1:=Dd.np
   have h2:=Dd.ns
   refine ⟨?_,λi r e=>?_⟩
   ·unfold L2.start
    simp
    omega
   ·by_cases hi:i<rs.length
    ·rw [List.getElem?_append_left (by simpa using hi)] at e
     obtain ⟨v,e1,z⟩:=qr.env i r e
     refine ⟨v,?_,z⟩
     unfold L2.start
     rw [List.getElem?_append_left (by simp;omega)]
     exact e1
    ·rw [List.getElem?_append_right (by simpa using hi),List.getElem?_replicate] at e
     split at e<;>cases e
  cases eb:exs (zah Pr m) B.body (rs.map some++List.replicate (B.ns-B.np) none) h0 with
  | none=>rw [eb] at e;cases e
  | some p=>
   obtain ⟨⟨fl,env'⟩,h1⟩:=p
   rw [eb] at e
   refine ⟨μ,h0,_,R0,re,fl,env',h1,eb,λμ' H' σ' st1 R1 _=>?_⟩
   cases fl with
   | ret r1=>
    intro v qv
    obtain ⟨μ2,st2,R2,q2⟩:=zoe st1 R0 R1 qv e
    exact k μ2 H' v st2 R2 q2
   | nx=>
    obtain ⟨μ2,st2,R2,q2⟩:=zoe (v:=.non) st1 R0 R1 (by simp only [RepR,RepD]) e
    exact k μ2 H' .non st2 R2 q2
   | brk=>cases e
   | cnt=>cases e
theorem zkj:FnOk P w K mg base CX0 0 f fd ps (spF K np (zah Pr 0 fi)):=by
 refine ⟨λvs H Q E h=>?_,λA outer s H args us vs Q E hr e0 hb r h=>?_⟩
 ·obtain ⟨_,μ,h0,rs,R0,qr,r,h',e,k⟩:=h
  cases e
 ·obtain ⟨_,μ,h0,rs,R0,qr,r,h',e,k⟩:=h
  cases e
theorem zj8 (T:Txt w K mg fns cls Pr globs gds addr fdOf psOf):∀ m fi B,Pr[fi]?=some B->FnOk P w K mg base CX0 (2*m) (addr fi) (fdOf fi) (psOf fi) (spF K (psOf fi).length (zah Pr m fi)):=by
 intro m
 induction m with
 | zero=>exact λfi B e=>zkj
 | succ m ih=>
  intro fi B e
  obtain ⟨x,q,st,N,d⟩:=T.defs fi B e
  exact zrz T d ih
end
theorem ziq:∀ ns:List Int,RepDs K A H (ns.map D.int) (ns.map V.int)
 | []=>.nil
 | n::r=>.cons (by simp only [RepD]) (ziq r)
theorem zjS {ns:List Int} {E:XK} (hS:SqL K H a (ns.map V.int)) (e:m [.d (.lst (ns.map .int))] []=some (.d (.bl true),[])):spF K 1 m [.ref a] H (λv _=>v=.bl true) E:=by
 have nl:∀ b,¬ Live [] [] b:=by
  rintro b ⟨i,xs,e1,_⟩
  simp at e1
 refine ⟨rfl,[],[],[.d (.lst (ns.map .int))],⟨rfl,by simp,λi a o e1 _=>by simp at e1⟩,.cons ?_ .nil,_,_,e,λμ' H' v st R1 q=>?_⟩
 ·simp only [RepR,RepD]
  refine ⟨a,ns.map V.int,rfl,?_,ziq ns⟩
  rcases hS with z | z
  ·exact .inl ⟨nl a,z⟩
  ·exact .inr z
 ·simpa only [RepR,RepD] using q
theorem us0 {P:List Value->Prop} (h:P []):∀ us:List Value,us.length=0->P us:=λus hl=>by
 cases us with
 | nil=>exact h
 | cons=>cases hl
theorem usS {P:List Value->Prop} {n:Nat} (h:∀ a,∀ us:List Value,us.length=n->P (a::us)):∀ us:List Value,us.length=n+1->P us:=λus hl=>by
 cases us with
 | nil=>cases hl
 | cons a r=>exact h a r (Nat.succ.inj hl)
theorem us1 {P:List Value->Prop} (h:∀ a0,P [a0]):∀ us:List Value,us.length=1->P us:=usS λa=>us0 (h a)
theorem us2 {P:List Value->Prop} (h:∀ a0 a1,P [a0,a1]):∀ us:List Value,us.length=2->P us:=usS λa=>us1 (h a)
theorem us3 {P:List Value->Prop} (h:∀ a0 a1 a2,P [a0,a1,a2]):∀ us:List Value,us.length=3->P us:=usS λa=>us2 (h a)
theorem us4 {P:List Value->Prop} (h:∀ a0 a1 a2 a3,P [a0,a1,a2,a3]):∀ us:List Value,us.length=4->P us:=usS λa=>us3 (h a)
open PySem.W in
theorem toX {r:RowW} {d:DefRec} {kwd:List (Str×Expr)} {run:Value->List Value->Sem Value} (e:∀ P,as=(K P).map (·.1))
  (h:WalkO q loose XP (InK K) r d kwd run):WalkX q loose XP (X.obsZ as) (X.valZ K n t) r d kwd run:=by
 intro w s₀ s₁ mg mb G y a o pm cd doc dV kV h1 h2 h3 h4 h5 h6 args vals as' L
 exact h w s₀ s₁ mg mb G (InK.keeps w _ _ (X.z_facts e y).2.1 L.keeps) a o pm cd doc dV kV h1 h2 h3 h4 h5 h6 args vals as'
end IT
namespace IT
inductive Ok {α:Type} (m:Option (α×Sto)) (Q:α->Sto->Prop):Prop where
 | mk (a:α) (h':Sto) (e:m=some (a,h')) (q:Q a h')
section
variable {α β:Type} {Q:α->Sto->Prop} {R:β->Sto->Prop} {h:Sto}
theorem Ok.mono (k:Ok m Q) (i:∀ a h,Q a h->Q' a h):Ok m Q':=by
 obtain ⟨a,h',e,q⟩:=k
 exact ⟨a,h',e,i a h' q⟩
@[simp] theorem ok_bnd {x:M α} {f:α->M β}:Ok (bnd x f h) R↔Ok (x h) λa h1=>Ok (f a h1) R:=by
 unfold bnd
 constructor
 ·rintro ⟨b,h',e,q⟩
  cases ex:x h with
  | none=>rw [ex] at e;cases e
  | some p=>rw [ex] at e;exact ⟨p.1,p.2,rfl,b,h',e,q⟩
 ·rintro ⟨a,h1,e,b,h',e',q⟩
  rw [e]
  exact ⟨b,h',e',q⟩
@[simp] theorem ok_some' {a:α}:Ok (some (a,h)) Q↔Q a h:=by
 constructor
 ·rintro ⟨b,h',e,q⟩;cases e;exact q
 ·intro q;exact ⟨a,h,rfl,q⟩
@[simp] theorem ok_ok {a:α}:Ok (ok a h) Q↔Q a h:=ok_some'
@[simp] theorem ok_none:Ok (none:Option (α×Sto)) Q↔False:=by
 constructor
 ·rintro ⟨b,h',e,q⟩;cases e
 ·intro z;exact z.elim
@[simp] theorem ok_opt {o:Option α}:Ok (opt o h) Q↔∃ a,o=some a/\Q a h:=by
 unfold opt
 cases o with
 | none=>simp
 | some a=>simp
@[simp] theorem ok_rd_d {x:D} {Q:D->Sto->Prop}:Ok (rd (.d x) h) Q↔Q x h:=ok_some'
@[simp] theorem ok_fz_d {x:D} {Q:D->Sto->Prop}:Ok (fz (.d x) h) Q↔Q x h:=ok_some'
end
theorem zn2 (I:Nat->Env->Sto->Prop)
  (step:∀ i x σ h,xs[i]?=some x->I i σ h->Ok (f x σ h) λp h1=>match p.1 with
   | .ret r=>Q (.ret r,p.2) h1
   | .brk=>Q (.nx,p.2) h1
   | _=>zaz l h h1=true/\I (i+1) p.2 h1)
  (fin:∀ σ h,I xs.length σ h->Q (.nx,σ) h) {σ:Env} {h:Sto} (h0:I 0 σ h):Ok (loop l f xs σ h) Q:=by
 have gen:∀ (ys:List Ite) (i:Nat) (σ:Env) (h:Sto),xs.drop i=ys->i<=xs.length->I i σ h->Ok (loop l f ys σ h) Q:=by
  intro ys
  induction ys with
  | nil=>
   intro i σ h e hi hI
   have:i=xs.length:=by
    have:=congrArg List.length e
    simp at this
    omega
   subst this
   exact ⟨_,_,rfl,fin σ h hI⟩
  | cons y ys ih=>
   intro i σ h e hi hI
   have hil:i<xs.length:=by
    have:=congrArg List.length e
    simp at this
    omega
   have hy:xs[i]?=some y:=by
    have:=congrArg (λz=>z[0]?) e
    simpa using this
   have hd:xs.drop (i+1)=ys:=by
    have:=congrArg List.tail e
    simpa using this
   obtain ⟨⟨fl,σ1⟩,h1,ef,q⟩:=step i y σ h hy hI
   simp only [loop,ef]
   cases fl with
   | ret r=>exact ⟨_,_,rfl,q⟩
   | brk=>exact ⟨_,_,rfl,q⟩
   | nx=>simp only at q ⊢;rw [if_pos q.1];exact ih (i+1) σ1 h1 hd (by omega) q.2
   | cnt=>simp only at q ⊢;rw [if_pos q.1];exact ih (i+1) σ1 h1 hd (by omega) q.2
 exact gen xs 0 σ h (by simp) (by omega) h0
theorem zaK {α:Type} {g:α->Ite} {l:Option Nat} {f:Ite->Env->M (Fl×Env)} {xs:List α} {Q:Fl×Env->Sto->Prop} (I:Nat->Env->Sto->Prop)
  (step:∀ i x σ h,xs[i]?=some x->I i σ h->Ok (f (g x) σ h) λp h1=>match p.1 with
   | .ret r=>Q (.ret r,p.2) h1
   | .brk=>Q (.nx,p.2) h1
   | _=>zaz l h h1=true/\I (i+1) p.2 h1)
  (fin:∀ σ h,I xs.length σ h->Q (.nx,σ) h) {σ:Env} {h:Sto} (h0:I 0 σ h):Ok (loop l f (xs.map g) σ h) Q:=by
 refine zn2 I (λi x σ h hx hI=>?_) (λσ h hI=>fin σ h (by simpa using hI)) h0
 rw [List.getElem?_map,Option.map_eq_some_iff] at hx
 obtain ⟨y,hy,rfl⟩:=hx
 exact step i y σ h hy hI
theorem zfT {l:Option Nat} {xs:List D} {Q:Fl×Env->Sto->Prop} (I:Nat->Env->Sto->Prop)
  (step:∀ i x σ h,xs[i]?=some x->I i σ h->Ok (f (dI x) σ h) λp h1=>match p.1 with
   | .ret r=>Q (.ret r,p.2) h1
   | .brk=>Q (.nx,p.2) h1
   | _=>zaz l h h1=true/\I (i+1) p.2 h1)
  (fin:∀ σ h,I xs.length σ h->Q (.nx,σ) h) {σ:Env} {h:Sto} (h0:I 0 σ h):Ok (loop l f (xs.map dI) σ h) Q:=zaK I step fin h0
theorem zeg {α β:Type} {g:β->Ite} {l:Option Nat} {f:Ite->M (Option α)} {xs:List β} {Q:List α->Sto->Prop} (I:Nat->List α->Sto->Prop)
  (step:∀ i x ys h,xs[i]?=some x->I i ys h->Ok (f (g x) h) λo h1=>zaz l h h1=true/\I (i+1) (match o with | some y=>ys++[y] | none=>ys) h1)
  (fin:∀ ys h,I xs.length ys h->Q ys h) {h:Sto} (h0:I 0 [] h):Ok (zaZ l f (xs.map g) h) Q:=by
 have gen:∀ (zs:List β) (i:Nat) (ys:List α) (h:Sto),xs.drop i=zs->i<=xs.length->I i ys h->Ok (zaZ l f (zs.map g) h) λr h1=>Q (ys++r) h1:=by
  intro zs
  induction zs with
  | nil=>
   intro i ys h e hi hI
   have:i=xs.length:=by
    have:=congrArg List.length e
    simp at this
    omega
   subst this
   exact ⟨_,_,rfl,by show Q (ys++[]) h;rw [List.append_nil];exact fin ys h hI⟩
  | cons y zs ih=>
   intro i ys h e hi hI
   have hil:i<xs.length:=by
    have:=congrArg List.length e
    simp at this
    omega
   have hy:xs[i]?=some y:=by
    have:=congrArg (λz=>z[0]?) e
    simpa using this
   have hd:xs.drop (i+1)=zs:=by
    have:=congrArg List.tail e
    simpa using this
   obtain ⟨o,h1,ef,st,q⟩:=step i y ys h hy hI
   simp only [List.map_cons,zaZ,ef]
   rw [if_pos st,ok_bnd]
   refine (ih (i+1) _ h1 hd (by omega) q).mono λr h2 hq=>?_
   rw [ok_ok]
   cases o with
   | none=>exact hq
   | some z=>simpa using hq
 have:=gen xs 0 [] h (by simp) (by omega) h0
 simpa using this
theorem zn6 {α:Type} {l:Option Nat} {f:Ite->M (Option α)} {xs:List D} {Q:List α->Sto->Prop} (I:Nat->List α->Sto->Prop)
  (step:∀ i x ys h,xs[i]?=some x->I i ys h->Ok (f (dI x) h) λo h1=>zaz l h h1=true/\I (i+1) (match o with | some y=>ys++[y] | none=>ys) h1)
  (fin:∀ ys h,I xs.length ys h->Q ys h) {h:Sto} (h0:I 0 [] h):Ok (zaZ l f (xs.map dI) h) Q:=zeg I step fin h0
theorem zeL {α β:Type} {d:β->Ite} {l:Option Nat} {f:Ite->M (Option α)} {g:β->Option α} {h:Sto}:∀ {xs:List β},(∀ x∈xs,f (d x) h=some (g x,h))->zaz l h h=true->zaZ l f (xs.map d) h=some (xs.filterMap g,h)
 | [],_,_=>rfl
 | x::xs,e,s=>by
  simp only [List.map_cons,zaZ,e x (by simp),if_pos s]
  unfold bnd
  rw [zeL (λy hy=>e y (by simp [hy])) s]
  simp only [ok,List.filterMap_cons]
  cases g x<;>rfl
theorem zsb (Γ:Calls) (i:_) (σ:Env):ev Γ (.var i) σ=(λh=>match σ[i]? with
  | some (some r)=>some (r,h)
  | _=>none):=rfl
theorem zqO (Γ:Calls) (a:_) (σ:Env):ev Γ (.neg a) σ=(bnd (ev Γ a σ) λx=>match x with
  | .d (.int i)=>ok (.d (.int (-i)))
  | _=>λ_=>none):=rfl
theorem zq8 (Γ:Calls) (a:_) (b:_) (σ:Env):ev Γ (.and a b) σ=(bnd (ev Γ a σ) λx=>match x with
  | .d (.bl c)=>if c then ev Γ b σ else ok (.d (.bl false))
  | _=>λ_=>none):=rfl
theorem zs6 (Γ:Calls) (a:_) (b:_) (σ:Env):ev Γ (.or a b) σ=(bnd (ev Γ a σ) λx=>match x with
  | .d (.bl c)=>if c then ok (.d (.bl true)) else ev Γ b σ
  | _=>λ_=>none):=rfl
theorem zrt (Γ:Calls) (a:_) (σ:Env):ev Γ (.not a) σ=(bnd (ev Γ a σ) λx=>bnd (rd x) λd=>bnd (opt (tru d)) λt=>ok (.d (.bl (!t)))):=rfl
theorem zth (Γ:Calls) (m:_) (o:_) (es:_) (σ:Env):ev Γ (.me m o es) σ=(bnd (ev Γ o σ) λx=>bnd (zdo x) λ_=>bnd (evs Γ es σ) λrs=>meth m x rs):=rfl
theorem zqF (Γ:Calls) (c:_) (f:_) (es:_) (σ:Env):ev Γ (.make c f es) σ=(bnd (evs Γ es σ) λrs=>bnd (newA c) λx=>bnd (Γ f (x::rs)) λr=>match r with
  | .d .non=>ok x
  | _=>λ_=>none):=rfl
theorem ztW (Γ:Calls) (c:_) (m:_) (f:_) (o:_) (es:_) (σ:Env):ev Γ (.mc c m f o es) σ=(bnd (ev Γ o σ) λx=>bnd (isA x c m) λ_=>bnd (evs Γ es σ) λrs=>Γ f (x::rs)):=rfl
theorem zpH (Γ:Calls) (tg:_) (it:_) (c:_) (el:_) (σ:Env):ev Γ (.lstO tg it c el) σ=(bnd (evI Γ it σ) λw=>bnd (zaZ w.l (λx=>bnd (zaD tg x (clr tg.slots σ)) λσ'=>bnd (tvs Γ c σ') λt=>if t then bnd (ev Γ el σ') λr=>bnd (za5 r) λd=>ok (some d) else ok none) w.xs) λls=>allocO ls):=rfl
theorem zsx (Γ:Calls) (a:_) (i:_) (σ:Env):ev Γ (.oix a i) σ=(bnd (ev Γ a σ) λx=>bnd (ev Γ i σ) λy=>bnd (zbc x) λo=>match o,y with
  | some ls,.d (.int k)=>match at' ls k with
   | some l=>ok (.loc l)
   | none=>λ_=>none
  | _,_=>λ_=>none):=rfl
theorem zqh (Γ:Calls) (a:_) (σ:Env):ev Γ (.olen a) σ=(bnd (ev Γ a σ) λx=>bnd (zbc x) λo=>match o with
  | some ls=>ok (.d (.int ls.length))
  | none=>λ_=>none):=rfl
theorem zm5 (Γ:Calls)  (σ:Env):ev Γ .stuck σ=(λ_=>none):=rfl
theorem zp8 (Γ:Calls) (e:_) (σ:Env):evI Γ (.rng e) σ=(bnd (ev Γ e σ) λr=>zfo r):=rfl
theorem zpE (Γ:Calls) (e:_) (σ:Env):evI Γ (.enu e) σ=(bnd (ev Γ e σ) λr=>zjG r):=rfl
theorem zqn :fzs []=(ok []):=rfl
theorem znn (r:_) (rs:_):fzs (r::rs)=(bnd (fz r) λd=>bnd (fzs rs) λds=>ok (d::ds)):=rfl
theorem zpb :rds []=(ok []):=rfl
theorem znz (r:_) (rs:_):rds (r::rs)=(bnd (rd r) λd=>bnd (rds rs) λds=>ok (d::ds)):=rfl
theorem znD (Γ:Calls)  (σ:Env):ex Γ .stuck σ=(λ_=>none):=rfl
theorem zm9 (Γ:Calls) (s:_) (r:_) (σ:Env):exs Γ (s::r) σ=(bnd (ex Γ s σ) λp=>match p.1 with
  | .nx=>exs Γ r p.2
  | _=>ok p):=rfl
theorem zh4:meth .append (.loc l) [r] h=(bnd (fz r) λd h=>match h[l]? with
  | some (.lst xs)=>if decide (xs.length<big) then some (.d .non,h.set l (.lst (xs++[d]))) else none
  | _=>none) h:=rfl
theorem zmY :meth .pop (.loc l) [] h=(λh=>match h[l]? with
  | some (.lst xs)=>match xs[xs.length-1]? with
   | some y=>some (.d y,h.set l (.lst xs.dropLast))
   | none=>none
  | _=>none) h:=rfl
theorem zhE:meth .extend (.loc l) [r] h=(bnd (rd r) λd h=>match d with
  | .lst ys=>match h[l]? with
   | some (.lst xs)=>if fit (xs.length+ys.length) then some (.d .non,h.set l (.lst (xs++ys))) else none
   | _=>none
  | _=>none) h:=rfl
section
variable {Γ:Calls} {σ:Env} {h:Sto}
section
variable {Q:Fl×Env->Sto->Prop}
theorem zjC:Ok (exs Γ (s::r) σ h) Q↔Ok (ex Γ s σ h) λp h1=>match p.1 with | .nx=>Ok (exs Γ r p.2 h1) Q | .ret r=>Q (.ret r,p.2) h1 | .brk=>Q (.brk,p.2) h1 | .cnt=>Q (.cnt,p.2) h1:=by
 rw [zm9,ok_bnd]
 constructor
 ·intro k
  refine k.mono λp h1 q=>?_
  obtain ⟨fl,e⟩:=p
  cases fl<;>simpa using q
 ·intro k
  refine k.mono λp h1 q=>?_
  obtain ⟨fl,e⟩:=p
  cases fl<;>simpa using q
end
section
variable {Q:Env->Sto->Prop}
theorem zoV:Ok (zaN (.name i) r σ h) Q↔Q (σ.set i (some r)) h:=by rw [zaN];exact ok_ok
theorem zrI:Ok (zaN (.tup ts) r σ h) Q↔Ok (rd r h) λd h1=>∃ xs,d=.tup xs/\Ok (bindTs ts xs σ h1) Q:=by
 rw [zaN,ok_bnd]
 constructor<;>intro k<;>refine k.mono λd h1 q=>?_
 ·cases d<;>first | (exact ⟨_,rfl,q⟩) | (simp at q)
 ·obtain ⟨xs,rfl,q⟩:=q;exact q
theorem zj3:Ok (bindTs [] [] σ h) Q↔Q σ h:=by simp only [bindTs,ok_ok]
theorem zi9:Ok (bindTs (t::ts) (x::xs) σ h) Q↔Ok (zaN t (.d x) σ h) λσ' h1=>Ok (bindTs ts xs σ' h1) Q:=by simp only [bindTs,ok_bnd]
end
theorem w_bI:Ok (zaD tg (.r x) σ h) Q↔Ok (zaN tg x σ h) Q:=by rw [zaD]
theorem ztR:Ok (zaD (.tup [a,b]) (.en i x) σ h) Q↔Ok (zaN a (.d (.int i)) σ h) λσ' h1=>Ok (zaN b x σ' h1) Q:=by rw [zaD];simp only [ok_bnd]
section
variable {Q:R->Sto->Prop}
theorem zt9:Ok (ev Γ (.var i) σ h) Q↔∃ r,σ[i]?=some (some r)/\Q r h:=by
 rw [zsb]
 cases e:σ[i]? with
 | none=>simp
 | some o=>cases o<;>simp
theorem ztn:Ok (ev Γ (.neg a) σ h) Q↔Ok (ev Γ a σ h) λx h1=>∃ i,x=.d (.int i)/\Q (.d (.int (-i))) h1:=by
 rw [zqO,ok_bnd]
 constructor<;>intro k<;>refine k.mono λx h1 q=>?_
 ·cases x with
  | loc l=>simp at q
  | d d=>cases d<;>first | (exact ⟨_,rfl,by simpa using q⟩) | (simp at q)
 ·obtain ⟨i,rfl,q⟩:=q;simpa using q
theorem zt0:Ok (ev Γ (.and a b) σ h) Q↔Ok (ev Γ a σ h) λx h1=>∃ c,x=.d (.bl c)/\(c=true->Ok (ev Γ b σ h1) Q)/\(c=false->Q (.d (.bl false)) h1):=by
 rw [zq8,ok_bnd]
 constructor<;>intro k<;>refine k.mono λx h1 q=>?_
 ·cases x with
  | loc l=>simp at q
  | d d=>cases d<;>first | (rename_i c;refine ⟨c,rfl,?_⟩;cases c<;>simpa using q) | (simp at q)
 ·obtain ⟨c,rfl,q⟩:=q;cases c<;>simpa using q
theorem w_or:Ok (ev Γ (.or a b) σ h) Q↔Ok (ev Γ a σ h) λx h1=>∃ c,x=.d (.bl c)/\(c=false->Ok (ev Γ b σ h1) Q)/\(c=true->Q (.d (.bl true)) h1):=by
 rw [zs6,ok_bnd]
 constructor<;>intro k<;>refine k.mono λx h1 q=>?_
 ·cases x with
  | loc l=>simp at q
  | d d=>cases d<;>first | (rename_i c;refine ⟨c,rfl,?_⟩;cases c<;>simpa using q) | (simp at q)
 ·obtain ⟨c,rfl,q⟩:=q;cases c<;>simpa using q
theorem w_not:Ok (ev Γ (.not a) σ h) Q↔Ok (ev Γ a σ h) λx h1=>Ok (rd x h1) λd h2=>∃ b,tru d=some b/\Q (.d (.bl (!b))) h2:=by
 rw [zrt];simp only [ok_bnd,ok_opt,ok_ok]
theorem w_me:Ok (ev Γ (.me m o es) σ h) Q↔Ok (ev Γ o σ h) λx h1=>Ok (zdo x h1) λ_ h2=>Ok (evs Γ es σ h2) λrs h3=>Ok (meth m x rs h3) Q:=by rw [zth];simp only [ok_bnd]
end
theorem zk5:Ok (fzs [] h) Q↔Q [] h:=by rw [zqn];exact ok_ok
theorem zjo:Ok (fzs (r::rs) h) Q↔Ok (fz r h) λd h1=>Ok (fzs rs h1) λds h2=>Q (d::ds) h2:=by rw [znn];simp only [ok_bnd,ok_ok]
theorem zkF:Ok (rds [] h) Q↔Q [] h:=by rw [zpb];exact ok_ok
theorem zjO:Ok (rds (r::rs) h) Q↔Ok (rd r h) λd h1=>Ok (rds rs h1) λds h2=>Q (d::ds) h2:=by rw [znz];simp only [ok_bnd,ok_ok]
section
variable {Q:Bool->Sto->Prop}
end
section
variable {Q:List D->Sto->Prop}
noncomputable def zmJ (Γ:Calls) (tg:Tg) (c:List T) (el:E) (σ:Env) (x:Ite):M (Option D):=bnd (zaD tg x (clr tg.slots σ)) λσ'=>bnd (tvs Γ c σ') λt=>if t then bnd (ev Γ el σ') λr=>bnd (fz r) λd=>ok (some d) else ok none
end
theorem zqi:Ok (zmJ Γ tg c el σ x h) Q↔Ok (zaD tg x (clr tg.slots σ) h) λσ' h1=>Ok (tvs Γ c σ' h1) λt h2=>(t=true->Ok (ev Γ el σ' h2) λr h3=>Ok (fz r h3) λd h4=>Q (some d) h4)/\(t=false->Q none h2):=by
 unfold zmJ
 simp only [ok_bnd]
 constructor<;>intro k<;>refine k.mono λσ' h1 q=>?_<;>refine q.mono λt h2 q=>?_<;>cases t<;>simpa using q
noncomputable def zld (Γ:Calls) (tg:Tg) (c:List T) (el:E) (σ:Env) (x:Ite):M (Option Nat):=bnd (zaD tg x (clr tg.slots σ)) λσ'=>bnd (tvs Γ c σ') λt=>if t then bnd (ev Γ el σ') λr=>bnd (za5 r) λd=>ok (some d) else ok none
theorem zsX:Ok (ev Γ (.lstO tg it c el) σ h) Q↔Ok (evI Γ it σ h) λw h1=>Ok (zaZ w.l (zld Γ tg c el σ) w.xs h1) λls h2=>Q (.loc h2.length) (h2++[.ols ls]):=by rw [zpH];simp only [ok_bnd,allocO,ok_some'];rfl
theorem zpR:Ok (zld Γ tg c el σ x h) Q↔Ok (zaD tg x (clr tg.slots σ) h) λσ' h1=>Ok (tvs Γ c σ' h1) λt h2=>(t=true->Ok (ev Γ el σ' h2) λr h3=>Ok (za5 r h3) λd h4=>Q (some d) h4)/\(t=false->Q none h2):=by
 unfold zld
 simp only [ok_bnd]
 constructor<;>intro k<;>refine k.mono λσ' h1 q=>?_<;>refine q.mono λt h2 q=>?_<;>cases t<;>simpa using q
section
variable {Q:Wk->Sto->Prop}
theorem ztS:Ok (evI Γ (.enu e) σ h) Q↔Ok (ev Γ e σ h) λr h1=>isLs r=true/\Ok (zaY r h1) λw h2=>∃ l,zaq 0 w.xs=some l/\Q ⟨l,w.l⟩ h2:=by
 rw [zpE];simp only [ok_bnd,zjG]
 refine iff_of_eq (congrArg (Ok (ev Γ e σ h)) (funext λr=>funext λh1=>propext ?_))
 by_cases c:isLs r=true
 ·rw [if_pos c,ok_bnd]
  simp only [c,true_and]
  refine iff_of_eq (congrArg (Ok (zaY r h1)) (funext λw=>funext λh2=>propext ?_))
  cases zaq 0 w.xs<;>simp
 ·rw [if_neg c];simp [c]
noncomputable def nums {α:Type} (i:Int):List α->List (Int×α)
 | []=>[]
 | x::t=>(i,x)::nums (i+1) t
theorem zhY {α:Type}:∀ (xs:List α) (i:Int) (j:Nat) (p:Int×α),(nums i xs)[j]?=some p->p.1=i+j/\xs[j]?=some p.2
 | [],_,_,_,e=>by simp [nums] at e
 | x::xs,i,0,p,e=>by simp [nums] at e;subst e;exact ⟨by simp,rfl⟩
 | x::xs,i,j+1,p,e=>by
  simp only [nums,List.getElem?_cons_succ] at e ⊢
  obtain ⟨h1,h2⟩:=zhY xs (i+1) j p e
  exact ⟨by rw [h1];push_cast;omega,h2⟩
theorem znX:Ok (zaY (.d (.tup xs)) h) Q↔Q ⟨xs.map dI,none⟩ h:=by simp only [zaY,zbc,ok_bnd,ok_some',ok_rd_d,wkOf,items,ok_ok]
theorem zm4:Ok (zaY (.d (.lst xs)) h) Q↔Q ⟨xs.map dI,none⟩ h:=by simp only [zaY,zbc,ok_bnd,ok_some',ok_rd_d,wkOf,items,ok_ok]
theorem zmB:Ok (zaY (.loc l) h) Q↔∃ o,h[l]?=some o/\match o with
  | .lst xs=>Q ⟨xs.map dI,some l⟩ h
  | .fro xs=>Q ⟨xs.map dI,some l⟩ h
  | .ols ls=>Q ⟨ls.map λl=>.r (.loc l),some l⟩ h
  | .ins _ _=>False
  | .dic _=>False
  | .dfr _=>False:=by
 simp only [zaY,zbc,ok_bnd]
 cases e:h[l]? with
 | none=>simp [rd,e]
 | some o=>cases o<;>simp [rd,e,Ob.isL,Ob.items,wkOf,items]
theorem ztc:Ok (evI Γ (.rng e) σ h) Q↔Ok (ev Γ e σ h) λr h1=>Ok (zfo r h1) Q:=by rw [zp8];simp only [ok_bnd]
theorem zpV:Ok (zfo (.d (.int n)) h) Q↔(-(2 ^ 62)<=n/\n<=16777216)/\Q ⟨(zaU 0 n.toNat).map dI,none⟩ h:=by
 simp only [zfo]
 by_cases c:-(2 ^ 62)<=n/\n<=16777216
 ·rw [if_pos (by rw [Bool.and_eq_true];exact ⟨decide_eq_true c.1,decide_eq_true c.2⟩),ok_ok]
  exact ⟨λq=>⟨c,q⟩,λq=>q.2⟩
 ·rw [if_neg (by rw [Bool.and_eq_true];exact λz=>c ⟨of_decide_eq_true z.1,of_decide_eq_true z.2⟩)]
  simp only [ok_none,false_iff]
  exact λz=>c z.1
end
theorem znH:Ok (rd (.loc l) h) Q↔∃ o,h[l]?=some o/\o.isL=true/\Q (.lst o.items) h:=by
 simp only [rd]
 cases h[l]? with
 | none=>simp
 | some o=>cases o<;>simp [Ob.isL]
theorem zmK:Ok (fz (.loc l) h) Q↔∃ o,h[l]?=some o/\o.isL=true/\Q (.lst o.items) (h.set l (.fro o.items)):=by
 simp only [fz]
 cases h[l]? with
 | none=>simp
 | some o=>cases o<;>simp [Ob.isL]
theorem zpw:Ok (zdo (.loc l) h) Q↔∃ o,h[l]?=some o/\o.isL=true/\Q () h:=by
 simp only [zdo]
 cases h[l]? with
 | none=>simp
 | some o=>cases o<;>simp [Ob.isL]
theorem zq0:Ok (getA (.loc l) f h) Q↔∃ c fs,h[l]?=some (.ins c fs)/\∃ r,fs.lookup f=some r/\Q r h:=by
 simp only [getA]
 cases h[l]? with
 | none=>simp
 | some o=>
  cases o with
  | ins c fs=>
   constructor
   ·intro q
    refine ⟨c,fs,rfl,?_⟩
    simp only at q
    split at q
    ·rename_i r e;exact ⟨r,e,by simpa using q⟩
    ·simp at q
   ·rintro ⟨c',fs',e,r,e2,q⟩
    cases e
    simp only [e2,ok_some']
    exact q
  | _=>simp
theorem zrQ:Ok (setN (.loc l) c f v h) Q↔∃ fs,h[l]?=some (.ins c fs)/\fs.length<900/\Q () (h.set l (.ins c (putF f v fs))):=by
 simp only [setN]
 cases h[l]? with
 | none=>simp
 | some o=>
  cases o with
  | ins c' fs=>
   constructor
   ·intro q
    simp only at q
    split at q
    ·rename_i hl
     obtain ⟨rfl,hl⟩:=hl
     exact ⟨fs,rfl,hl,by simpa using q⟩
    ·simp at q
   ·rintro ⟨fs',e,hl,q⟩
    cases e
    simp only [hl,and_self,if_true,ok_some']
    exact q
  | _=>simp
theorem zs1:Ok (ev Γ (.make c f es) σ h) Q↔Ok (evs Γ es σ h) λrs h1=>Ok (Γ f (.loc h1.length::rs) (h1++[.ins c []])) λr h2=>r=.d .non/\Q (.loc h1.length) h2:=by
 rw [zqF];simp only [ok_bnd,newA,ok_some']
 refine iff_of_eq (congrArg (Ok (evs Γ es σ h)) (funext λrs=>funext λh1=>congrArg (Ok _) (funext λr=>funext λh2=>propext ?_)))
 match r with
 | .d .non=>simp
 | .loc _=>simp
 | .d (.bl _) | .d (.int _) | .d (.str _) | .d (.tup _) | .d (.lst _)=>simp
theorem w_mc:Ok (ev Γ (.mc c m f o es) σ h) Q↔Ok (ev Γ o σ h) λx h1=>Ok (isA x c m h1) λ_ h2=>Ok (evs Γ es σ h2) λrs h3=>Ok (Γ f (x::rs) h3) Q:=by rw [ztW];simp only [ok_bnd]
theorem ztM:Ok (isA (.loc l) c m h) Q↔∃ fs,h[l]?=some (.ins c fs)/\fs.lookup m=none/\Q () h:=by
 simp only [isA]
 cases h[l]? with
 | none=>simp
 | some o=>
  cases o with
  | ins c' fs=>
   constructor
   ·intro q
    simp only at q
    split at q
    ·rename_i e
     obtain ⟨rfl,e2⟩:=e
     exact ⟨fs,rfl,Option.isNone_iff_eq_none.mp e2,by simpa using q⟩
    ·simp at q
   ·rintro ⟨fs',e,e2,q⟩
    cases e
    simp only [e2,Option.isNone_none,and_self,if_true,ok_some']
    exact q
  | _=>simp
theorem zk8:Ok (za5 (.loc l) h) Q↔∃ c fs,h[l]?=some (.ins c fs)/\Q l h:=by
 simp only [za5]
 cases h[l]? with
 | none=>simp
 | some o=>cases o<;>simp
theorem zsC:Ok (ev Γ (.olen a) σ h) Q↔Ok (ev Γ a σ h) λx h1=>∃ l ls,x=.loc l/\h1[l]?=some (.ols ls)/\Q (.d (.int ls.length)) h1:=by
 rw [zqh];simp only [ok_bnd]
 refine iff_of_eq (congrArg (Ok (ev Γ a σ h)) (funext λx=>funext λh1=>propext ?_))
 cases x with
 | d x=>simp [zbc]
 | loc l=>
  simp only [zbc]
  cases e:h1[l]? with
  | none=>simp [e]
  | some o=>
   cases o with
   | ols ls=>
    simp only [ok_some',R.loc.injEq,ok_ok]
    constructor
    ·intro q;exact ⟨l,ls,rfl,e,q⟩
    ·rintro ⟨_,ls',rfl,e',q⟩;rw [e] at e';cases e';exact q
   | _=>simp [e]
theorem zub:Ok (ev Γ (.oix a i) σ h) Q↔Ok (ev Γ a σ h) λx h1=>Ok (ev Γ i σ h1) λy h2=>∃ l ls k j,x=.loc l/\h2[l]?=some (.ols ls)/\y=.d (.int k)/\at' ls k=some j/\Q (.loc j) h2:=by
 rw [zsx];simp only [ok_bnd]
 refine iff_of_eq (congrArg (Ok (ev Γ a σ h)) (funext λx=>funext λh1=>congrArg (Ok (ev Γ i σ h1)) (funext λy=>funext λh2=>propext ?_)))
 cases x with
 | d x=>simp [zbc]
 | loc l=>
  simp only [zbc]
  cases e:h2[l]? with
  | none=>simp [e]
  | some o=>
   cases o with
   | ols ls=>
    simp only [ok_some',R.loc.injEq]
    match y with
    | .d (.int k)=>
     simp only
     cases ea:at' ls k with
     | none=>simp [e,ea]
     | some j=>simp [e,ea]
    | .loc _=>simp
    | .d .non | .d (.bl _) | .d (.str _) | .d (.tup _) | .d (.lst _)=>simp
   | _=>simp [e]
theorem znG:Ok (meth .append (.loc l) [r] h) Q↔Ok (fz r h) λd h1=>∃ xs,h1[l]?=some (.lst xs)/\xs.length<big/\Q (.d .non) (h1.set l (.lst (xs++[d]))):=by
 rw [zh4,ok_bnd]
 constructor<;>intro k<;>refine k.mono λd h1 q=>?_
 ·cases e:h1[l]? with
  | none=>rw [e] at q;simp at q
  | some o=>
   rw [e] at q
   cases o with
   | fro xs=>simp at q
   | ins _ _=>simp at q
   | ols _=>simp at q
   | dic _=>simp at q
   | dfr _=>simp at q
   | lst xs=>
    simp only at q
    by_cases c:xs.length<big
    ·rw [if_pos (decide_eq_true c)] at q;exact ⟨xs,rfl,c,by simpa using q⟩
    ·rw [if_neg (by simpa using c)] at q;simp at q
 ·obtain ⟨xs,e,c,q⟩:=q
  rw [e]
  simp only
  rw [if_pos (decide_eq_true c)]
  simpa using q
theorem ztU:Ok (ex Γ .stuck σ h) Q↔False:=by rw [znD];exact ok_none
theorem ztZ:Ok (ev Γ .stuck σ h) Q↔False:=by rw [zm5];exact ok_none
theorem znR:Ok (meth .extend (.loc l) [r] h) Q↔Ok (rd r h) λd h1=>∃ ys xs,d=.lst ys/\h1[l]?=some (.lst xs)/\fit (xs.length+ys.length)=true/\Q (.d .non) (h1.set l (.lst (xs++ys))):=by
 rw [zhE,ok_bnd]
 refine iff_of_eq (congrArg (Ok (rd r h)) (funext λd=>funext λh1=>propext ?_))
 cases d with
 | lst ys=>
  simp only [D.lst.injEq,exists_eq_left']
  cases e:h1[l]? with
  | none=>simp
  | some o=>
   cases o with
   | fro xs=>simp
   | ins _ _=>simp
   | ols _=>simp
   | dic _=>simp
   | dfr _=>simp
   | lst xs=>
    simp only [Option.some.injEq,Ob.lst.injEq,exists_eq_left',and_assoc]
    cases c:fit (xs.length+ys.length)<;>simp [c]
 | _=>simp
theorem zt2:Ok (meth .pop (.loc l) [] h) Q↔∃ xs,h[l]?=some (.lst xs)/\∃ y,xs[xs.length-1]?=some y/\Q (.d y) (h.set l (.lst xs.dropLast)):=by
 rw [zmY];dsimp only
 cases e:h[l]? with
 | none=>simp
 | some o=>
  cases o with
  | fro xs=>simp
  | ins _ _=>simp
  | ols _=>simp
  | dic _=>simp
  | dfr _=>simp
  | lst xs=>
   simp only [Option.some.injEq,Ob.lst.injEq,exists_eq_left']
   cases c:xs[xs.length-1]? with
   | none=>simp
   | some y=>simp
end
class Cont (α:Type) where
 q:α->Sto->Prop
structure Ask {α:Type} (m:Option (α×Sto)) [c:Cont α]:Prop where
 ok:Ok m c.q
theorem ask {α:Type} {m:Option (α×Sto)} {Q:α->Sto->Prop} (k:Ok m Q):@Ask α m ⟨Q⟩:=@Ask.mk α m ⟨Q⟩ k
theorem zr3 {α:Type} {m:Option (α×Sto)} {Q:α->Sto->Prop}:Ok m Q↔@Ask α m ⟨Q⟩:=⟨λk=>@Ask.mk α m ⟨Q⟩ k,λk=>@Ask.ok α m ⟨Q⟩ k⟩
theorem zlO (c:(zgF a||zgF b)=true):bop .mul (.int a) (.int b)=some (.int (a*b)):=if_pos c
theorem zoY (c:0<b):bop .mod (.int a) (.int b)=some (.int (a % b)):=if_pos (decide_eq_true c)
theorem zh8 (c:-(2 ^ 64)<a) (c2:a<2 ^ 64):zgF a=true:=by simp only [zgF,Bool.and_eq_true,decide_eq_true_eq];exact ⟨c,c2⟩
theorem ze1 (c:-(2 ^ 64)<a) (c2:a<2 ^ 64):bop .mul (.int a) (.int b)=some (.int (a*b)):=zlO (by rw [zh8 c c2];rfl)
theorem zs3 {n:Nat} {i:Int} (c:0<=i) (c2:i<n):ixn n i=some i.toNat:=by
 unfold ixn
 rw [if_pos c,if_pos c2]
theorem zrw {α:Type} {xs:List α} {i:Int} {x:α} (c:0<=i) (e:xs[i.toNat]?=some x):at' xs i=some x:=by
 have:=(List.getElem?_eq_some_iff.mp e).1
 unfold at'
 rw [zs3 c (by omega)]
 exact e
theorem zpM {xs:List D} {x:D} (c:0<=i) (e:xs[i.toNat]?=some x):idxD (.lst xs) (.int i)=some x:=zrw c e
theorem zbA {xs:List D} {x:D} (c:0<=i) (e:xs[i.toNat]?=some x):idxD (.tup xs) (.int i)=some x:=zrw c e
theorem zbi:idxD (.tup (x::xs)) (.int 0)=some x:=by refine zbA (by decide) rfl
theorem zdf:idxD (.tup (x::y::xs)) (.int 1)=some y:=by refine zbA (by decide) rfl
theorem zeN:idxD (.tup (x::y::z::xs)) (.int 2)=some z:=by refine zbA (by decide) rfl
theorem zhg (c:zi7 a b=true):cop .eq a b=some (.bl (a.eqb b)):=if_pos c
theorem zfR (c:zi7 a b=true):cop .ne a b=some (.bl (!a.eqb b)):=if_pos c
theorem zkm {α:Type} {xs:List α} {a:Int} (c:0<=a):cut xs none (some a)=xs.take a.toNat:=by
 unfold cut sIx
 simp only [if_neg (show ¬ a<0 by omega),List.drop_zero,Nat.sub_zero]
 rcases Nat.le_total a.toNat xs.length with k | k
 ·rw [Nat.min_eq_left k]
 ·rw [Nat.min_eq_right k,List.take_length,List.take_of_length_le k]
theorem zf4 (c:fit (xs.length+ys.length)=true):bop .add (.tup xs) (.tup ys)=some (.tup (xs++ys)):=if_pos c
theorem znK (c:0<=a) (c2:0<=b):bop .band (.int a) (.int b)=some (.int (a.toNat &&& b.toNat:Nat)):=if_pos (by rw [Bool.and_eq_true];exact ⟨decide_eq_true c,decide_eq_true c2⟩)
theorem zmU (c:0<=b) (c2:b<=16777216) (c3:fit ((x::xs).length*b.toNat)=true):bop .mul (.tup (x::xs)) (.int b)=some (.tup (List.replicate b.toNat (x::xs)).flatten):=by
 refine if_neg ?_
 rw [c3,decide_eq_false (show ¬ b<0 by omega),decide_eq_false (show ¬ (2:Int) ^ 24<b by omega)]
 simp
theorem zky (c:0<=b) (c2:b<=16777216):bop .mul (.tup [x]) (.int b)=some (.tup (List.replicate b.toNat x)):=by
 rw [zmU c c2 (by unfold fit big;exact decide_eq_true (by simp;omega))]
 congr 2
 generalize b.toNat=n
 induction n with
 | zero=>rfl
 | succ n ih=>rw [List.replicate_succ,List.flatten_cons,ih];rfl
theorem zpc {α:Type} {xs:List α} {x:α}:at' (xs++[x]) (-1)=some x:=by
 have:ixn (xs++[x]).length (-1)=some xs.length:=by
  unfold ixn
  rw [if_neg (by decide),if_pos (by simp;omega)]
  congr 1
  simp
  omega
 simp only [at',this]
 simp
theorem zac:(h++(x::t))[h.length]?=some x:=by
 rw [List.getElem?_append_right (Nat.le_refl _),Nat.sub_self];rfl
theorem zao:(h++(x::t)).set h.length y=h++(y::t):=by
 rw [List.set_append_right _ _ (Nat.le_refl _),Nat.sub_self];rfl
theorem ziQ {h t:Sto}:(h++t).take h.length=h:=by simp
theorem zai:zaz none h h'=true:=rfl
theorem cutN {α:Type} {xs:List α} {n:Nat}:cut xs none (some (n:Int))=xs.take n:=by rw [zkm (by omega)];rfl
theorem zd8 {a b:D} (c:b.dep<=60):zi7 a b=true:=by unfold zi7;exact decide_eq_true (by omega)
theorem zkW:∀ {xs:List D} {n:Nat},(∀ x∈xs,x.dep<=n)->D.deps xs<=n
 | [],_,_=>by simp [D.deps]
 | x::xs,n,h=>by
  have h1:=h x (by simp)
  have h2:=zkW (xs:=xs) (n:=n) λy hy=>h y (by simp [hy])
  simp only [D.deps];omega
theorem Ok.eq {α:Type} {m:Option (α×Sto)} {a:α} {h:Sto} (k:Ok m λb h1=>b=a/\h1=h):m=some (a,h):=by
 obtain ⟨b,h1,e,rfl,rfl⟩:=k
 exact e
theorem zat {α β:Type} {d:β->Ite} {l:Option Nat} {f:Ite->M (Option α)} {g:β->Option α} {h:Sto} {xs:List β} {Q:List α->Sto->Prop} (e:∀ x∈xs,Ok (f (d x) h) λo h1=>o=g x/\h1=h) (s:zaz l h h=true) (q:Q (xs.filterMap g) h):Ok (zaZ l f (xs.map d) h) Q:=
 ⟨_,_,zeL (λx hx=>(e x hx).eq) s,q⟩
theorem zeE {l:Option Nat} {g:D->Option D} {h:Sto} {xs:List D} {Q:List D->Sto->Prop} (e:∀ x∈xs,Ok (f (dI x) h) λo h1=>o=g x/\h1=h) (s:zaz l h h=true) (q:Q (xs.filterMap g) h):Ok (zaZ l f (xs.map dI) h) Q:=zat e s q
theorem zdc {l:Nat} (e:h[l]?=some (.lst xs)):zaz (some l) h h=true:=by
 simp only [zaz,e,Ob.same,Ob.isL,Ob.items,Bool.true_and]
 exact D.sames_refl _
theorem zgq {l:Nat} (e:h[l]?=some (.ols ls)) (e1:h1[l]?=some (.ols ls)):zaz (some l) h h1=true:=by
 simp only [zaz,e,e1,Ob.same,beq_self_eq_true]
theorem R.same_self:∀ x:R,x.same x=true
 | .d x=>D.same_refl x
 | .loc l=>by simp [R.same]
theorem zci:∀ fs:List (PySem.Str×R),zcG fs fs=true
  | []=>rfl
  | (f,x)::r=>by simp [zcG,R.same_self,zci r]
theorem zla {l:Nat} (e:h[l]?=some (.dfr kvs)) (e1:h1[l]?=some (.dfr kvs)):zaz (some l) h h1=true:=by
 simp only [zaz,e,e1,Ob.same,zb3]
theorem zeb (o:Ob) (h:Sto) (o1:Ob) (t:Sto):objs (o::h) (o1::t)=((match o,o1 with
   | .ins c fs,.ins c1 fs1=>c==c1&&zcG fs fs1
   | .ols a,.ols b=>a==b
   | .dic a,.dic b=>za2 a b
   | .dfr a,.dfr b=>za2 a b
   | .lst _,.lst _=>true
   | .lst _,.fro _=>true
   | .fro _,.lst _=>true
   | .fro _,.fro _=>true
   | _,_=>false)&&objs h t):=rfl
theorem zct:∀ {h t:Sto},objs h (h++t)=true
 | [],_=>rfl
 | o::h,t=>by
  rw [List.cons_append,zeb,zct,Bool.and_true]
  cases o<;>simp [zci,zb3]
theorem zlJ {h:Sto}:objs h h=true:=by
 have:=zct (h:=h) (t:=[])
 rwa [List.append_nil] at this
theorem zcn:∀ {h t:Sto} {l:Nat} {xs ys:List D},h[l]?=some (.lst xs)->objs h (h.set l (.lst ys)++t)=true
 | [],_,_,_,_,e=>by simp at e
 | o::h,t,0,xs,ys,e=>by
  simp at e
  subst e
  rw [List.set_cons_zero,List.cons_append,zeb,zct,Bool.and_true]
 | o::h,t,l+1,xs,ys,e=>by
  have:=zcn (h:=h) (t:=t) (l:=l) (xs:=xs) (ys:=ys) (by simpa using e)
  rw [List.set_cons_succ,List.cons_append,zeb,this,Bool.and_true]
  cases o<;>simp [zci,zb3]
theorem zn0 {h:Sto} (e:h[l]?=some (.lst xs)):objs h (h.set l (.lst ys))=true:=by
 have:=zcn (t:=[]) (ys:=ys) e
 rwa [List.append_nil] at this
theorem zax {h:Sto}:(h++(x::y::t))[h.length+1]?=some y:=by
 rw [List.getElem?_append_right (by omega),Nat.add_sub_cancel_left];rfl
theorem zcD {h:Sto}:(h++(x::y::t)).set (h.length+1) z=h++(x::z::t):=by
 rw [List.set_append_right _ _ (by omega),Nat.add_sub_cancel_left];rfl
theorem zk2 {P:List F} {F:IT.F} (e:P[f]?=some F) (er:zaM F.np F.dfl rs=rs') (el:rs'.length=F.np)
  (k:Ok (exs (zah P n) F.body (rs'.map some++List.replicate (F.ns-F.np) none) h) λp h1=>match p.1 with
   | .ret r=>Ok (fin h F.all F.keep r h1) Q
   | .nx=>Ok (fin h F.all F.keep (.d .non) h1) Q
   | _=>False):Ok (zah P (n+1) f rs h) Q:=by
 obtain ⟨⟨fl,σ⟩,h1,ee,q⟩:=k
 rw [zbh]
 simp only [e,er]
 rw [if_pos el,ee]
 cases fl with
 | ret r=>exact q
 | nx=>exact q
 | brk=>exact q.elim
 | cnt=>exact q.elim
theorem zs9:zaM np [] rs=rs:=by
 unfold zaM
 split
 ·rfl
 ·simp
theorem zo9 {P:List F} {F:IT.F} (e:P[f]?=some F) (ed:F.dfl=[]) (el:rs.length=F.np)
  (k:Ok (exs (zah P n) F.body (rs.map some++List.replicate (F.ns-F.np) none) h) λp h1=>match p.1 with
   | .ret r=>Ok (fin h F.all F.keep r h1) Q
   | .nx=>Ok (fin h F.all F.keep (.d .non) h1) Q
   | _=>False):Ok (zah P (n+1) f rs h) Q:=zk2 e (by rw [ed];exact zs9) el k
theorem zqc:Ok (fin h false k (.d x) h1) Q↔objs h h1=true/\Q (.d x) (h1.take h.length):=by
 simp only [fin,Bool.false_eq_true,if_false]
 by_cases c:objs h h1=true
 ·rw [if_pos c];simp [fin0,c]
 ·rw [if_neg c];simp [c]
theorem zle:Ok (fin h true k r h1) Q↔Q r h1:=by simp only [fin,if_true,ok_some']
end IT
namespace IT
open PySem (Str)
noncomputable def wO {α:Type} (o:Option α) (Q:α->Prop):Prop:=match o with
 | some a=>Q a
 | none=>False
noncomputable def wB (t:Bool) (A B:Prop):Prop:=match t with
 | true=>A
 | false=>B
noncomputable def wLs (o:Ob) (Q:List D->Prop):Prop:=match o with
 | .lst xs=>Q xs
 | .fro xs=>Q xs
 | .ins _ _=>False
 | .ols _=>False
 | .dic _=>False
 | .dfr _=>False
noncomputable def wLw (o:Ob) (Q:List D->Prop):Prop:=match o with
 | .lst xs=>Q xs
 | .fro _=>False
 | .ins _ _=>False
 | .ols _=>False
 | .dic _=>False
 | .dfr _=>False
noncomputable def wIn (o:Ob) (Q:Str->List (Str×R)->Prop):Prop:=match o with
 | .ins c fs=>Q c fs
 | .lst _=>False
 | .fro _=>False
 | .ols _=>False
 | .dic _=>False
 | .dfr _=>False
noncomputable def wOl (o:Ob) (Q:List Nat->Prop):Prop:=match o with
 | .ols ls=>Q ls
 | .lst _=>False
 | .fro _=>False
 | .ins _ _=>False
 | .dic _=>False
 | .dfr _=>False
noncomputable def wDc (o:Ob) (Q:List (D×D)->Prop):Prop:=match o with
 | .dic kvs=>Q kvs
 | .dfr kvs=>Q kvs
 | .lst _=>False
 | .fro _=>False
 | .ins _ _=>False
 | .ols _=>False
noncomputable def wDw (o:Ob) (Q:List (D×D)->Prop):Prop:=match o with
 | .dic kvs=>Q kvs
 | .dfr _=>False
 | .lst _=>False
 | .fro _=>False
 | .ins _ _=>False
 | .ols _=>False
noncomputable def wDf (o:Ob) (Q:List (D×D)->Prop):Prop:=match o with
 | .dfr kvs=>Q kvs
 | .dic _=>False
 | .lst _=>False
 | .fro _=>False
 | .ins _ _=>False
 | .ols _=>False
noncomputable def wKey (r:R) (Q:D->Prop):Prop:=match r with
 | .d k=>wB (zaF k) (Q k) False
 | .loc _=>False
noncomputable def wRd (r:R) (h:Sto) (Q:D->Sto->Prop):Prop:=match r with
 | .d x=>Q x h
 | .loc l=>wO h[l]? λo=>wLs o λxs=>Q (.lst xs) h
noncomputable def wFz (r:R) (h:Sto) (Q:D->Sto->Prop):Prop:=match r with
 | .d x=>Q x h
 | .loc l=>wO h[l]? λo=>wLs o λxs=>Q (.lst xs) (h.set l (.fro xs))
noncomputable def wRds:List R->Sto->(List D->Sto->Prop)->Prop
 | [],h,Q=>Q [] h
 | r::rs,h,Q=>wRd r h λd h1=>wRds rs h1 λds h2=>Q (d::ds) h2
noncomputable def wFzs:List R->Sto->(List D->Sto->Prop)->Prop
 | [],h,Q=>Q [] h
 | r::rs,h,Q=>wFz r h λd h1=>wFzs rs h1 λds h2=>Q (d::ds) h2
noncomputable def wBl (r:R) (Q:Bool->Prop):Prop:=match r with
 | .d (.bl b)=>Q b
 | _=>False
noncomputable def wInt (r:R) (Q:Int->Prop):Prop:=match r with
 | .d (.int b)=>Q b
 | _=>False
noncomputable def wPl (r:R) (Q:Nat->Prop):Prop:=match r with
 | .loc l=>Q l
 | .d _=>False
noncomputable def wTup (d:D) (Q:List D->Prop):Prop:=match d with
 | .tup xs=>Q xs
 | _=>False
mutual
noncomputable def wT:Tg->R->Env->Sto->(Env->Sto->Prop)->Prop
 | .name i,r,σ,h,Q=>Q (σ.set i (some r)) h
 | .tup ts,r,σ,h,Q=>wRd r h λd h1=>wTup d λxs=>wTs ts xs σ h1 Q
noncomputable def wTs:List Tg->List D->Env->Sto->(Env->Sto->Prop)->Prop
 | [],xs,σ,h,Q=>match xs with
  | []=>Q σ h
  | _::_=>False
 | t::ts,xs,σ,h,Q=>match xs with
  | x::xs=>wT t (.d x) σ h λσ' h1=>wTs ts xs σ' h1 Q
  | []=>False
end
noncomputable def wBI (tg:Tg) (x:Ite) (σ:Env) (h:Sto) (Q:Env->Sto->Prop):Prop:=match x with
 | .r x=>wT tg x σ h Q
 | .en i x=>match tg with
  | .tup [a,b]=>wT a (.d (.int i)) σ h λσ' h1=>wT b x σ' h1 Q
  | _=>False
noncomputable def wWk (r:R) (h:Sto) (Q:Wk->Sto->Prop):Prop:=match r with
 | .d (.tup xs)=>Q ⟨xs.map dI,none⟩ h
 | .d (.lst xs)=>Q ⟨xs.map dI,none⟩ h
 | .d _=>False
 | .loc l=>wO h[l]? λo=>match o with
  | .lst xs=>Q ⟨xs.map dI,some l⟩ h
  | .fro xs=>Q ⟨xs.map dI,some l⟩ h
  | .ols ls=>Q ⟨ls.map λl=>.r (.loc l),some l⟩ h
  | .ins _ _=>False
  | .dic _=>False
  | .dfr _=>False
noncomputable def wEn (r:R) (h:Sto) (Q:Wk->Sto->Prop):Prop:=match r with
 | .loc l=>wWk (.loc l) h λw h2=>wO (zaq 0 w.xs) λl=>Q ⟨l,w.l⟩ h2
 | .d (.lst xs)=>wO (zaq 0 (xs.map dI)) λl=>Q ⟨l,none⟩ h
 | .d _=>False
noncomputable def wMe (m:Me) (x:R) (rs:List R) (h:Sto) (Q:R->Sto->Prop):Prop:=match m,rs with
 | .append,[r]=>wPl x λl=>wFz r h λd h1=>wO h1[l]? λo=>wLw o λxs=>xs.length<big/\Q (.d .non) (h1.set l (.lst (xs++[d])))
 | .pop,[]=>wPl x λl=>wO h[l]? λo=>wLw o λxs=>wO xs[xs.length-1]? λy=>Q (.d y) (h.set l (.lst xs.dropLast))
 | .extend,[r]=>wPl x λl=>wRd r h λd h1=>wO (match d with | .lst ys=>some ys | _=>none) λys=>wO h1[l]? λo=>wLw o λxs=>fit (xs.length+ys.length)=true/\Q (.d .non) (h1.set l (.lst (xs++ys)))
 | m,rs=>Ok (meth m x rs h) Q
mutual
noncomputable def wE (Γ:Calls):E->Env->Sto->(R->Sto->Prop)->Prop
 | .con d,_,h,Q=>Q (.d d) h
 | .var i,σ,h,Q=>wO σ[i]? λo=>wO o λr=>Q r h
 | .bin o a b,σ,h,Q=>wE Γ a σ h λx h1=>wE Γ b σ h1 λy h2=>wRd x h2 λx h3=>wRd y h3 λy h4=>wO (bop o x y) λz=>Q (.d z) h4
 | .neg a,σ,h,Q=>wE Γ a σ h λx h1=>wInt x λi=>Q (.d (.int (-i))) h1
 | .cmp o a b,σ,h,Q=>wE Γ a σ h λx h1=>wE Γ b σ h1 λy h2=>wRd x h2 λx h3=>wRd y h3 λy h4=>wO (cop o x y) λz=>Q (.d z) h4
 | .and a b,σ,h,Q=>wE Γ a σ h λx h1=>wBl x λc=>wB c (wE Γ b σ h1 Q) (Q (.d (.bl false)) h1)
 | .or a b,σ,h,Q=>wE Γ a σ h λx h1=>wBl x λc=>wB c (Q (.d (.bl true)) h1) (wE Γ b σ h1 Q)
 | .not a,σ,h,Q=>wE Γ a σ h λx h1=>wRd x h1 λd h2=>wO (tru d) λb=>Q (.d (.bl (!b))) h2
 | .ife c a b,σ,h,Q=>wC Γ c σ h λt h1=>wB t (wE Γ a σ h1 Q) (wE Γ b σ h1 Q)
 | .tup es,σ,h,Q=>wEs Γ es σ h λrs h1=>wFzs rs h1 λds h2=>Q (.d (.tup ds)) h2
 | .lst m l,σ,h,Q=>wL Γ l σ h λxs h1=>match m with
  | true=>Q (.loc h1.length) (h1++[.lst xs])
  | false=>Q (.d (.lst xs)) h1
 | .idx a i,σ,h,Q=>wE Γ a σ h λx h1=>wE Γ i σ h1 λy h2=>wRd x h2 λx h3=>wRd y h3 λy h4=>wO (idxD x y) λz=>Q (.d z) h4
 | .sli a lo hi,σ,h,Q=>wE Γ a σ h λx h1=>wE Γ lo σ h1 λl h2=>wE Γ hi σ h2 λu h3=>wRd x h3 λx h4=>wRd l h4 λl h5=>wRd u h5 λu h6=>wO (sliD x l u) λz=>Q (.d z) h6
 | .call f es,σ,h,Q=>wEs Γ es σ h λrs h1=>@Ask _ (Γ f rs h1) ⟨Q⟩
 | .bi b es,σ,h,Q=>wEs Γ es σ h λrs h1=>wRds rs h1 λds h2=>wO (biD b ds) λz=>Q (.d z) h2
 | .me m o es,σ,h,Q=>wE Γ o σ h λx h1=>wPl x λl=>wO h1[l]? λo=>wLs o λ_=>wEs Γ es σ h1 λrs h3=>wMe m (.loc l) rs h3 Q
 | .glo d,_,h,Q=>Q (.d d) h
 | .isi t e,σ,h,Q=>wE Γ e σ h λr h1=>wRd r h1 λd h2=>Q (.d (.bl (isiD t d))) h2
 | .lm m o a,σ,h,Q=>wE Γ o σ h λx h0=>wRd x h0 λ_ h1=>wE Γ a σ h1 λy h2=>wRd x h2 λx h3=>wRd y h3 λy h4=>wO (lmD m x y) λz=>Q (.d z) h4
 | .fld o f,σ,h,Q=>wE Γ o σ h λx h1=>wPl x λl=>wO h1[l]? λo=>wIn o λ_ fs=>wO (fs.lookup f) λr=>Q r h1
 | .make c f es,σ,h,Q=>wEs Γ es σ h λrs h1=>@Ask _ (Γ f (.loc h1.length::rs) (h1++[.ins c []])) ⟨λr h2=>r=.d .non/\Q (.loc h1.length) h2⟩
 | .mc c m f o es,σ,h,Q=>wE Γ o σ h λx h1=>wPl x λl=>wO h1[l]? λo=>wIn o λc' fs=>c'=c/\fs.lookup m=none/\wEs Γ es σ h1 λrs h3=>@Ask _ (Γ f (.loc l::rs) h3) ⟨Q⟩
 | .lstO tg it c el,σ,h,Q=>wI Γ it σ h λw h1=>@Ask _ (zaZ w.l (zld Γ tg c el σ) w.xs h1) ⟨λls h2=>Q (.loc h2.length) (h2++[.ols ls])⟩
 | .oix a i,σ,h,Q=>wE Γ a σ h λx h1=>wE Γ i σ h1 λy h2=>wPl x λl=>wO h2[l]? λo=>wOl o λls=>wInt y λk=>wO (at' ls k) λj=>Q (.loc j) h2
 | .olen a,σ,h,Q=>wE Γ a σ h λx h1=>wPl x λl=>wO h1[l]? λo=>wOl o λls=>Q (.d (.int ls.length)) h1
 | .dnew,_,h,Q=>Q (.loc h.length) (h++[.dic []])
 | .dof e,σ,h,Q=>wE Γ e σ h λr h1=>wRd r h1 λd h2=>wO (zlk d) λkvs=>Q (.loc h2.length) (h2++[.dfr kvs])
 | .din neg k d,σ,h,Q=>wE Γ k σ h λy h1=>wE Γ d σ h1 λx h2=>wPl x λl=>wO h2[l]? λo=>wDc o λkvs=>wKey y λk=>Q (.d (.bl (if neg then !(dGet k kvs).isSome else (dGet k kvs).isSome))) h2
 | .dgt d k,σ,h,Q=>wE Γ d σ h λx h1=>wPl x λl=>wO h1[l]? λo=>wDc o λ_=>wE Γ k σ h1 λy h2=>wO h2[l]? λo=>wDc o λkvs=>wKey y λk=>Q (.d ((dGet k kvs).getD .non)) h2
 | .ddx d k,σ,h,Q=>wE Γ d σ h λx h1=>wE Γ k σ h1 λy h2=>wPl x λl=>wO h2[l]? λo=>wDc o λkvs=>wKey y λk=>wO (dGet k kvs) λv=>Q (.d v) h2
 | .gdx _ kvs k,σ,h,Q=>wE Γ k σ h λy h1=>wO (gGet kvs y) λv=>Q (.d v) h1
 | .stuck,_,_,_=>False
noncomputable def wEs (Γ:Calls):List E->Env->Sto->(List R->Sto->Prop)->Prop
 | [],_,h,Q=>Q [] h
 | e::es,σ,h,Q=>wE Γ e σ h λr h1=>wEs Γ es σ h1 λrs h2=>Q (r::rs) h2
noncomputable def wC (Γ:Calls):T->Env->Sto->(Bool->Sto->Prop)->Prop
 | .val e,σ,h,Q=>wE Γ e σ h λr h1=>wRd r h1 λd h2=>wO (tru d) λt=>Q t h2
 | .and a b,σ,h,Q=>wC Γ a σ h λt h1=>wB t (wC Γ b σ h1 Q) (Q false h1)
 | .or a b,σ,h,Q=>wC Γ a σ h λt h1=>wB t (Q true h1) (wC Γ b σ h1 Q)
 | .not a,σ,h,Q=>wC Γ a σ h λt h1=>Q (!t) h1
noncomputable def wCs (Γ:Calls):List T->Env->Sto->(Bool->Sto->Prop)->Prop
 | [],_,h,Q=>Q true h
 | c::cs,σ,h,Q=>wC Γ c σ h λt h1=>wB t (wCs Γ cs σ h1 Q) (Q false h1)
noncomputable def wL (Γ:Calls):L->Env->Sto->(List D->Sto->Prop)->Prop
 | .disp es,σ,h,Q=>wEs Γ es σ h λrs h1=>wFzs rs h1 Q
 | .comp tg it c el,σ,h,Q=>wI Γ it σ h λw h1=>@Ask _ (zaZ w.l (zmJ Γ tg c el σ) w.xs h1) ⟨Q⟩
 | .rev e,σ,h,Q=>wE Γ e σ h λr h1=>wRd r h1 λd h2=>wO (revD d) λxs=>Q xs h2
 | .sdi e,σ,h,Q=>wE Γ e σ h λr h1=>wPl r λl=>wO h1[l]? λo=>wDc o λkvs=>wO (zfV (kvs.map zcu)) λxs=>Q xs h1
noncomputable def wI (Γ:Calls):I->Env->Sto->(Wk->Sto->Prop)->Prop
 | .seq e,σ,h,Q=>wE Γ e σ h λr h1=>wWk r h1 Q
 | .rng e,σ,h,Q=>wE Γ e σ h λr h1=>wInt r λn=>(-(2 ^ 62)<=n/\n<=16777216)/\Q ⟨(zaU 0 n.toNat).map dI,none⟩ h1
 | .rng2 a b,σ,h,Q=>wE Γ a σ h λr h1=>wE Γ b σ h1 λq h2=>Ok (zg1 r q h2) Q
 | .enu e,σ,h,Q=>wE Γ e σ h λr h1=>wEn r h1 Q
 | .dic e,σ,h,Q=>wE Γ e σ h λr h1=>wPl r λl=>wO h1[l]? λo=>wDf o λkvs=>Q ⟨kvs.map λp=>dI p.1,some l⟩ h1
end
mutual
noncomputable def wS (Γ:Calls):S->Env->Sto->(Fl×Env->Sto->Prop)->Prop
 | .asg tg e,σ,h,Q=>wE Γ e σ h λr h1=>wT tg r σ h1 λσ' h2=>Q (.nx,σ') h2
 | .setN c o f e,σ,h,Q=>wE Γ e σ h λr h1=>wE Γ o σ h1 λx h2=>wPl x λl=>wO h2[l]? λob=>wIn ob λc' fs=>c'=c/\fs.length<900/\Q (.nx,σ) (h2.set l (.ins c' (putF f r fs)))
 | .exp e,σ,h,Q=>wE Γ e σ h λ_ h1=>Q (.nx,σ) h1
 | .ife c a b,σ,h,Q=>wC Γ c σ h λt h1=>wB t (wSs Γ a σ h1 Q) (wSs Γ b σ h1 Q)
 | .for tg it b,σ,h,Q=>wI Γ it σ h λw h1=>@Ask _ (loop w.l (λx σ=>bnd (zaD tg x σ) λσ'=>exs Γ b σ') w.xs σ h1) ⟨Q⟩
 | .ret e,σ,h,Q=>wE Γ e σ h λr h1=>Q (.ret r,σ) h1
 | .setD o k e,σ,h,Q=>wE Γ e σ h λr h1=>wE Γ o σ h1 λx h2=>wE Γ k σ h2 λy h3=>wFz r h3 λd h4=>wKey y λk=>wPl x λl=>wO h4[l]? λob=>wDw ob λkvs=>kvs.length<big/\Q (.nx,σ) (h4.set l (.dic (dPut k d kvs)))
 | .stuck,_,_,_=>False
noncomputable def wSs (Γ:Calls):List S->Env->Sto->(Fl×Env->Sto->Prop)->Prop
 | [],σ,h,Q=>Q (.nx,σ) h
 | s::r,σ,h,Q=>wS Γ s σ h λp h1=>match p.1 with
  | .nx=>wSs Γ r p.2 h1 Q
  | .ret r=>Q (.ret r,p.2) h1
  | .brk=>Q (.brk,p.2) h1
  | .cnt=>Q (.cnt,p.2) h1
end
theorem zfK {α:Type} {o:Option α} {Q:α->Prop}:(∃ a,o=some a/\Q a)=wO o Q:=by
 cases o<;>simp [wO]
theorem zkS:((t=true->A)/\(t=false->B))=wB t A B:=by cases t<;>simp [wB]
theorem zqf:((t=false->B)/\(t=true->A))=wB t A B:=by cases t<;>simp [wB]
section
variable {h:Sto}
theorem qRd {r:R} {Q:D->Sto->Prop}:Ok (rd r h) Q=wRd r h Q:=by
 cases r with
 | d x=>exact propext ok_rd_d
 | loc l=>
  rw [propext znH]
  simp only [wRd,<-zfK]
  congr;funext o;congr;cases o<;>simp [wLs,Ob.isL,Ob.items]
theorem qFz {r:R} {Q:D->Sto->Prop}:Ok (fz r h) Q=wFz r h Q:=by
 cases r with
 | d x=>exact propext ok_fz_d
 | loc l=>
  rw [propext zmK]
  simp only [wFz,<-zfK]
  congr;funext o;congr;cases o<;>simp [wLs,Ob.isL,Ob.items]
theorem qRds:∀ {rs:List R} {h:Sto} {Q:List D->Sto->Prop},Ok (rds rs h) Q=wRds rs h Q
 | [],h,Q=>propext zkF
 | r::rs,h,Q=>by rw [propext zjO,wRds,qRd];simp only [qRds]
theorem qFzs:∀ {rs:List R} {h:Sto} {Q:List D->Sto->Prop},Ok (fzs rs h) Q=wFzs rs h Q
 | [],h,Q=>propext zk5
 | r::rs,h,Q=>by rw [propext zjo,wFzs,qFz];simp only [qFzs]
mutual
theorem qT:∀ (tg:Tg) (r:R) (σ:Env) (h:Sto) (Q:Env->Sto->Prop),Ok (zaN tg r σ h) Q=wT tg r σ h Q
 | .name i,r,σ,h,Q=>by rw [propext zoV,wT]
 | .tup ts,r,σ,h,Q=>by
  rw [propext zrI,wT,qRd]
  congr;funext d h1
  cases d<;>simp [wTup,qTs ts]
theorem qTs:∀ (ts:List Tg) (xs:List D) (σ:Env) (h:Sto) (Q:Env->Sto->Prop),Ok (bindTs ts xs σ h) Q=wTs ts xs σ h Q
 | [],[],σ,h,Q=>by rw [propext zj3,wTs]
 | [],_::_,σ,h,Q=>by simp [bindTs,wTs]
 | t::ts,[],σ,h,Q=>by simp [bindTs,wTs]
 | t::ts,x::xs,σ,h,Q=>by rw [propext zi9,qT t];simp only [qTs ts,wTs]
end
theorem qBI:Ok (zaD tg x σ h) Q=wBI tg x σ h Q:=by
 cases x with
 | r x=>rw [propext w_bI,qT];rfl
 | en i x=>
  match tg with
  | .tup [a,b]=>rw [propext ztR,qT];simp only [qT];rfl
  | .name _=>simp [zaD,wBI]
  | .tup []=>simp [zaD,wBI]
  | .tup [_]=>simp [zaD,wBI]
  | .tup (_::_::_::_)=>simp [zaD,wBI]
theorem qWk {r:R} {Q:Wk->Sto->Prop}:Ok (zaY r h) Q=wWk r h Q:=by
 match r with
 | .d (.tup xs)=>exact propext znX
 | .d (.lst xs)=>exact propext zm4
 | .d (.str _)=>simp [zaY,zbc,wkOf,items,wWk]
 | .d .non=>simp [zaY,zbc,wkOf,items,wWk]
 | .d (.bl _)=>simp [zaY,zbc,wkOf,items,wWk]
 | .d (.int _)=>simp [zaY,zbc,wkOf,items,wWk]
 | .loc l=>rw [propext zmB,zfK];rfl
theorem qEn {r:R} {Q:Wk->Sto->Prop}:(isLs r=true/\Ok (zaY r h) λw h2=>∃ l,zaq 0 w.xs=some l/\Q ⟨l,w.l⟩ h2)=wEn r h Q:=by
 simp only [qWk,zfK]
 match r with
 | .loc l=>simp [isLs,wEn]
 | .d (.lst xs)=>simp [isLs,wEn,wWk]
 | .d .non=>simp [isLs,wEn]
 | .d (.bl _)=>simp [isLs,wEn]
 | .d (.int _)=>simp [isLs,wEn]
 | .d (.str _)=>simp [isLs,wEn]
 | .d (.tup _)=>simp [isLs,wEn]
theorem zo2 {l:Nat}:(∃ xs,h[l]?=some (.lst xs)/\p xs)=wO h[l]? λo=>wLw o p:=by
 cases h[l]? with
 | none=>simp [wO]
 | some o=>cases o<;>simp [wO,wLw]
theorem qMe {m:Me} {l:Nat}:Ok (meth m (.loc l) rs h) Q=wMe m (.loc l) rs h Q:=by
 unfold wMe
 split
 ·rw [propext znG,qFz];simp only [wPl,zo2]
 ·rw [propext zt2];simp only [wPl,zo2,zfK]
 ·rw [propext znR,qRd]
  simp only [wPl]
  congr;funext d h1
  cases d with
  | lst ys=>simp only [D.lst.injEq,exists_and_left,exists_eq_left',zo2,wO]
  | _=>simp [wO]
 ·rfl
end
theorem zru {h:Sto} {l:Nat} {p:Str->List (Str×R)->Prop}:(∃ c fs,h[l]?=some (.ins c fs)/\p c fs)=wO h[l]? λo=>wIn o p:=by
 cases h[l]? with
 | none=>simp [wO]
 | some o=>
  cases o with
  | ins c fs=>
   simp only [wO,wIn,eq_iff_iff]
   constructor
   ·rintro ⟨_,_,e,q⟩;cases e;exact q
   ·intro q;exact ⟨_,_,rfl,q⟩
  | _=>simp [wO,wIn]
theorem zoM {h:Sto} {l:Nat} {c:Str} {p:List (Str×R)->Prop}:(∃ fs,h[l]?=some (.ins c fs)/\p fs)=wO h[l]? λo=>wIn o λc' fs=>c'=c/\p fs:=by
 cases h[l]? with
 | none=>simp [wO]
 | some o=>
  cases o with
  | ins c' fs=>
   simp only [wO,wIn,eq_iff_iff]
   constructor
   ·rintro ⟨_,e,q⟩;cases e;exact ⟨rfl,q⟩
   ·rintro ⟨rfl,q⟩;exact ⟨_,rfl,q⟩
  | _=>simp [wO,wIn]
theorem zoq {x:R} {p:Int->Prop}:(∃ i,x=.d (.int i)/\p i)=wInt x p:=by
 match x with
 | .d (.int i)=>simp [wInt]
 | .loc _ | .d .non | .d (.bl _) | .d (.str _) | .d (.tup _) | .d (.lst _)=>simp [wInt]
theorem zqU {x:R} {p:Bool->Prop}:(∃ i,x=.d (.bl i)/\p i)=wBl x p:=by
 match x with
 | .d (.bl i)=>simp [wBl]
 | .loc _ | .d .non | .d (.int _) | .d (.str _) | .d (.tup _) | .d (.lst _)=>simp [wBl]
theorem ztr {x:R} {f:Str} {h:Sto} {Q:R->Sto->Prop}:Ok (getA x f h) Q=wPl x λl=>wO h[l]? λo=>wIn o λ_ fs=>wO (fs.lookup f) λr=>Q r h:=by
 cases x with
 | d x=>simp [getA,wPl]
 | loc l=>rw [propext zq0];simp only [zfK];rw [zru];rfl
theorem zrf {x:R} {h:Sto} {Q:Unit->Sto->Prop}:Ok (zdo x h) Q=wPl x λl=>wO h[l]? λo=>wLs o λ_=>Q () h:=by
 cases x with
 | d x=>simp [zdo,wPl]
 | loc l=>
  rw [propext zpw]
  simp only [wPl,<-zfK]
  congr;funext o;congr;cases o<;>simp [wLs,Ob.isL]
theorem qIsA {x:R} {c m:Str} {h:Sto} {Q:Unit->Sto->Prop}:Ok (isA x c m h) Q=wPl x λl=>wO h[l]? λo=>wIn o λc' fs=>c'=c/\fs.lookup m=none/\Q () h:=by
 cases x with
 | d x=>simp [isA,wPl]
 | loc l=>rw [propext ztM,zoM];rfl
theorem ztg {x:R} {c f:Str} {v:R} {h:Sto} {Q:Unit->Sto->Prop}:Ok (setN x c f v h) Q=wPl x λl=>wO h[l]? λo=>wIn o λc' fs=>c'=c/\fs.length<900/\Q () (h.set l (.ins c' (putF f v fs))):=by
 cases x with
 | d x=>simp [setN,wPl]
 | loc l=>
  rw [propext zrQ,zoM]
  simp only [wPl]
  cases h[l]? with
  | none=>rfl
  | some o=>
   cases o with
   | ins c' fs=>
    simp only [wO,wIn]
    apply propext
    constructor
    ·rintro ⟨rfl,q⟩;exact ⟨rfl,q⟩
    ·rintro ⟨rfl,q⟩;exact ⟨rfl,q⟩
   | _=>rfl
theorem zoc {h:Sto} {x:R} {p:Nat->List Nat->Prop}:(∃ l ls,x=.loc l/\h[l]?=some (.ols ls)/\p l ls)=wPl x λl=>wO h[l]? λo=>wOl o λls=>p l ls:=by
 cases x with
 | d x=>simp [wPl]
 | loc l=>
  simp only [R.loc.injEq,wPl]
  cases e:h[l]? with
  | none=>
   simp only [wO,eq_iff_iff,iff_false]
   rintro ⟨_,ls,rfl,e2,_⟩
   rw [e] at e2;cases e2
  | some o=>
   simp only [wO,eq_iff_iff]
   constructor
   ·rintro ⟨_,ls,rfl,e2,q⟩
    rw [e] at e2;cases e2
    exact q
   ·intro q
    cases o with
    | ols ls=>exact ⟨l,ls,rfl,e,q⟩
    | _=>exact q.elim
theorem qOix {x y:R} {h:Sto} {Q:R->Sto->Prop}:(∃ l ls k j,x=.loc l/\h[l]?=some (.ols ls)/\y=.d (.int k)/\at' ls k=some j/\Q (.loc j) h)=wPl x λl=>wO h[l]? λo=>wOl o λls=>wInt y λk=>wO (at' ls k) λj=>Q (.loc j) h:=by
 rw [<-zoc (p:=λl ls=>wInt y λk=>wO (at' ls k) λj=>Q (.loc j) h)]
 simp only [<-zoq,<-zfK,eq_iff_iff]
 constructor
 ·rintro ⟨l,ls,k,j,a,b,c,d,q⟩;exact ⟨l,ls,a,b,k,c,j,d,q⟩
 ·rintro ⟨l,ls,a,b,k,c,j,d,q⟩;exact ⟨l,ls,k,j,a,b,c,d,q⟩
theorem qOpt {α:Type} {o:Option α} {h:Sto} {Q:α->Sto->Prop}:Ok (opt o h) Q=wO o λa=>Q a h:=by rw [propext ok_opt,zfK]
theorem qMe' {m:Me} {x:R} {Γ:Calls} {h:Sto} {W:Sto->(List R->Sto->Prop)->Prop} {Q:R->Sto->Prop}:(wPl x λl=>wO h[l]? λo=>wLs o λ_=>W h λrs h3=>Ok (meth m x rs h3) Q)=(wPl x λl=>wO h[l]? λo=>wLs o λ_=>W h λrs h3=>wMe m (.loc l) rs h3 Q):=by
 cases x with
 | d x=>rfl
 | loc l=>simp only [wPl,qMe]
theorem zez {α:Type} {m:Option (α×Sto)} {Q:α->Sto->Prop}:Ok m Q=@Ask α m ⟨Q⟩:=propext zr3
theorem zsY {c m:Str} {x:R} {f:Nat} {Γ:Calls} {h:Sto} {W:Sto->(List R->Sto->Prop)->Prop} {Q:R->Sto->Prop}:(wPl x λl=>wO h[l]? λo=>wIn o λc' fs=>c'=c/\fs.lookup m=none/\W h λrs h3=>Ok (Γ f (x::rs) h3) Q)=(wPl x λl=>wO h[l]? λo=>wIn o λc' fs=>c'=c/\fs.lookup m=none/\W h λrs h3=>@Ask _ (Γ f (.loc l::rs) h3) ⟨Q⟩):=by
 cases x with
 | d x=>rfl
 | loc l=>simp only [wPl,zez]
theorem qDRd {x:R} {h:Sto} {Q:List (D×D)->Sto->Prop}:Ok (dRd x h) Q=wPl x λl=>wO h[l]? λo=>wDc o λkvs=>Q kvs h:=by
 cases x with
 | d x=>simp [dRd,wPl]
 | loc l=>
  simp only [dRd,wPl]
  cases h[l]? with
  | none=>simp [wO]
  | some o=>cases o<;>simp [wO,wDc]
theorem qKRd {x:R} {h:Sto} {Q:D->Sto->Prop}:Ok (kRd x h) Q=wKey x λk=>Q k h:=by
 cases x with
 | loc l=>simp [kRd,wKey]
 | d k=>
  simp only [kRd,wKey]
  cases zaF k<;>simp [wB]
theorem ztP {x:R} {k v:D} {h:Sto} {Q:Unit->Sto->Prop}:Ok (dSet x k v h) Q=wPl x λl=>wO h[l]? λo=>wDw o λkvs=>kvs.length<big/\Q () (h.set l (.dic (dPut k v kvs))):=by
 cases x with
 | d x=>simp [dSet,wPl]
 | loc l=>
  simp only [dSet,wPl]
  cases h[l]? with
  | none=>simp [wO]
  | some o=>
   cases o with
   | dic kvs=>
    simp only [wO,wDw]
    by_cases c:kvs.length<big
    ·simp [c]
    ·simp [c]
   | _=>simp [wO,wDw]
theorem zpO {x:R} {h:Sto} {W:Sto->(R->Sto->Prop)->Prop} {Q:D->List (D×D)->Sto->Prop}:(wPl x λl=>wO h[l]? λo=>wDc o λ_=>W h λy h2=>wPl x λl=>wO h2[l]? λo=>wDc o λkvs=>wKey y λk=>Q k kvs h2)=wPl x λl=>wO h[l]? λo=>wDc o λ_=>W h λy h2=>wO h2[l]? λo=>wDc o λkvs=>wKey y λk=>Q k kvs h2:=by
 cases x<;>rfl
theorem zrx {x:R} {h:Sto} {Q:Wk->Sto->Prop}:Ok (zhn x h) Q=wPl x λl=>wO h[l]? λo=>wDf o λkvs=>Q ⟨kvs.map λp=>dI p.1,some l⟩ h:=by
 cases x with
 | d x=>simp [zhn,wPl]
 | loc l=>
  simp only [zhn,wPl]
  cases h[l]? with
  | none=>simp [wO]
  | some o=>cases o<;>simp [wO,wDf]
theorem qIf {α:Type} {t:Bool} {x y:M α} {h:Sto} {Q:α->Sto->Prop}:Ok ((if t=true then x else y) h) Q=wB t (Ok (x h) Q) (Ok (y h) Q):=by cases t<;>rfl
mutual
theorem qE (Γ:Calls):∀ (e:E) (σ:Env) (h:Sto) (Q:R->Sto->Prop),Ok (ev Γ e σ h) Q=wE Γ e σ h Q
 | .con d,σ,h,Q=>propext ok_ok
 | .var i,σ,h,Q=>by
  refine (propext zt9).trans ?_
  show _=wO σ[i]? λo=>wO o λr=>Q r h
  cases σ[i]? with
  | none=>simp [wO]
  | some o=>cases o<;>simp [wO]
 | .bin o a b,σ,h,Q=>(propext ok_bnd).trans (by simp only [ok_bnd,qE Γ a,qE Γ b,qRd,qOpt,ok_ok];rfl)
 | .neg a,σ,h,Q=>by rw [propext ztn,qE Γ a];simp only [zoq];rfl
 | .cmp o a b,σ,h,Q=>(propext ok_bnd).trans (by simp only [ok_bnd,qE Γ a,qE Γ b,qRd,qOpt,ok_ok];rfl)
 | .and a b,σ,h,Q=>by rw [propext zt0,qE Γ a];simp only [qE Γ b,zqU,zkS];rfl
 | .or a b,σ,h,Q=>by rw [propext w_or,qE Γ a];simp only [qE Γ b,zqU,zqf];rfl
 | .not a,σ,h,Q=>(propext ok_bnd).trans (by simp only [ok_bnd,qE Γ a,qRd,qOpt,ok_ok];rfl)
 | .ife c a b,σ,h,Q=>(propext ok_bnd).trans (by simp only [qC Γ c,qIf,qE Γ a,qE Γ b];rfl)
 | .tup es,σ,h,Q=>(propext ok_bnd).trans (by simp only [ok_bnd,qEs Γ es,qFzs,ok_ok];rfl)
 | .lst true l,σ,h,Q=>(propext ok_bnd).trans (by simp only [qL Γ l,if_true,alloc,ok_some'];rfl)
 | .lst false l,σ,h,Q=>(propext ok_bnd).trans (by simp only [qL Γ l,Bool.false_eq_true,if_false,ok_ok];rfl)
 | .idx a b,σ,h,Q=>(propext ok_bnd).trans (by simp only [ok_bnd,qE Γ a,qE Γ b,qRd,qOpt,ok_ok];rfl)
 | .sli a b c,σ,h,Q=>(propext ok_bnd).trans (by simp only [ok_bnd,qE Γ a,qE Γ b,qE Γ c,qRd,qOpt,ok_ok];rfl)
 | .call f es,σ,h,Q=>(propext ok_bnd).trans (by simp only [ok_bnd,qEs Γ es,zez,ok_ok];rfl)
 | .bi b es,σ,h,Q=>(propext ok_bnd).trans (by simp only [ok_bnd,qEs Γ es,qRds,qOpt,ok_ok];rfl)
 | .me m o es,σ,h,Q=>by
  rw [propext w_me,qE Γ o]
  simp only [zrf,qEs Γ es,qMe' (Γ:=Γ) (W:=λh Q=>wEs Γ es σ h Q)]
  rfl
 | .glo d,σ,h,Q=>propext ok_ok
 | .isi t e,σ,h,Q=>(propext ok_bnd).trans (by simp only [ok_bnd,qE Γ e,qRd,ok_ok];rfl)
 | .lm m o a,σ,h,Q=>(propext ok_bnd).trans (by simp only [ok_bnd,qE Γ o,qE Γ a,qRd,qOpt,ok_ok];rfl)
 | .fld o f,σ,h,Q=>(propext ok_bnd).trans (by simp only [ok_bnd,qE Γ o,ztr,ok_ok];rfl)
 | .make c f es,σ,h,Q=>by rw [propext zs1,qEs Γ es];simp only [zez];rfl
 | .mc c m f o es,σ,h,Q=>by
  rw [propext w_mc,qE Γ o]
  simp only [qIsA,qEs Γ es,zsY (Γ:=Γ) (W:=λh Q=>wEs Γ es σ h Q)]
  rfl
 | .lstO tg it c el,σ,h,Q=>by rw [propext zsX,qI Γ it];simp only [zez];rfl
 | .oix a b,σ,h,Q=>by rw [propext zub,qE Γ a];simp only [qE Γ b,qOix];rfl
 | .olen a,σ,h,Q=>by
  rw [propext zsC,qE Γ a]
  simp only [zoc]
  rfl
 | .dnew,σ,h,Q=>by show Ok (dNew h) Q=_;simp only [dNew,ok_some'];rfl
 | .dof e,σ,h,Q=>(propext ok_bnd).trans (by simp only [ok_bnd,qE Γ e,qRd,qOpt,zmR,ok_some'];rfl)
 | .din neg k d,σ,h,Q=>(propext ok_bnd).trans (by simp only [ok_bnd,qE Γ k,qE Γ d,qDRd,qKRd,ok_ok];rfl)
 | .dgt d k,σ,h,Q=>(propext ok_bnd).trans (by simp only [ok_bnd,qE Γ k,qE Γ d,qDRd,qKRd,ok_ok,zpO (W:=λh Q=>wE Γ k σ h Q) (Q:=λk kvs h2=>Q (.d ((dGet k kvs).getD .non)) h2)];rfl)
 | .ddx d k,σ,h,Q=>(propext ok_bnd).trans (by simp only [ok_bnd,qE Γ k,qE Γ d,qDRd,qKRd,qOpt,ok_ok];rfl)
 | .gdx x kvs k,σ,h,Q=>(propext ok_bnd).trans (by simp only [ok_bnd,qE Γ k,qOpt,ok_ok];rfl)
 | .stuck,σ,h,Q=>by rw [propext ztZ];rfl
theorem qEs (Γ:Calls):∀ (es:List E) (σ:Env) (h:Sto) (Q:List R->Sto->Prop),Ok (evs Γ es σ h) Q=wEs Γ es σ h Q
 | [],σ,h,Q=>propext ok_ok
 | e::es,σ,h,Q=>(propext ok_bnd).trans (by simp only [ok_bnd,qE Γ e,qEs Γ es,ok_ok];rfl)
theorem qC (Γ:Calls):∀ (e:T) (σ:Env) (h:Sto) (Q:Bool->Sto->Prop),Ok (tv Γ e σ h) Q=wC Γ e σ h Q
 | .val e,σ,h,Q=>(propext ok_bnd).trans (by simp only [ok_bnd,qE Γ e,qRd,qOpt,ok_ok];rfl)
 | .and a b,σ,h,Q=>(propext ok_bnd).trans (by simp only [qC Γ a,qIf,qC Γ b,ok_ok];rfl)
 | .or a b,σ,h,Q=>(propext ok_bnd).trans (by simp only [qC Γ a,qIf,qC Γ b,ok_ok];rfl)
 | .not a,σ,h,Q=>(propext ok_bnd).trans (by simp only [ok_bnd,qC Γ a,ok_ok];rfl)
theorem qCs (Γ:Calls):∀ (es:List T) (σ:Env) (h:Sto) (Q:Bool->Sto->Prop),Ok (tvs Γ es σ h) Q=wCs Γ es σ h Q
 | [],σ,h,Q=>propext ok_ok
 | e::es,σ,h,Q=>(propext ok_bnd).trans (by simp only [qC Γ e,qIf,qCs Γ es,ok_ok];rfl)
theorem qL (Γ:Calls):∀ (e:L) (σ:Env) (h:Sto) (Q:List D->Sto->Prop),Ok (evL Γ e σ h) Q=wL Γ e σ h Q
 | .disp es,σ,h,Q=>(propext ok_bnd).trans (by simp only [ok_bnd,qEs Γ es,qFzs,ok_ok];rfl)
 | .comp tg it c el,σ,h,Q=>(propext ok_bnd).trans (by simp only [ok_bnd,qI Γ it,zez,ok_ok];rfl)
 | .rev e,σ,h,Q=>(propext ok_bnd).trans (by simp only [ok_bnd,qE Γ e,qRd,qOpt,ok_ok];rfl)
 | .sdi e,σ,h,Q=>(propext ok_bnd).trans (by simp only [ok_bnd,qE Γ e,qDRd,qOpt];rfl)
theorem qI (Γ:Calls):∀ (e:I) (σ:Env) (h:Sto) (Q:Wk->Sto->Prop),Ok (evI Γ e σ h) Q=wI Γ e σ h Q
 | .seq e,σ,h,Q=>(propext ok_bnd).trans (by simp only [ok_bnd,qE Γ e,qWk,ok_ok];rfl)
 | .rng e,σ,h,Q=>by
  rw [propext ztc,qE Γ e]
  congr;funext r h1
  match r with
  | .d (.int n)=>exact propext zpV
  | .loc _ | .d .non | .d (.bl _) | .d (.str _) | .d (.tup _) | .d (.lst _)=>simp [zfo,wInt]
 | .rng2 a b,σ,h,Q=>(propext ok_bnd).trans (by simp only [ok_bnd,qE Γ a,qE Γ b,ok_ok];rfl)
 | .enu e,σ,h,Q=>by rw [propext ztS,qE Γ e];simp only [qEn];rfl
 | .dic e,σ,h,Q=>(propext ok_bnd).trans (by simp only [ok_bnd,qE Γ e,zrx];rfl)
end
mutual
theorem qS (Γ:Calls):∀ (s:S) (σ:Env) (h:Sto) (Q:Fl×Env->Sto->Prop),Ok (ex Γ s σ h) Q=wS Γ s σ h Q
 | .asg tg e,σ,h,Q=>(propext ok_bnd).trans (by simp only [ok_bnd,qE Γ e,qT,ok_ok];rfl)
 | .setN c o f e,σ,h,Q=>(propext ok_bnd).trans (by simp only [ok_bnd,qE Γ e,qE Γ o,ztg,ok_ok];rfl)
 | .exp e,σ,h,Q=>(propext ok_bnd).trans (by simp only [ok_bnd,qE Γ e,ok_ok];rfl)
 | .ife c a b,σ,h,Q=>(propext ok_bnd).trans (by simp only [qC Γ c,qIf,qSs Γ a,qSs Γ b];rfl)
 | .for tg it b,σ,h,Q=>(propext ok_bnd).trans (by simp only [ok_bnd,qI Γ it,zez,ok_ok];rfl)
 | .ret e,σ,h,Q=>(propext ok_bnd).trans (by simp only [ok_bnd,qE Γ e,ok_ok];rfl)
 | .setD o k e,σ,h,Q=>(propext ok_bnd).trans (by simp only [ok_bnd,qE Γ e,qE Γ o,qE Γ k,qFz,qKRd,ztP,ok_ok];rfl)
 | .stuck,σ,h,Q=>by rw [propext ztU];rfl
theorem qSs (Γ:Calls):∀ (s:List S) (σ:Env) (h:Sto) (Q:Fl×Env->Sto->Prop),Ok (exs Γ s σ h) Q=wSs Γ s σ h Q
 | [],σ,h,Q=>propext ok_ok
 | s::r,σ,h,Q=>by 
  rw [propext zjC,qS Γ s]
  simp only [qSs Γ r]
  try congr
end
theorem st {α:Type} {o:Option α} {a:α} {Q:α->Prop} (e:o=some a) (k:Q a):wO o Q:=by rw [e];exact k
theorem br {t:Bool} {A B:Prop} (a:t=true->A) (b:t=false->B):wB t A B:=by cases t;exact b rfl;exact a rfl
theorem bf {t:Bool} {A B:Prop} (e:t=false) (k:B):wB t A B:=by rw [e];exact k
theorem bt {t:Bool} {A B:Prop} (e:t=true) (k:A):wB t A B:=by rw [e];exact k
theorem gs {Γ:Calls} {s:List S} {σ:Env} {h:Sto} {Q:Fl×Env->Sto->Prop} (k:wSs Γ s σ h Q):Ok (exs Γ s σ h) Q:=(qSs Γ s σ h Q).mpr k
theorem gb {Γ:Calls} {tg:Tg} {x:Ite} {b:List S} {σ:Env} {h:Sto} {Q:Fl×Env->Sto->Prop} (k:wBI tg x σ h λσ' h1=>wSs Γ b σ' h1 Q):Ok (bnd (zaD tg x σ) (λσ'=>exs Γ b σ') h) Q:=by
 rw [propext ok_bnd,qBI]
 simp only [qSs]
 exact k
theorem gc {Γ:Calls} {tg:Tg} {c:List T} {el:E} {x:Ite} {σ:Env} {h:Sto} {Q:Option D->Sto->Prop} (k:wBI tg x (clr tg.slots σ) h λσ' h1=>wCs Γ c σ' h1 λt h2=>wB t (wE Γ el σ' h2 λr h3=>wFz r h3 λd h4=>Q (some d) h4) (Q none h2)):Ok (zmJ Γ tg c el σ x h) Q:=by
 rw [propext zqi,qBI]
 simp only [qCs,qE,qFz,zkS]
 exact k
theorem qPl {x:R} {h:Sto} {Q:Nat->Sto->Prop}:Ok (za5 x h) Q=wPl x λl=>wO h[l]? λo=>wIn o λ_ _=>Q l h:=by
 cases x with
 | d x=>simp [za5,wPl]
 | loc l=>rw [propext zk8,zru];rfl
theorem go {Γ:Calls} {tg:Tg} {c:List T} {el:E} {x:Ite} {σ:Env} {h:Sto} {Q:Option Nat->Sto->Prop} (k:wBI tg x (clr tg.slots σ) h λσ' h1=>wCs Γ c σ' h1 λt h2=>wB t (wE Γ el σ' h2 λr h3=>wPl r λl=>wO h3[l]? λo=>wIn o λ_ _=>Q (some l) h3) (Q none h2)):Ok (zld Γ tg c el σ x h) Q:=by
 rw [propext zpR,qBI]
 simp only [qCs,qE,qPl,zkS]
 exact k
theorem fd {k:Bool} {x:D} {h h1:Sto} {Q:R->Sto->Prop} (o:objs h h1=true) (q:Q (.d x) (h1.take h.length)):Ok (fin h false k (.d x) h1) Q:=zqc.mpr ⟨o,q⟩
theorem f0 {k:Bool} {x:D} {h:Sto} {Q:R->Sto->Prop} (q:Q (.d x) h):Ok (fin h false k (.d x) h) Q:=zqc.mpr ⟨zlJ,by rw [List.take_length];exact q⟩
theorem fa {k:Bool} {x:D} {h t:Sto} {Q:R->Sto->Prop} (q:Q (.d x) h):Ok (fin h false k (.d x) (h++t)) Q:=zqc.mpr ⟨zct,by rw [ziQ];exact q⟩
noncomputable def kF (h:Sto) (all keep:Bool) (Q:R->Sto->Prop) (p:Fl×Env) (h1:Sto):Prop:=match p.1 with
 | .ret r=>Ok (fin h all keep r h1) Q
 | .nx=>Ok (fin h all keep (.d .non) h1) Q
 | _=>False
theorem cl {P:List F} {n f:Nat} {rs:List R} {h:Sto} {Q:R->Sto->Prop} {F:IT.F} (e:P[f]?=some F) (ed:F.dfl=[]) (el:rs.length=F.np)
  (k:wSs (zah P n) F.body (rs.map some++List.replicate (F.ns-F.np) none) h (kF h F.all F.keep Q)):Ok (zah P (n+1) f rs h) Q:=zo9 e ed el (gs k)
theorem cd {P:List F} {n f:Nat} {rs rs':List R} {h:Sto} {Q:R->Sto->Prop} {F:IT.F} (e:P[f]?=some F) (er:zaM F.np F.dfl rs=rs') (el:rs'.length=F.np)
  (k:wSs (zah P n) F.body (rs'.map some++List.replicate (F.ns-F.np) none) h (kF h F.all F.keep Q)):Ok (zah P (n+1) f rs h) Q:=zk2 e er el (gs k)
end IT
namespace K43
open IT
variable {Q:R->Sto->Prop}
noncomputable abbrev eV (i:Nat):E:=.var i
noncomputable abbrev eJ (i:Int):E:=.con (.int i)
noncomputable abbrev eS (x:List Nat):E:=.con (.str x)
noncomputable abbrev eX (a:Nat) (i:Int):E:=.idx (.var a) (.con (.int i))
/- _wall (0): 0 k -/
noncomputable def zoj:List S:=[
 .stuck]
/- right_of (1): 0 table,1 state,2 name,3 right -/
noncomputable def zes:List S:=[
 .for (.tup [(.name 2),(.name 3)]) (.seq (eX 0 0)) [.ife (.val (.cmp .eq (eV 2) (eV 1))) [.ret (eV 3)] []],
 .ret (eS [110,111,110,101])]
/- hand_row (2): 0 table,1 state,2 event -/
noncomputable def zew:List S:=[
 .ret (.call 4 [(eV 0),(.tup [(eS [104,97,110,100]),(eV 1),(eV 2)])])]
/- house_row (3): 0 table,1 state,2 kind,3 last,4 row -/
noncomputable def zdO:List S:=[
 .asg (.name 4) (.call 4 [(eV 0),(.tup [(eS [104,111,117,115,101]),(eV 1),(eV 2),(eS [97,110,121])])]),
 .ife (.val (.cmp .isN (eV 4) (.con .non))) [.asg (.name 4) (.call 4 [(eV 0),(.tup [(eS [104,111,117,115,101]),(eV 1),(eV 2),(.ife (.val (eV 3)) (eS [108,97,115,116]) (eS [109,111,114,101]))])])] [],
 .ret (eV 4)]
/- row_for (4): 0 table,1 head,2 row -/
noncomputable def zfW:List S:=[
 .for (.name 2) (.seq (eX 0 2)) [.ife (.val (.cmp .eq (.sli (eV 2) (.con .non) (.bi .len [(eV 1)])) (eV 1))) [.ret (eV 2)] []],
 .ret (.con .non)]
/- is_wait (5): 0 row -/
noncomputable def zgK:List S:=[
 .ret (.and (.cmp .isnotN (eV 0) (.con .non)) (.cmp .eq (.idx (eV 0) (.neg (eJ 1))) (.glo (.tup [(.tup [(.str [119,97,105,116])])]))))]
/- start (6): 0 table,1 many,2 line -/
noncomputable def zjR:List S:=[
 .asg (.name 2) (.tup [(.idx (.idx (eX 0 0) (eJ 0)) (eJ 0)),(.con .non),(eJ 0),(.tup []),(.tup []),(eJ 0)]),
 .ret (.tup [(.idx (eX 0 1) (eJ 0)),(.glo (.tup [(.int 0),(.int 0)])),(.glo (.tup [(.int 0),(.int 0)])),(.bin .mul (.tup [(eV 2)]) (eV 1))])]
/- clash (7): 0 table,1 standing,2 rights,3 ?1?line -/
noncomputable def zkt:List S:=[
 .asg (.name 2) (.lst false (.comp (.name 3) (.seq (eX 1 3)) [] (.call 1 [(eV 0),(eX 3 0)]))),
 .ret (.and (.cmp .isin (eS [119,114,105,116,101]) (eV 2)) (.cmp .gt (.bin .sub (.bi .len [(eV 2)]) (.lm .count (eV 2) (eS [110,111,110,101]))) (eJ 1)))]
/- has_version_of (8): 0 value,1 last -/
noncomputable def zbv:List S:=[
 .ret (.cmp .eq (eX 0 0) (eX 1 0))]
/- comers (9): 0 way,1 order -/
noncomputable def zih:List S:=[
 .ret (.ife (.val (eV 1)) (.sli (eV 0) (.con .non) (eJ 1)) (eV 0))]
/- mark_of (10): 0 value,1 last -/
noncomputable def zgb:List S:=[
 .ife (.val (.cmp .isN (eV 0) (.con .non))) [.ret (eS [110,111,110,101])] [],
 .ret (.ife (.val (.call 8 [(eV 0),(eV 1)])) (eS [108,97,115,116]) (eS [111,108,100]))]
/- letter_mark (11): 0 value,1 last -/
noncomputable def zcO:List S:=[
 .ret (.ife (.val (.cmp .isN (eV 0) (.con .non))) (eS [98,97,114,101]) (.call 10 [(eV 0),(eV 1)]))]
/- config_of (12): 0 line,1 last -/
noncomputable def zdz:List S:=[
 .ret (.tup [(eX 0 0),(.call 10 [(eX 0 1),(eV 1)]),(.call 13 [(eX 0 3),(eV 1)]),(.call 13 [(eX 0 4),(eV 1)]),(eX 0 5)])]
/- marked_way (13): 0 way,1 last,2 ?1?kind,3 ?1?value -/
noncomputable def zdn:List S:=[
 .ret (.bi .tuple [(.lst false (.comp (.tup [(.name 2),(.name 3)]) (.seq (eV 0)) [] (.tup [(eV 2),(.call 11 [(eV 3),(eV 1)])])))])]
/- start_shape (14): 0 table,1 config -/
noncomputable def zcm:List S:=[
 .asg (.name 1) (.tup [(.idx (.idx (eX 0 0) (eJ 0)) (eJ 0)),(eS [110,111,110,101]),(.tup []),(.tup []),(eJ 0)]),
 .ret (.tup [(.idx (eX 0 1) (eJ 0)),(eS [108,97,115,116]),(.tup [(.tup [(eV 1),(eS [115,111,109,101])])])])]
/- shape_of (15): 0 standing,1 last,2 pairs,3 ?1?line -/
noncomputable def zeP:List S:=[
 .asg (.name 1) (eX 0 2),
 .asg (.name 2) (.lst false (.comp (.name 3) (.seq (eX 0 3)) [] (.tup [(.call 12 [(eV 3),(eV 1)]),(eS [111,110,101])]))),
 .ret (.tup [(eX 0 0),(.call 10 [(eX 0 1),(eV 1)]),(.call 16 [(eV 2)])])]
/- together (16): 0 pairs,1 counts,2 config,3 count -/
noncomputable def zeu:List S:=[
 .asg (.name 1) .dnew,
 .for (.tup [(.name 2),(.name 3)]) (.seq (eV 0)) [.ife (.val (.din true (eV 2) (eV 1))) [.setD (eV 1) (eV 2) (eV 3)] [.ife (.or (.val (.cmp .ne (.ddx (eV 1) (eV 2)) (eS [97,110,121]))) (.val (.cmp .ne (eV 3) (eS [97,110,121])))) [.setD (eV 1) (eV 2) (eS [115,111,109,101])] []]],
 .ret (.bi .tuple [(.lst false (.sdi (eV 1)))])]
/- lies_in (17): 0 standing,1 shape -/
noncomputable def zgA:List S:=[
 .ret (.call 18 [(.call 15 [(eV 0)]),(eV 1)])]
/- is_within (18): 0 shape,1 other,2 here,3 there,4 ?1?config,5 ?2?config,6 ?2?count -/
noncomputable def zd5:List S:=[
 .ife (.or (.val (.cmp .ne (.sli (eV 0) (.con .non) (eJ 2)) (.sli (eV 1) (.con .non) (eJ 2)))) (.val (.cmp .gt (.bi .len [(eX 0 2)]) (.bi .len [(eX 1 2)])))) [.ret (.con (.bl false))] [],
 .asg (.name 2) (.dof (eX 0 2)),
 .asg (.name 3) (.dof (eX 1 2)),
 .ife (.not (.val (.bi .all [(.lst false (.comp (.name 4) (.dic (eV 2)) [] (.din false (eV 4) (eV 3))))]))) [.ret (.con (.bl false))] [],
 .ret (.bi .all [(.lst false (.comp (.tup [(.name 5),(.name 6)]) (.seq (eX 1 2)) [] (.cmp .isin (.dgt (eV 2) (eV 5)) (.gdx "COUNTS_WITHIN" [([111,110,101],(.tup [(.str [111,110,101])])),([115,111,109,101],(.tup [(.str [111,110,101]),(.str [115,111,109,101])])),([97,110,121],(.tup [(.str [111,110,101]),(.str [115,111,109,101]),(.str [97,110,121]),.non]))] (eV 6)))))])]
/- may_clash (19): 0 table,1 shape,2 writers,3 readers,4 ?1?config,5 ?1?count,6 ?2?config,7 ?2?count -/
noncomputable def zd7:List S:=[
 .asg (.name 2) (.lst false (.comp (.tup [(.name 4),(.name 5)]) (.seq (eX 1 2)) [(.val (.cmp .eq (.call 1 [(eV 0),(eX 4 0)]) (eS [119,114,105,116,101])))] (eV 5))),
 .asg (.name 3) (.lst false (.comp (.tup [(.name 6),(.name 7)]) (.seq (eX 1 2)) [(.val (.cmp .eq (.call 1 [(eV 0),(eX 6 0)]) (eS [114,101,97,100])))] (eV 7))),
 .ife (.not (.val (eV 2))) [.ret (.con (.bl false))] [],
 .ret (.or (.cmp .ne (eV 2) (.lst false (.disp [(eS [111,110,101])]))) (.cmp .ne (eV 3) (.lst false (.disp []))))]
/- may_be_stuck (20): 0 table,1 shape,2 order,3 held,4 config,5 count -/
noncomputable def zb0:List S:=[
 .asg (.name 3) (.con (.bl false)),
 .for (.tup [(.name 4),(.name 5)]) (.seq (eX 1 2)) [.ife (.val (.call 21 [(eV 0),(eX 1 0),(eV 4),(eV 2)])) [.ife (.val (.cmp .ne (eV 5) (eS [97,110,121]))) [.ret (.con (.bl false))] []] [.ife (.val (eX 4 3)) [.asg (.name 3) (.con (.bl true))] []]],
 .ret (eV 3)]
/- may_move (21): 0 table,1 state,2 config,3 order,4 ?1?letter -/
noncomputable def zex:List S:=[
 .ife (.val (eX 2 2)) [.ret (.con (.bl true))] [],
 .ret (.not (.bi .all [(.lst false (.comp (.name 4) (.seq (.call 9 [(eX 2 3),(eV 3)])) [] (.call 22 [(eV 0),(eV 1),(eV 4)])))]))]
/- waits (22): 0 table,1 state,2 letter -/
noncomputable def zlW:List S:=[
 .ret (.call 5 [(.call 3 [(eV 0),(eV 1),(eX 2 0),(.con (.bl true))])])]
/- may_be_done (23): 0 table,1 hall,2 deed -/
noncomputable def zco:List S:=[
 .ife (.or (.val (.cmp .lt (eX 2 1) (eJ 0))) (.val (.cmp .ge (eX 2 1) (.olen (.fld (eV 1) "lines"))))) [.ret (.con (.bl false))] [],
 .ife (.val (.cmp .eq (eX 2 0) (eS [97,115,107]))) [.ret (.and (.cmp .isin (eX 2 2) (.glo (.tup [(.str [114,101,97,100]),(.str [119,114,105,116,101]),(.str [100,114,111,112])]))) (.cmp .isnotN (.call 25 [(eV 0),(eV 1),(eV 2)]) (.con .non)))] [],
 .ife (.or (.val (.cmp .lt (eX 2 2) (eJ 0))) (.val (.cmp .ge (eX 2 2) (.bi .len [(.call 24 [(eV 1),(eV 2)])])))) [.ret (.con (.bl false))] [],
 .ret (.not (.call 5 [(.call 25 [(eV 0),(eV 1),(eV 2)])]))]
/- way_of (24): 0 hall,1 deed,2 line -/
noncomputable def zi2:List S:=[
 .asg (.name 2) (.oix (.fld (eV 0) "lines") (eX 1 1)),
 .ret (.ife (.val (.cmp .eq (eX 1 0) (eS [116,97,107,101]))) (.fld (eV 2) "to") (.fld (eV 2) "back"))]
/- row_for_deed (25): 0 table,1 hall,2 deed,3 state,4 kind -/
noncomputable def zbV:List S:=[
 .asg (.name 3) (.fld (.oix (.fld (eV 1) "lines") (eX 2 1)) "state"),
 .ife (.val (.cmp .eq (eX 2 0) (eS [97,115,107]))) [.ret (.call 2 [(eV 0),(eV 3),(eX 2 2)])] [],
 .asg (.name 4) (.idx (.idx (.call 24 [(eV 1),(eV 2)]) (eX 2 2)) (eJ 0)),
 .ife (.val (.cmp .eq (eX 2 0) (eS [116,97,107,101]))) [.ret (.call 2 [(eV 0),(eV 3),(eV 4)])] [],
 .ret (.call 3 [(eV 0),(.fld (eV 1) "state"),(eV 4),(.not (.mc "Hall" "other_sharers" 42 (eV 1) [(eX 2 1)]))])]
/- may (26): 0 table,1 standing,2 order,3 hall,4 deeds,5 hand,6 line,7 ?1?deed -/
noncomputable def zss:List S:=[
 .asg (.name 3) (.make "Hall" 40 [(eV 1)]),
 .asg (.name 4) (.lst true (.disp [])),
 .for (.tup [(.name 5),(.name 6)]) (.enu (.fld (eV 3) "lines")) [.exp (.me .extend (eV 4) [(.call 27 [(eV 5)])]),.exp (.me .extend (eV 4) [(.call 28 [(eS [116,97,107,101]),(eV 5),(.fld (eV 6) "to"),(eV 2)])]),.exp (.me .extend (eV 4) [(.call 28 [(eS [103,101,116]),(eV 5),(.fld (eV 6) "back"),(eV 2)])])],
 .ret (.lst false (.comp (.name 7) (.seq (eV 4)) [(.val (.call 23 [(eV 0),(eV 3),(eV 7)]))] (eV 7)))]
/- asks_of (27): 0 hand -/
noncomputable def zgQ:List S:=[
 .ret (.lst false (.disp [(.tup [(eS [97,115,107]),(eV 0),(eS [114,101,97,100])]),(.tup [(eS [97,115,107]),(eV 0),(eS [119,114,105,116,101]),(eJ 0)]),(.tup [(eS [97,115,107]),(eV 0),(eS [100,114,111,112])])]))]
/- letters_of (28): 0 word,1 hand,2 way,3 order,4 ?1?number -/
noncomputable def zdi:List S:=[
 .ret (.lst false (.comp (.name 4) (.rng (.bi .len [(.call 9 [(eV 2),(eV 3)])])) [] (.tup [(eV 0),(eV 1),(eV 4)])))]
/- stuck (29): 0 table,1 standing,2 order,3 ?1?line,4 ?2?deed -/
noncomputable def zku:List S:=[
 .ife (.not (.val (.bi .any [(.lst false (.comp (.name 3) (.seq (eX 1 3)) [] (.bin .add (eX 3 3) (eX 3 4))))]))) [.ret (.con (.bl false))] [],
 .ret (.bi .all [(.lst false (.comp (.name 4) (.seq (.call 26 [(eV 0),(eV 1),(eV 2)])) [] (.cmp .eq (eX 4 0) (eS [97,115,107]))))])]
/- _law_mixed (30): 0 _law_cell,1 _law_k,2 _law_number -/
noncomputable def zfZ:List S:=[
 .asg (.name 2) (.bin .mod (.bin .mul (.bin .add (.bin .add (eV 0) (.bin .mul (eJ 7919) (eV 1))) (eJ 1)) (eJ 48271)) (eJ 2147483647)),
 .asg (.name 2) (.bin .mod (.bin .mul (eV 2) (.bin .add (.bin .fdiv (eV 2) (eJ 1009)) (eJ 69621))) (eJ 2147483647)),
 .ret (.bin .mod (.bin .mul (eV 2) (.bin .add (.bin .fdiv (eV 2) (eJ 1013)) (eJ 40692))) (eJ 2147483647))]
/- _law_pool (31): 0 _law_script,1 _law_k,2 _law_cell,3 _law_found,4 _law_number,5 _law_turn -/
noncomputable def zii:List S:=[
 .asg (.name 2) (eJ 0),
 .ife (.val (.cmp .lt (eV 1) (.bi .len [(eV 0)]))) [.asg (.name 2) (.idx (eV 0) (eV 1))] [],
 .asg (.name 3) (.lst true (.disp [])),
 .asg (.name 4) (.bin .fdiv (eV 2) (eJ 2)),
 .for (.name 5) (.rng (eJ 60)) [.ife (.and (.val (.cmp .eq (.bin .mod (eV 2) (eJ 2)) (eJ 0))) (.val (.cmp .gt (eV 4) (eJ 0)))) [.exp (.me .append (eV 3) [(.bin .mod (eV 4) (eJ 64))]),.asg (.name 4) (.bin .fdiv (eV 4) (eJ 64))] [.exp (.me .append (eV 3) [(.call 30 [(eV 2),(eV 5)])])]],
 .ret (.lst true (.rev (eV 3)))]
/- _law_take (32): 0 _law_pool_here,1 _law_size -/
noncomputable def zie:List S:=[
 .ife (.val (.cmp .eq (eV 0) (.lst false (.disp [])))) [.ret (eJ 0)] [],
 .ret (.bin .mod (.me .pop (eV 0) []) (eV 1))]
/- _law_table (33): 0 _law_pool_here,1 _law_hands,2 _law_rows,3 _law_house,4 _law_kind,5 _law_way_here,6 ?1?_law_state -/
noncomputable def zgz:List S:=[
 .asg (.name 1) (.bi .tuple [(.lst false (.comp (.name 6) (.seq (.tup [(eS [105,97]),(eS [105,98]),(eS [105,99])])) [] (.tup [(eV 6),(.idx (.lst false (.disp [(eS [110,111,110,101]),(eS [114,101,97,100]),(eS [119,114,105,116,101])])) (.call 32 [(eV 0),(eJ 3)]))])))]),
 .asg (.name 2) (.lst true (.disp [])),
 .for (.name 3) (.seq (.tup [(eS [104,97]),(eS [104,98])])) [.for (.name 4) (.seq (.tup [(eS [103,97]),(eS [103,98])])) [.asg (.name 5) (.call 32 [(eV 0),(eJ 6)]),.ife (.val (.cmp .lt (eV 5) (eJ 3))) [.exp (.me .append (eV 2) [(.tup [(eS [104,111,117,115,101]),(eV 3),(eV 4),(eS [97,110,121]),(eV 3),(.tup [(.tup [(eS [119,97,105,116])])])])])] [.ife (.val (.cmp .eq (eV 5) (eJ 3))) [.exp (.me .append (eV 2) [(.tup [(eS [104,111,117,115,101]),(eV 3),(eV 4),(eS [97,110,121]),(eS [104,97]),(.tup [(.tup [(eS [107,101,101,112])])])])])] [.ife (.val (.cmp .eq (eV 5) (eJ 4))) [.exp (.me .append (eV 2) [(.tup [(eS [104,111,117,115,101]),(eV 3),(eV 4),(.idx (.lst false (.disp [(eS [108,97,115,116]),(eS [109,111,114,101])])) (.call 32 [(eV 0),(eJ 2)])),(eS [104,98]),(.tup [])])])] []]]]],
 .ret (.tup [(eV 1),(.idx (.lst false (.disp [(.tup [(eS [104,97]),(eS [104,98])]),(.tup [(eS [104,98]),(eS [104,97]),(eS [104,99])])])) (.call 32 [(eV 0),(eJ 2)])),(.bi .tuple [(eV 2)])])]
/- _law_way (34): 0 _law_pool_here,1 _law_marks,2 _law_found,3 _law_k -/
noncomputable def zk7:List S:=[
 .asg (.name 1) (.lst false (.disp [(.tup [(eS [98,97,114,101]),(.con .non)]),(.tup [(eS [108,97,115,116]),(.tup [(eJ 1),(eJ 0)])]),(.tup [(eS [111,108,100]),(.tup [(eJ 0),(eJ 0)])])])),
 .asg (.name 2) (.lst true (.disp [])),
 .for (.name 3) (.rng (.idx (.lst false (.disp [(eJ 0),(eJ 0),(eJ 1),(eJ 2)])) (.call 32 [(eV 0),(eJ 4)]))) [.exp (.me .append (eV 2) [(.tup [(.idx (.lst false (.disp [(eS [103,97]),(eS [103,98])])) (.call 32 [(eV 0),(eJ 2)])),(.idx (eV 1) (.call 32 [(eV 0),(eJ 3)]))])])],
 .ret (eV 2)]
/- _law_sort (35): 0 _law_pool_here,1 _law_state,2 _law_mark,3 _law_value,4 _law_to,5 _law_back,6 _law_flags,7 _law_ways,8 _law_letters,9 ?1?_law_way_here,10 ?2?_law_kind,11 ?2?_law_one,12 ?3?_law_way_here,13 ?4?_law_kind,14 ?4?_law_one -/
noncomputable def ze0:List S:=[
 .asg (.name 1) (.idx (.lst false (.disp [(eS [105,97]),(eS [105,98]),(eS [105,99])])) (.call 32 [(eV 0),(eJ 3)])),
 .asg (.tup [(.name 2),(.name 3)]) (.idx (.lst false (.disp [(.tup [(eS [110,111,110,101]),(.con .non)]),(.tup [(eS [108,97,115,116]),(.tup [(eJ 1),(eJ 0)])]),(.tup [(eS [111,108,100]),(.tup [(eJ 0),(eJ 0)])])])) (.call 32 [(eV 0),(eJ 3)])),
 .asg (.name 4) (.lst false (.disp [])),
 .ife (.val (.cmp .eq (.call 32 [(eV 0),(eJ 3)]) (eJ 0))) [.asg (.name 4) (.call 34 [(eV 0)])] [],
 .asg (.name 5) (.call 34 [(eV 0)]),
 .asg (.name 6) (.call 32 [(eV 0),(eJ 4)]),
 .asg (.name 7) (.lst false (.comp (.name 9) (.seq (.tup [(eV 4),(eV 5)])) [] (.bi .tuple [(.lst false (.comp (.tup [(.name 10),(.name 11)]) (.seq (eV 9)) [] (.tup [(eV 10),(eX 11 0)])))]))),
 .asg (.name 8) (.lst false (.comp (.name 12) (.seq (.tup [(eV 4),(eV 5)])) [] (.bi .tuple [(.lst false (.comp (.tup [(.name 13),(.name 14)]) (.seq (eV 12)) [] (.tup [(eV 13),(eX 14 1)])))]))),
 .ret (.tup [(.tup [(eV 1),(eV 2),(eX 7 0),(eX 7 1),(eV 6)]),(.tup [(eV 1),(eV 3),(eJ 0),(eX 8 0),(eX 8 1),(eV 6)])])]
/- _law_standings (36): 0 _law_house,1 _law_sorts,2 _law_counts,3 _law_found,4 _law_config,5 _law_line,6 _law_longer,7 _law_many,8 _law_lines,9 ?1?_law_lines -/
noncomputable def zcJ:List S:=[
 .asg (.name 3) (.lst false (.disp [(.tup [])])),
 .for (.tup [(.name 4),(.name 5)]) (.seq (eV 1)) [.asg (.name 6) (.lst true (.disp [])),.for (.name 7) (.seq (.idx (.lst false (.disp [(.lst false (.disp [(eJ 1)])),(.lst false (.disp [(eJ 1),(eJ 2)])),(.lst false (.disp [(eJ 0),(eJ 1),(eJ 2)]))])) (.lm .index (.lst false (.disp [(eS [111,110,101]),(eS [115,111,109,101]),(eS [97,110,121])])) (.ddx (eV 2) (eV 4))))) [.for (.name 8) (.seq (eV 3)) [.exp (.me .append (eV 6) [(.bin .add (eV 8) (.bin .mul (.tup [(eV 5)]) (eV 7)))])]],.asg (.name 3) (eV 6)],
 .ret (.lst false (.comp (.name 9) (.seq (eV 3)) [(.val (.cmp .ne (eV 9) (.tup [])))] (.tup [(eV 0),(.tup [(eJ 1),(eJ 0)]),(.tup [(eJ 1),(eJ 0)]),(eV 9)])))]
/- _law_truth (37): 0 _law_found,1 _law_due -/
noncomputable def zgW:List S:=[
 .ret (.and (.isi .bool (eV 0)) (.cmp .eq (eV 0) (eV 1)))]
/- law (38): 0 _law_script,1 _law_table_here,2 _law_pool_here,3 _law_sorts,4 _law_k,5 _law_one,6 _law_counts,7 _law_config,8 _law_line,9 _law_house,10 _law_shape,11 _law_standings_here,12 _law_order,13 _law_due,14 _law_begin,15 ?1?_law_config,16 ?1?_law_line,17 ?2?_law_standing,18 ?3?_law_standing,19 ?4?_law_standing,20 ?5?_law_many -/
noncomputable def zqb:List S:=[
 .asg (.name 1) (.call 33 [(.call 31 [(eV 0),(eJ 0)])]),
 .asg (.name 2) (.call 31 [(eV 0),(eJ 1)]),
 .asg (.name 3) (.lst true (.disp [])),
 .for (.name 4) (.rng (.bin .add (eJ 1) (.call 32 [(eV 2),(eJ 4)]))) [.asg (.name 5) (.call 35 [(eV 2)]),.ife (.val (.cmp .notin (eX 5 0) (.lst false (.comp (.tup [(.name 15),(.name 16)]) (.seq (eV 3)) [] (eV 15))))) [.exp (.me .append (eV 3) [(eV 5)])] []],
 .asg (.name 6) .dnew,
 .for (.tup [(.name 7),(.name 8)]) (.seq (eV 3)) [.setD (eV 6) (eV 7) (.idx (.lst false (.disp [(eS [111,110,101]),(eS [115,111,109,101]),(eS [97,110,121])])) (.call 32 [(eV 2),(eJ 3)]))],
 .asg (.name 9) (.idx (.lst false (.disp [(eS [104,97]),(eS [104,98])])) (.call 32 [(eV 2),(eJ 2)])),
 .asg (.name 10) (.tup [(eV 9),(eS [108,97,115,116]),(.bi .tuple [(.lst false (.sdi (eV 6)))])]),
 .asg (.name 11) (.call 36 [(eV 9),(eV 3),(eV 6)]),
 .ife (.not (.val (.bi .all [(.lst false (.comp (.name 17) (.seq (eV 11)) [] (.call 17 [(eV 17),(eV 10)])))]))) [.ret (.con (.bl false))] [],
 .ife (.not (.val (.call 37 [(.call 19 [(eV 1),(eV 10)]),(.bi .any [(.lst false (.comp (.name 18) (.seq (eV 11)) [] (.call 7 [(eV 1),(eV 18)])))])]))) [.ret (.con (.bl false))] [],
 .for (.name 12) (.seq (.tup [(.con (.bl true)),(.con (.bl false))])) [.asg (.name 13) (.bi .any [(.lst false (.comp (.name 19) (.seq (eV 11)) [] (.call 29 [(eV 1),(eV 19),(eV 12)])))]),.ife (.not (.val (.call 37 [(.call 20 [(eV 1),(eV 10),(eV 12)]),(eV 13)]))) [.ret (.con (.bl false))] []],
 .ife (.val (.cmp .ne (.call 20 [(eV 1),(eV 10)]) (.call 20 [(eV 1),(eV 10),(.con (.bl true))]))) [.ret (.con (.bl false))] [],
 .asg (.name 14) (.call 14 [(eV 1)]),
 .ife (.val (.cmp .ne (eV 14) (.tup [(.idx (eX 1 1) (eJ 0)),(eS [108,97,115,116]),(.tup [(.tup [(.tup [(.idx (.idx (eX 1 0) (eJ 0)) (eJ 0)),(eS [110,111,110,101]),(.tup []),(.tup []),(eJ 0)]),(eS [115,111,109,101])])])]))) [.ret (.con (.bl false))] [],
 .ret (.bi .all [(.lst false (.comp (.name 20) (.rng2 (eJ 1) (eJ 6)) [] (.call 17 [(.call 6 [(eV 1),(eV 20)]),(eV 14)])))])]
/- OpenLine.__init__ (39): 0 self,1 line -/
noncomputable def zbe:List S:=[
 .setN "OpenLine" (eV 0) "state" (eX 1 0),
 .setN "OpenLine" (eV 0) "value" (eX 1 1),
 .setN "OpenLine" (eV 0) "want" (eX 1 2),
 .setN "OpenLine" (eV 0) "to" (eX 1 3),
 .setN "OpenLine" (eV 0) "back" (eX 1 4),
 .setN "OpenLine" (eV 0) "flags" (eX 1 5)]
/- Hall.__init__ (40): 0 self,1 standing,2 ?1?line -/
noncomputable def zcq:List S:=[
 .setN "Hall" (eV 0) "state" (eX 1 0),
 .setN "Hall" (eV 0) "store" (eX 1 1),
 .setN "Hall" (eV 0) "last" (eX 1 2),
 .setN "Hall" (eV 0) "lines" (.lstO (.name 2) (.seq (eX 1 3)) [] (.make "OpenLine" 39 [(eV 2)])),
 .setN "Hall" (eV 0) "answer" (.con .non),
 .setN "Hall" (eV 0) "broken" (.con .non)]
/- Hall.hands_with (41): 0 self,1 flag,2 ?1?hand,3 ?1?line -/
noncomputable def za0:List S:=[
 .ret (.lst false (.comp (.tup [(.name 2),(.name 3)]) (.enu (.fld (eV 0) "lines")) [(.val (.bin .band (.fld (eV 3) "flags") (eV 1)))] (eV 2)))]
/- Hall.other_sharers (42): 0 self,1 sender,2 ?1?hand -/
noncomputable def zaP:List S:=[
 .ret (.lst false (.comp (.name 2) (.seq (.mc "Hall" "hands_with" 41 (eV 0) [(.glo (.int 1))])) [(.val (.cmp .ne (eV 2) (eV 1)))] (eV 2)))]
noncomputable def P:List F:=[⟨1,1,zoj,false,[],false⟩,⟨2,4,zes,false,[],false⟩,⟨3,3,zew,false,[],false⟩,⟨4,5,zdO,false,[],false⟩,⟨2,3,zfW,false,[],false⟩,⟨1,1,zgK,false,[],false⟩,⟨2,3,zjR,false,[],false⟩,⟨2,4,zkt,false,[],false⟩,⟨2,2,zbv,false,[],false⟩,⟨2,2,zih,false,[],false⟩,⟨2,2,zgb,false,[],false⟩,⟨2,2,zcO,false,[],false⟩,⟨2,2,zdz,false,[],false⟩,⟨2,4,zdn,false,[],false⟩,⟨1,2,zcm,false,[],false⟩,⟨1,4,zeP,false,[],false⟩,⟨1,4,zeu,false,[],false⟩,⟨2,2,zgA,false,[],false⟩,⟨2,7,zd5,false,[],false⟩,⟨2,8,zd7,false,[],false⟩,⟨3,6,zb0,false,[(.bl true)],false⟩,⟨4,5,zex,false,[],false⟩,⟨3,3,zlW,false,[],false⟩,⟨3,3,zco,false,[],false⟩,⟨2,3,zi2,false,[],false⟩,⟨3,5,zbV,false,[],false⟩,⟨3,8,zss,false,[(.bl true)],false⟩,⟨1,1,zgQ,false,[],false⟩,⟨4,5,zdi,false,[],false⟩,⟨3,5,zku,false,[(.bl true)],false⟩,⟨2,3,zfZ,false,[],false⟩,⟨2,6,zii,true,[],false⟩,⟨2,2,zie,false,[],false⟩,⟨1,7,zgz,false,[],false⟩,⟨1,4,zk7,false,[],false⟩,⟨1,15,ze0,false,[],false⟩,⟨3,10,zcJ,false,[],false⟩,⟨2,2,zgW,false,[],false⟩,⟨1,21,zqb,false,[],false⟩,⟨2,2,zbe,false,[],true⟩,⟨2,3,zcq,false,[],true⟩,⟨2,4,za0,false,[],false⟩,⟨2,3,zaP,false,[],false⟩]
end K43
namespace K43.H
open IT
variable {Q:R->Sto->Prop}
noncomputable abbrev Lt:=List Nat×D
noncomputable def letD (p:Lt):D:=.tup [.str p.1,p.2]
structure Ln where
 st:List Nat
 v:D
 to:List Lt
 back:List Lt
 fl:Int
noncomputable def lnD (l:Ln):D:=.tup [.str l.st,l.v,.int 0,.tup (l.to.map letD),.tup (l.back.map letD),.int l.fl]
noncomputable def opnF (l:Ln):List (PySem.Str×R):=[("state",.d (.str l.st)),("value",.d l.v),("want",.d (.int 0)),("to",.d (.tup (l.to.map letD))),("back",.d (.tup (l.back.map letD))),("flags",.d (.int l.fl))]
noncomputable def halF (s:List Nat) (a b:D) (q:Nat):List (PySem.Str×R):=[("state",.d (.str s)),("store",.d a),("last",.d b),("lines",.loc q),("answer",.d .non),("broken",.d .non)]
theorem zts:(halF s a b q).lookup ("other_sharers":PySem.Str)=none:=rfl
theorem ztj:(halF s a b q).lookup ("hands_with":PySem.Str)=none:=rfl
theorem i4:idxD (.tup [x,y,z,w,u,v]) (.int 4)=some u:=zbA (by decide) rfl
theorem i5:idxD (.tup [x,y,z,w,u,v]) (.int 5)=some v:=zbA (by decide) rfl
theorem zkd (n:Nat) (k:Q (.d .non) (h++[.ins "OpenLine" (opnF l)])):Ok (zah P (n+1) 39 [.loc h.length,.d (lnD l)] (h++[.ins "OpenLine" []])) Q:=by
 refine cl rfl rfl rfl ?_
 refine st zac ⟨rfl,(by decide:0<900),?_⟩
 rw [zao]
 refine st zac ⟨rfl,(by decide:1<900),?_⟩
 rw [zao]
 refine st zac ⟨rfl,(by decide:2<900),?_⟩
 rw [zao]
 refine st zac ⟨rfl,(by decide:3<900),?_⟩
 rw [zao]
 refine st zac ⟨rfl,(by decide:4<900),?_⟩
 rw [zao]
 refine st zac ⟨rfl,(by decide:5<900),?_⟩
 rw [zao]
 exact zle.mpr k
noncomputable def zbU (p:Nat) (n:Nat):List Nat:=(List.range n).map (p+·)
noncomputable def halS (p:Nat) (s:List Nat) (a b:D) (ls:List Ln):Sto:=.ins "Hall" (halF s a b (p+1+ls.length))::(ls.map λl=>.ins "OpenLine" (opnF l))++[.ols (zbU (p+1) ls.length)]
noncomputable def stdD (s:List Nat) (a b:D) (ls:List Ln):D:=.tup [.str s,a,b,.tup (ls.map lnD)]
theorem zlU (n:Nat) (k:Q (.d .non) (h++halS h.length s a b ls)):Ok (zah P (n+2) 40 [.loc h.length,.d (stdD s a b ls)] (h++[.ins "Hall" []])) Q:=by
 refine cl rfl rfl rfl ?_
 refine st zac ⟨rfl,(by decide:0<900),?_⟩
 rw [zao]
 refine st zac ⟨rfl,(by decide:1<900),?_⟩
 rw [zao]
 refine st zac ⟨rfl,(by decide:2<900),?_⟩
 rw [zao]
 refine ask ?_
 rw [List.map_map]
 refine zeg (g:=dI∘lnD) (λi ys h'=>i<=ls.length/\ys=zbU (h.length+1) i/\h'=h++.ins "Hall" [("state",.d (.str s)),("store",.d a),("last",.d b)]::((ls.take i).map λl=>.ins "OpenLine" (opnF l))) ?_ ?_ ⟨by omega,rfl,rfl⟩
 ·rintro i l ys h' hl ⟨hi,rfl,rfl⟩
  have hi2:i<ls.length:=(List.getElem?_eq_some_iff.mp hl).1
  have e1:h++.ins "Hall" [("state",.d (.str s)),("store",.d a),("last",.d b)]::((ls.take (i+1)).map λl=>Ob.ins "OpenLine" (opnF l))=(h++.ins "Hall" [("state",.d (.str s)),("store",.d a),("last",.d b)]::((ls.take i).map λl=>Ob.ins "OpenLine" (opnF l)))++[.ins "OpenLine" (opnF l)]:=by
   rw [List.take_add_one,hl]
   simp
  have e2:(h++.ins "Hall" [("state",.d (.str s)),("store",.d a),("last",.d b)]::((ls.take i).map λl=>Ob.ins "OpenLine" (opnF l))).length=h.length+1+i:=by
   simp
   omega
  rw [e1]
  generalize (h++.ins "Hall" [("state",.d (.str s)),("store",.d a),("last",.d b)]::((ls.take i).map λl=>Ob.ins "OpenLine" (opnF l)))=h1 at e2 ⊢
  refine go ?_
  refine ask (zkd n ⟨rfl,?_⟩)
  refine st zac ?_
  refine ⟨rfl,by omega,?_,rfl⟩
  rw [e2]
  unfold zbU
  rw [List.range_succ,List.map_append]
  rfl
 ·rintro ys h' ⟨hi,rfl,rfl⟩
  rw [List.take_length]
  ac_rfl
  simp only [List.append_assoc,List.cons_append,List.length_append,List.length_cons,List.length_map]
  refine st zac ⟨rfl,(by decide:3<900),?_⟩
  rw [zao]
  refine st zac ⟨rfl,(by decide:4<900),?_⟩
  rw [zao]
  refine st zac ⟨rfl,(by decide:5<900),?_⟩
  rw [zao]
  refine zle.mpr ?_
  have e:halS h.length s a b ls=.ins "Hall" (halF s a b (h.length+(ls.length+1)))::((ls.map λl=>Ob.ins "OpenLine" (opnF l))++[.ols (zbU (h.length+1) ls.length)]):=by
   unfold halS
   rw [show h.length+1+ls.length=h.length+(ls.length+1) by omega]
   rfl
  rw [e] at k
  exact k
noncomputable def zb1 (h:Sto) (p:Nat) (s:List Nat) (ls:List Ln):Prop:=∃ a b q,h[p]?=some (.ins "Hall" (halF s a b q))/\h[q]?=some (.ols (zbU (p+1) ls.length))/\∀ i l,ls[i]?=some l->h[p+1+i]?=some (.ins "OpenLine" (opnF l))
theorem zdY {p n:Nat} {i:Int} (h0:0<=i) (h1:i<n):at' (zbU p n) i=some (p+i.toNat):=by
 unfold at' ixn zbU
 simp only [List.length_map,List.length_range,if_pos h0,if_pos h1]
 rw [List.getElem?_map,List.getElem?_range (by omega)]
 rfl
theorem znM:zb1 (h++halS h.length s a b ls++t) h.length s ls:=by
 unfold halS
 refine ⟨a,b,h.length+1+ls.length,?_,?_,λi l e=>?_⟩
 ·rw [List.append_assoc,List.getElem?_append_right (Nat.le_refl _),Nat.sub_self]
  rfl
 ·rw [List.append_assoc,List.getElem?_append_right (by omega),show h.length+1+ls.length-h.length=ls.length+1 by omega]
  simp
 ·have hi:i<ls.length:=(List.getElem?_eq_some_iff.mp e).1
  rw [List.append_assoc,List.getElem?_append_right (by omega),show h.length+1+i-h.length=i+1 by omega]
  simp only [List.cons_append,List.getElem?_cons_succ,List.append_assoc]
  rw [List.getElem?_append_left (by simpa using hi),List.getElem?_map,e]
  rfl
noncomputable abbrev kask:List Nat:=[97,115,107]
noncomputable abbrev ktake:List Nat:=[116,97,107,101]
noncomputable abbrev kget:List Nat:=[103,101,116]
noncomputable abbrev khand:List Nat:=[104,97,110,100]
noncomputable abbrev zlP:List Nat:=[104,111,117,115,101]
noncomputable abbrev kany:List Nat:=[97,110,121]
noncomputable abbrev klast:List Nat:=[108,97,115,116]
noncomputable abbrev ztw:List Nat:=[109,111,114,101]
noncomputable def deedD (w:List Nat) (k:Int) (x:D) (t:List D):D:=.tup (.str w::.int k::x::t)
noncomputable def zek (w:List Nat) (l:Ln):List Lt:=if w=ktake then l.to else l.back
theorem way_call (n:Nat) {h:Sto} {k:Nat} {x:D} {t:List D} {l:Ln} (H:zb1 h p s ls) (el:ls[k]?=some l) (kq:Q (.d (.tup ((zek w l).map letD))) h):Ok (zah P (n+1) 24 [.loc p,.d (deedD w k x t)] h) Q:=by
 refine cl rfl rfl rfl ?_
 obtain ⟨a,b,q,e1,e2,e3⟩:=H
 have hk:k<ls.length:=(List.getElem?_eq_some_iff.mp el).1
 have e4:=e3 k l el
 refine st e1 ?_
 refine st zdf ?_
 refine st e2 ?_
 refine st (zdY (by omega) (by omega)) ?_
 refine st zbi ?_
 refine br (λc=>?_) (λc=>?_)
 ·have c':w=ktake:=eq_of_beq c
  refine st e4 ?_
  refine f0 ?_
  unfold zek at kq
  rwa [if_pos c'] at kq
 ·have c':¬ w=ktake:=ne_of_beq_false c
  refine st e4 ?_
  refine f0 ?_
  unfold zek at kq
  rwa [if_neg c'] at kq
noncomputable def begins (hd:List D):D->Bool
 | .tup r=>D.eqbs (r.take hd.length) hd
 | _=>false
noncomputable def isT:D->Bool
 | .tup _=>true
 | _=>false
noncomputable def firstR (rows:List D) (hd:List D):Option D:=rows.find? (begins hd)
noncomputable def optD:Option D->D
 | some d=>d
 | none=>.non
theorem zca (n:Nat) (ht:∀ r∈rows,isT r=true) (hdep:(D.tup hd).dep<=60) (kq:Q (.d (optD (firstR rows hd))) h):Ok (zah P (n+1) 4 [.d (.tup [x,y,.tup rows]),.d (.tup hd)] h) Q:=by
 refine cl rfl rfl rfl ?_
 refine ask (zfT (λi σ h'=>h'=h/\firstR rows hd=firstR (rows.drop i) hd/\∃ v,σ=[some (.d (.tup [x,y,.tup rows])),some (.d (.tup hd)),v]) ?_ ?_ ⟨rfl,rfl,none,rfl⟩)
 ·rintro i r σ h' hr ⟨rfl,hf,v,rfl⟩
  have hi:=(List.getElem?_eq_some_iff.mp hr).1
  have hd1:rows.drop i=r::rows.drop (i+1):=by
   rw [List.drop_eq_getElem_cons hi,(List.getElem?_eq_some_iff.mp hr).2]
  rw [hd1] at hf
  have tr:=ht r (List.mem_of_getElem? hr)
  cases r with
  | tup r=>
   refine gb ?_
   ac_rfl
   rw [cutN]
   refine st (zhg (zd8 hdep)) ?_
   refine br (λc=>?_) (λc=>?_)
   ·ac_rfl
    rw [hf] at kq
    unfold firstR at kq
    rw [List.find?_cons_of_pos (by unfold begins;exact c)] at kq
    exact f0 kq
   ·ac_rfl
    rw [hf]
    unfold firstR
    rw [List.find?_cons_of_neg (p:=begins hd) (a:=D.tup r) (show ¬ D.eqbs (r.take hd.length) hd=true by intro z;cases c.symm.trans z)]
    exact ⟨rfl,rfl,rfl,_,rfl⟩
  | _=>simp [isT] at tr
 ·rintro σ h' ⟨rfl,hf,v,rfl⟩
  ac_rfl
  rw [List.drop_eq_nil_of_le (Nat.le_refl _)] at hf
  rw [hf] at kq
  exact f0 kq
theorem dep3:(D.tup [.str a,.str b,.str c]).dep<=60:=by simp [D.dep,D.deps]
theorem dep4:(D.tup [.str a,.str b,.str c,.str d]).dep<=60:=by simp [D.dep,D.deps]
noncomputable def handR (rows:List D) (s e:List Nat):Option D:=firstR rows [.str khand,.str s,.str e]
theorem zdm (n:Nat) (ht:∀ r∈rows,isT r=true) (kq:Q (.d (optD (handR rows s e))) h):Ok (zah P (n+2) 2 [.d (.tup [x,y,.tup rows]),.d (.str s),.d (.str e)] h) Q:=by
 refine cl rfl rfl rfl ?_
 exact ask (zca n ht dep3 (f0 kq))
noncomputable def houseR (rows:List D) (s m:List Nat) (last:Bool):Option D:=(firstR rows [.str zlP,.str s,.str m,.str kany]).or (firstR rows [.str zlP,.str s,.str m,.str (if last then klast else ztw)])
theorem zoL (ht:∀ r∈rows,isT r=true) (e:firstR rows hd=some r):isT r=true:=ht r (List.mem_of_find?_eq_some e)
theorem zh1 (h:isT r=true):zjB r=false:=by cases r<;>simp [isT] at h;rfl
theorem houserow_call (n:Nat) (ht:∀ r∈rows,isT r=true) (kq:Q (.d (optD (houseR rows s m last))) h):Ok (zah P (n+2) 3 [.d (.tup [x,y,.tup rows]),.d (.str s),.d (.str m),.d (.bl last)] h) Q:=by
 refine cl rfl rfl rfl ?_
 unfold houseR at kq
 refine ask (zca n ht dep4 ?_)
 ac_rfl
 cases e:firstR rows [.str zlP,.str s,.str m,.str kany] with
 | some r=>
  rw [e] at kq
  refine br (λc=>?_) (λc=>?_)
  ·cases (zh1 (zoL ht e)).symm.trans c
  ·exact f0 kq
 | none=>
  rw [e] at kq
  refine br (λc=>?_) (λc=>?_)<;>subst c<;>ac_rfl<;>exact ask (zca n ht dep4 (f0 kq))
noncomputable def shB (l:Ln):Bool:=((l.fl.toNat &&& 1:Nat):Int) != 0
noncomputable def zsv (ls:List Ln):List D:=(nums 0 ls).filterMap λp=>if shB p.2 then some (.int p.1) else none
theorem zmf {ls:List Ln}:zaq 0 ((zbU p ls.length).map λl=>Ite.r (.loc l))=some ((nums 0 ls).map λx=>Ite.en x.1 (.loc (p+x.1.toNat))):=by
 have gen:∀ (ls:List Ln) (i:Nat),zaq (i:Int) (((List.range' i ls.length).map (p+·)).map λl=>Ite.r (.loc l))=some ((nums (i:Int) ls).map λx=>Ite.en x.1 (.loc (p+x.1.toNat))):=by
  intro ls
  induction ls with
  | nil=>intro i;rfl
  | cons l ls ih=>
   intro i
   have:=ih (i+1)
   push_cast at this
   simp only [List.length_cons,List.range'_succ,List.map_cons,zaq,this,nums,Int.toNat_natCast]
 unfold zbU
 rw [List.range_eq_range']
 exact gen ls 0
theorem nums_mem (h:x∈nums 0 ls):0<=x.1/\x.1<ls.length/\ls[x.1.toNat]?=some x.2:=by
 obtain ⟨j,hj,e⟩:=List.getElem_of_mem h
 obtain ⟨h1,h2⟩:=zhY ls 0 j x (by rw [List.getElem?_eq_getElem hj,e])
 have h3:=(List.getElem?_eq_some_iff.mp h2).1
 rw [show x.1.toNat=j by omega]
 exact ⟨by omega,by omega,h2⟩
theorem zeo (n:Nat) (H:zb1 h p s ls) (hf:∀ l∈ls,0<=l.fl) (kq:Q (.d (.lst (zsv ls))) h):Ok (zah P (n+1) 41 [.loc p,.d (.int 1)] h) Q:=by
 refine cl rfl rfl rfl ?_
 obtain ⟨a,b,q,e1,e2,e3⟩:=H
 refine st e1 ?_
 refine st e2 ?_
 refine st zmf ?_
 refine ask (zat (g:=λx=>if shB x.2 then some (.int x.1) else none) (λx hx=>?_) (zgq e2 e2) ?_)
 ·obtain ⟨h1,h2,h3⟩:=nums_mem hx
  have e4:=e3 _ _ h3
  have h4:=hf _ (List.mem_of_getElem? h3)
  refine gc ?_
  refine st e4 ?_
  refine st (znK h4 (show (0:Int)<=1 by decide)) ?_
  refine br (λc=>?_) (λc=>?_)
  ·ac_rfl
   exact ⟨(if_pos (show shB x.2=true from c)).symm,rfl⟩
  ·ac_rfl
   exact ⟨(if_neg (show ¬ shB x.2=true by intro z;cases c.symm.trans z)).symm,rfl⟩
 ·exact f0 kq
theorem zhN (n:Nat) (H:zb1 h p s ls) (hf:∀ l∈ls,0<=l.fl) (kq:∀ xs,Q (.d (.lst xs)) h):Ok (zah P (n+2) 42 [.loc p,.d (.int k)] h) Q:=by
 refine cl rfl rfl rfl ?_
 obtain ⟨a,b,q,e1,e2,e3⟩:=id H
 refine st e1 ⟨rfl,ztj,?_⟩
 refine ask (zeo n H hf ?_)
 refine ask (zeE (g:=λx=>if !(x.eqb (.int k)) then some x else none) (λx hx=>?_) zai ?_)
 ·refine gc ?_
  refine st (zfR (zd8 (show (D.int k).dep<=60 by simp [D.dep]))) ?_
  refine br (λc=>?_) (λc=>?_)
  ·ac_rfl
   exact ⟨(if_pos c).symm,rfl⟩
  ·ac_rfl
   exact ⟨(if_neg (by intro z;cases c.symm.trans z)).symm,rfl⟩
 ·exact f0 (kq _)
end K43.H
namespace K43.H
open IT
variable {Q:R->Sto->Prop}
theorem zqI (n:Nat) {p k:Nat} {rows t:List D} {ev:List Nat} {Q:R->Sto->Prop} (H:zb1 h p s ls) (el:ls[k]?=some l) (ht:∀ r∈rows,isT r=true) (kq:Q (.d (optD (handR rows l.st ev))) h) :
  Ok (zah P (n+3) 25 [.d (.tup [x,y,.tup rows]),.loc p,.d (deedD kask k (.str ev) t)] h) Q:=by
 refine cl rfl rfl rfl ?_
 obtain ⟨a,b,q,e1,e2,e3⟩:=id H
 have hk:k<ls.length:=(List.getElem?_eq_some_iff.mp el).1
 have e4:=e3 k l el
 refine st e1 ?_
 refine st zdf ?_
 refine st e2 ?_
 refine st (zdY (by omega) (by omega)) ?_
 refine st e4 ?_
 refine st zbi ?_
 refine st zeN ?_
 exact ask (zdm (n) ht (f0 kq))
theorem zqJ (n:Nat) {p k j:Nat} {x y:D} {rows t:List D} {w:List Nat} {Q:R->Sto->Prop} (H:zb1 h p s ls) (hf:∀ l∈ls,0<=l.fl) (el:ls[k]?=some l) (ht:∀ r∈rows,isT r=true) (hw:w=ktake\/w=kget) (ej:(zek w l)[j]?=some lt)
  (k1:w=ktake->Q (.d (optD (handR rows l.st lt.1))) h) (k2:w=kget->∀ last,Q (.d (optD (houseR rows s lt.1 last))) h) :
  Ok (zah P (n+3) 25 [.d (.tup [x,y,.tup rows]),.loc p,.d (deedD w k (.int j) t)] h) Q:=by
 refine cl rfl rfl rfl ?_
 obtain ⟨a,b,q,e1,e2,e3⟩:=id H
 have hk:k<ls.length:=(List.getElem?_eq_some_iff.mp el).1
 have e4:=e3 k l el
 have e5:idxD (.tup ((zek w l).map letD)) (.int j)=some (letD lt):=zbA (by omega) (by rw [Int.toNat_natCast,List.getElem?_map,ej];rfl)
 refine st e1 ?_
 refine st zdf ?_
 refine st e2 ?_
 refine st (zdY (by omega) (by omega)) ?_
 refine st e4 ?_
 refine st zbi ?_
 rcases hw with rfl | rfl
 ·refine ask (way_call (n+1) (t:=t) (x:=.int j) H el ?_)
  refine st zeN ?_
  refine st e5 ?_
  refine st zbi ?_
  exact ask (zdm n ht (f0 (k1 rfl)))
 ·refine ask (way_call (n+1) (t:=t) (x:=.int j) H el ?_)
  refine st zeN ?_
  refine st e5 ?_
  refine st zbi ?_
  refine st e1 ?_
  refine st e1 ⟨rfl,zts,?_⟩
  refine st zdf ?_
  refine ask (zhN n H hf λxs=>?_)
  exact ask (houserow_call n ht (f0 (k2 rfl _)))
theorem zmW (ho:∀ r,o=some r->isT r=true):zjB (optD o)=o.isNone:=by
 cases o with
 | none=>rfl
 | some r=>exact zh1 (ho r rfl)
noncomputable abbrev zk0:List Nat:=[114,101,97,100]
noncomputable abbrev zg2:List Nat:=[119,114,105,116,101]
noncomputable abbrev zk3:List Nat:=[100,114,111,112]
noncomputable abbrev zt4:List Nat:=[119,97,105,116]
noncomputable def waits:D:=.tup [.tup [.str zt4]]
theorem zhf (n:Nat) {p k:Nat} {rows t:List D} {ev:List Nat} {Q:R->Sto->Prop} (H:zb1 h p s ls) (el:ls[k]?=some l) (ht:∀ r∈rows,isT r=true) (he:ev=zk0\/ev=zg2\/ev=zk3) (kq:Q (.d (.bl (handR rows l.st ev).isSome)) h) :
  Ok (zah P (n+4) 23 [.d (.tup [x,y,.tup rows]),.loc p,.d (deedD kask k (.str ev) t)] h) Q:=by
 refine cl rfl rfl rfl ?_
 obtain ⟨a,b,q,e1,e2,e3⟩:=id H
 have hk:k<ls.length:=(List.getElem?_eq_some_iff.mp el).1
 have ln:(zbU (p+1) ls.length).length=ls.length:=by simp [zbU]
 have e5:([D.str [114,101,97,100],D.str [119,114,105,116,101],D.str [100,114,111,112]].any λy=>y.eqb (.str ev))=true:=by
  rcases he with rfl | rfl | rfl<;>rfl
 refine st zdf ?_
 refine st zdf ?_
 refine st e1 ?_
 refine st e2 ?_
 refine br (λc=>absurd (of_decide_eq_true c) (show ¬ ((zbU (p+1) ls.length).length:Int)<=(k:Int) by rw [ln];omega)) (λ_=>?_)
 refine st zbi ?_
 refine st zeN ?_
 refine br (λ_=>?_) (λc=>absurd (e5.symm.trans c) (by decide))
 refine ask (zqI n H el ht ?_)
 refine f0 ?_
 rw [zmW (o:=handR rows l.st ev) (λr e=>zoL ht e),show (!(handR rows l.st ev).isNone)=(handR rows l.st ev).isSome by cases handR rows l.st ev<;>rfl]
 exact kq
noncomputable def lastD:D->D
 | .tup xs=>match xs.getLast? with
  | some x=>x
  | none=>.non
 | _=>.non
noncomputable def full:D->Bool
 | .tup xs=>!xs.isEmpty
 | _=>false
theorem full_T (h:full r=true):isT r=true:=by cases r<;>simp [full] at h;rfl
theorem zpI (h:full r=true):idxD r (.int (-1))=some (lastD r):=by
 cases r with
 | tup xs=>
  simp only [full] at h
  rcases List.eq_nil_or_concat xs with rfl | ⟨ys,y,rfl⟩
  ·simp at h
  ·rw [List.concat_eq_append]
   simp only [idxD,lastD,zpc,List.getLast?_append,List.getLast?_singleton,Option.or]
 | _=>simp [full] at h
noncomputable def goes:Option D->Bool
 | none=>true
 | some r=>!(lastD r).eqb waits
theorem iswait_call (n:Nat) (ho:∀ r,o=some r->full r=true) (kq:Q (.d (.bl (!goes o))) h):Ok (zah P (n+1) 5 [.d (optD o)] h) Q:=by
 refine cl rfl rfl rfl ?_
 ac_rfl
 cases o with
 | none=>
  exact f0 kq
 | some r=>
  have fr:=ho r rfl
  refine br (λc=>?_) (λc=>?_)
  ·refine st (zpI fr) ?_
   refine st (zhg (zd8 (show (D.tup [.tup [.str [119,97,105,116]]]).dep<=60 by simp [D.dep,D.deps]))) ?_
   refine f0 ?_
   simp only [goes,Bool.not_not] at kq
   exact kq
  ·have e:(!zjB r)=true:=by rw [zh1 (full_T fr)];rfl
   exact absurd (e.symm.trans c) (by decide)
theorem zl0 (n:Nat) {p k j:Nat} {x y:D} {rows t:List D} {w:List Nat} {Q:R->Sto->Prop} (H:zb1 h p s ls) (hf:∀ l∈ls,0<=l.fl) (el:ls[k]?=some l) (ht:∀ r∈rows,full r=true) (hw:w=ktake\/w=kget) (ej:(zek w l)[j]?=some lt)
  (k1:w=ktake->Q (.d (.bl (goes (handR rows l.st lt.1)))) h) (k2:w=kget->∀ last,Q (.d (.bl (goes (houseR rows s lt.1 last)))) h) :
  Ok (zah P (n+4) 23 [.d (.tup [x,y,.tup rows]),.loc p,.d (deedD w k (.int j) t)] h) Q:=by
 refine cl rfl rfl rfl ?_
 obtain ⟨a,b,q,e1,e2,e3⟩:=id H
 have hk:k<ls.length:=(List.getElem?_eq_some_iff.mp el).1
 have hj:j<(zek w l).length:=(List.getElem?_eq_some_iff.mp ej).1
 have ln:(zbU (p+1) ls.length).length=ls.length:=by simp [zbU]
 have ht2:∀ r∈rows,isT r=true:=λr hr=>full_T (ht r hr)
 have hr1:∀ r,handR rows l.st lt.1=some r->full r=true:=λr e=>ht r (List.mem_of_find?_eq_some e)
 have hr2:∀ last r,houseR rows s lt.1 last=some r->full r=true:=by
  intro last r e
  unfold houseR at e
  rcases Option.or_eq_some_iff.mp e with e | ⟨_,e⟩<;>exact ht r (List.mem_of_find?_eq_some e)
 have hne:(D.str w).eqb (.str kask)=false:=by rcases hw with rfl | rfl<;>rfl
 refine st zdf ?_
 refine st zdf ?_
 refine st e1 ?_
 refine st e2 ?_
 refine br (λc=>absurd (of_decide_eq_true c) (show ¬ ((zbU (p+1) ls.length).length:Int)<=(k:Int) by rw [ln];omega)) (λ_=>?_)
 refine st zbi ?_
 refine br (λc=>absurd (hne.symm.trans c) (by decide)) (λ_=>?_)
 refine st zeN ?_
 refine st zeN ?_
 refine ask (way_call (n+2) (t:=t) (x:=.int j) H el ?_)
 ac_rfl
 rw [List.length_map]
 refine br (λc=>absurd (of_decide_eq_true c) (show ¬ (((zek w l).length:Int)<=(j:Int)) by omega)) (λ_=>?_)
 refine ask (zqJ n (t:=t) H hf el ht2 hw ej (λc=>?_) λc last=>?_)
 ·refine ask (iswait_call (n+2) hr1 ?_)
  refine f0 ?_
  rw [Bool.not_not]
  exact k1 c
 ·refine ask (iswait_call (n+2) (hr2 last) ?_)
  refine f0 ?_
  rw [Bool.not_not]
  exact k2 c last
end K43.H
namespace K43.H
open IT
variable {Q:R->Sto->Prop}
theorem zhz (m:Nat):zaU 0 m=(List.range m).map λi:Nat=>D.int (i:Int):=by
 refine List.ext_getElem? λi=>?_
 by_cases hi:i<m
 ·have h1:i<(zaU 0 m).length:=by rw [zcs];exact hi
  have:=zf6 m 0 i _ (List.getElem?_eq_getElem h1)
  rw [List.getElem?_eq_getElem h1,this.2,List.getElem?_map,List.getElem?_range hi]
  simp
 ·rw [List.getElem?_eq_none (by rw [zcs];omega),List.getElem?_eq_none (by simp;omega)]
theorem zmd (n:Nat) (kq:Q (.d (.lst [deedD kask k (.str zk0) [],deedD kask k (.str zg2) [.int 0],deedD kask k (.str zk3) []])) h):Ok (zah P (n+1) 27 [.d (.int k)] h) Q:=by
 refine cl rfl rfl rfl ?_
 exact f0 kq
noncomputable def tk (o:Bool) (w:List Lt):List Lt:=if o then w.take 1 else w
noncomputable def zbS (w:List Nat) (k:Int) (m:Nat):List D:=(List.range m).map λj:Nat=>deedD w k (.int j) []
theorem map_some {α β:Type} {g:α->β}:∀ xs:List α,xs.filterMap (λx=>some (g x))=xs.map g
 | []=>rfl
 | x::xs=>by rw [List.filterMap_cons,List.map_cons,map_some xs]
theorem comers_call (n:Nat) (kq:Q (.d (.tup ((tk o l).map letD))) h):Ok (zah P (n+1) 9 [.d (.tup (l.map letD)),.d (.bl o)] h) Q:=by
 refine cl rfl rfl rfl ?_
 cases o with
 | true=>
  ac_rfl
  rw [zkm (show (0:Int)<=1 by decide),<-List.map_take]
  exact f0 kq
 | false=>
  exact f0 kq
theorem zdk (n:Nat) {h:Sto} (hs:l.length<=2) (kq:Q (.d (.lst (zbS w k (tk o l).length))) h):Ok (zah P (n+2) 28 [.d (.str w),.d (.int k),.d (.tup (l.map letD)),.d (.bl o)] h) Q:=by
 refine cl rfl rfl rfl ?_
 have h1:(tk o l).length<=2:=by unfold tk;split;rw [List.length_take];omega;omega
 refine ask (comers_call n ?_)
 ac_rfl
 rw [List.length_map]
 refine ⟨⟨by omega,by omega⟩,ask ?_⟩
 rw [Int.toNat_natCast,zhz,List.map_map]
 refine zat (g:=λj:Nat=>some (deedD w k (.int j) [])) (λj hj=>?_) zai ?_
 ·refine gc ?_
  exact ⟨rfl,rfl⟩
 ·rw [map_some]
  exact f0 kq
noncomputable def candL (rows:List D) (g:List Nat->Bool) (o:Bool) (k:Int) (l:Ln):List (D×Bool):=
 [(deedD kask k (.str zk0) [],(handR rows l.st zk0).isSome),(deedD kask k (.str zg2) [.int 0],(handR rows l.st zg2).isSome),(deedD kask k (.str zk3) [],(handR rows l.st zk3).isSome)]
 ++ (List.range (tk o l.to).length).map (λj:Nat=>(deedD ktake k (.int j) [],true))
 ++ (List.range (tk o l.back).length).map (λj:Nat=>(deedD kget k (.int j) [],match l.back[j]? with | some lt=>g lt.1 | none=>true))
noncomputable def cands (rows:List D) (g:List Nat->Bool) (o:Bool) (ls:List Ln):List (D×Bool):=((nums 0 ls).map λp=>candL rows g o p.1 p.2).flatten
noncomputable def dues (rows:List D) (g:List Nat->Bool) (o:Bool) (ls:List Ln):List D:=((cands rows g o ls).filter (·.2)).map (·.1)
structure Tab (s:List Nat) (rows:List D) (g:List Nat->Bool):Prop where
 full:∀ r∈rows,full r=true
 hand:∀ st e,goes (handR rows st e)=true
 house:∀ m last,(m=[103,97]\/m=[103,98])->goes (houseR rows s m last)=g m
structure Lns (ls:List Ln):Prop where
 fl:∀ l∈ls,0<=l.fl
 to:∀ l∈ls,l.to.length<=2
 back:∀ l∈ls,l.back.length<=2
 few:ls.length<=8
 kd:∀ l∈ls,∀ p∈l.back,p.1=[103,97]\/p.1=[103,98]
theorem zsL (h:j<(tk o w).length):j<w.length:=by
 unfold tk at h
 split at h
 ·rw [List.length_take] at h;omega
 ·exact h
theorem zo3 (n:Nat) (H:zb1 h p s ls) (T:Tab s rows g) (L:Lns ls) (hc:c∈cands rows g o ls) (kq:Q (.d (.bl c.2)) h) :
  Ok (zah P (n+4) 23 [.d (.tup [x,y,.tup rows]),.loc p,.d c.1] h) Q:=by
 unfold cands at hc
 obtain ⟨cs,hcs,hc⟩:=List.mem_flatten.mp hc
 obtain ⟨q,hq,rfl⟩:=List.mem_map.mp hcs
 obtain ⟨h1,h2,h3⟩:=nums_mem hq
 obtain ⟨k,hk⟩:∃ k:Nat,q.1=k:=⟨q.1.toNat,by omega⟩
 rw [hk,Int.toNat_natCast] at h3
 have hm:=List.mem_of_getElem? h3
 have ht:∀ r∈rows,isT r=true:=λr hr=>full_T (T.full r hr)
 unfold candL at hc
 rw [hk] at hc
 simp only [List.mem_append,List.mem_cons,List.not_mem_nil,or_false,List.mem_map,List.mem_range] at hc
 rcases hc with ((rfl | rfl | rfl) | ⟨j,hj,rfl⟩) | ⟨j,hj,rfl⟩
 ·exact zhf n H h3 ht (.inl rfl) kq
 ·exact zhf n H h3 ht (.inr (.inl rfl)) kq
 ·exact zhf n H h3 ht (.inr (.inr rfl)) kq
 ·have hj2:=zsL hj
  refine zl0 n (lt:=q.2.to[j]) H L.fl h3 T.full (.inl rfl) (by unfold zek;rw [if_pos rfl];exact List.getElem?_eq_getElem hj2) (λ_=>?_) (λe=>absurd e (by decide))
  rw [T.hand]
  exact kq
 ·have hj2:=zsL hj
  refine zl0 n (lt:=q.2.back[j]) H L.fl h3 T.full (.inr rfl) (by unfold zek;rw [if_neg (by decide)];exact List.getElem?_eq_getElem hj2) (λe=>absurd e (by decide)) (λ_ last=>?_)
  rw [T.house _ _ (L.kd _ hm _ (List.getElem_mem hj2))]
  simp only [List.getElem?_eq_getElem hj2] at kq
  exact kq
end K43.H
namespace K43.H
open IT
variable {Q:R->Sto->Prop}
theorem zf3 (h1:l.to.length<=2) (h2:l.back.length<=2):(candL rows g o k l).length<=7:=by
 have t:∀ w:List Lt,(tk o w).length<=w.length:=by
  intro w;unfold tk;split
  ·rw [List.length_take];omega
  ·omega
 have:=t l.to
 have:=t l.back
 unfold candL
 simp
 omega
noncomputable def zbj (rows:List D) (g:List Nat->Bool) (o:Bool) (ls:List Ln) (i:Nat):List (D×Bool):=(((nums 0 ls).take i).map λp=>candL rows g o p.1 p.2).flatten
theorem zhG (L:Lns ls) (i:Nat):(zbj rows g o ls i).length<=7*i:=by
 induction i with
 | zero=>simp [zbj]
 | succ i ih=>
  unfold zbj at ih ⊢
  rw [List.take_add_one]
  cases e:(nums 0 ls)[i]? with
  | none=>simp at ih ⊢;omega
  | some p=>
   have hm:=(nums_mem (List.mem_of_getElem? e)).2.2
   have hm:=List.mem_of_getElem? hm
   have:=zf3 (rows:=rows) (g:=g) (o:=o) (k:=p.1) (L.to _ hm) (L.back _ hm)
   simp only [Option.toList,List.map_append,List.flatten_append,List.length_append,List.map_cons,List.map_nil,List.flatten_cons,List.flatten_nil,List.append_nil]
   omega
theorem zpZ {cs:List (D×Bool)}:cs.filterMap (λc=>if c.2 then some c.1 else none)=(cs.filter (·.2)).map (·.1):=by
 induction cs with
 | nil=>rfl
 | cons c cs ih=>
  rw [List.filterMap_cons,List.filter_cons]
  cases hc:c.2<;>simp [hc,ih]
inductive J2 (n i:Nat) (h0:Sto) (f:Option R->Option R->Env) (σ:Env) (h':Sto):Prop
 | mk (hi:i<=n) (e:h'=h0) (v w:Option R) (e2:σ=f v w)
theorem zmV (n:Nat) (T:Tab s rows g) (L:Lns ls) (er:zaM 3 [.bl true] rs=[.d (.tup [x,y,.tup rows]),.d (stdD s a b ls),.d (.bl o)]) (kq:Q (.d (.lst (dues rows g o ls))) h) :
  Ok (zah P (n+5) 26 rs h) Q:=by
 refine cd rfl er rfl ?_
 refine ask (zlU (n+2) ⟨rfl,?_⟩)
 have HB:∀ t,zb1 (h++halS h.length s a b ls++t) h.length s ls:=λt=>znM
 have hlen:h.length<=(h++halS h.length s a b ls).length:=by simp
 obtain ⟨B,hB⟩:∃ B,B=h++halS h.length s a b ls:=⟨_,rfl⟩
 rw [<-hB] at HB hlen ⊢
 obtain ⟨a1,b1,q,e1,e2,e3⟩:=HB [.lst []]
 refine st e1 ?_
 refine st e2 ?_
 refine st zmf ?_
 refine ask ?_
 have hq:∀ t,(B++[.lst t])[q]?=some (.ols (zbU (h.length+1) ls.length)):=by
  intro t
  have hq1:q<B.length:=by
   by_cases c:q<B.length
   ·exact c
   ·rw [List.getElem?_append_right (by omega)] at e2
    cases hz:q-B.length with
    | zero=>rw [hz] at e2;simp at e2
    | succ z=>rw [hz] at e2;simp at e2
  rw [List.getElem?_append_left hq1] at e2 ⊢
  exact e2
 have hl:∀ t i l,ls[i]?=some l->(B++[.lst t])[h.length+1+i]?=some (.ins "OpenLine" (opnF l)):=by
  intro t i l el
  obtain ⟨_,_,_,_,_,e⟩:=HB [.lst t]
  exact e i l el
 refine zaK (λi=>J2 ls.length i (B++[.lst ((zbj rows g o ls i).map (·.1))]) (λv5 v6=>[some (R.d (D.tup [x,y,D.tup rows])),some (R.d (stdD s a b ls)),some (R.d (D.bl o)),some (R.loc h.length),some (R.loc B.length),v5,v6,none])) ?_ ?_ ⟨by omega,rfl,none,none,rfl⟩
 ·rintro i z σ h' hz ⟨hi,rfl,v5,v6,rfl⟩
  obtain ⟨z1,z2⟩:=zhY ls 0 i z hz
  have hi2:i<ls.length:=(List.getElem?_eq_some_iff.mp z2).1
  have hm:=List.mem_of_getElem? z2
  have hlen:=zhG (rows:=rows) (g:=g) (o:=o) L i
  have hfew:=L.few
  have ez:z.1.toNat=i:=by omega
  have es:zbj rows g o ls (i+1)=zbj rows g o ls i++candL rows g o z.1 z.2:=by
   unfold zbj
   rw [List.take_add_one,hz]
   simp
  have h7:=zf3 (rows:=rows) (g:=g) (o:=o) (k:=z.1) (L.to _ hm) (L.back _ hm)
  have ec:(candL rows g o z.1 z.2).map (·.1)=[deedD kask z.1 (.str zk0) [],deedD kask z.1 (.str zg2) [.int 0],deedD kask z.1 (.str zk3) []]++zbS ktake z.1 (tk o z.2.to).length++zbS kget z.1 (tk o z.2.back).length:=by
   unfold candL zbS
   simp [Function.comp_def]
  have h8:(tk o z.2.to).length<=2/\(tk o z.2.back).length<=2:=by
   have t:∀ w:List Lt,(tk o w).length<=w.length:=by
    intro w;unfold tk;split
    ·rw [List.length_take];omega
    ·omega
   exact ⟨Nat.le_trans (t _) (L.to _ hm),Nat.le_trans (t _) (L.back _ hm)⟩
  have fitOf:∀ m:Nat,m<=1000->fit m=true:=λm hm=>decide_eq_true (by unfold big;omega)
  have hl':∀ t,(B++[Ob.lst t])[h.length+1+z.1.toNat]?=some (.ins "OpenLine" (opnF z.2)):=λt=>by rw [ez];exact hl t i z.2 z2
  refine gb ?_
  refine st zac ?_
  refine ask (zmd (n+3) ?_)
  refine st zac ⟨fitOf _ (by simp;omega),?_⟩
  rw [zao]
  refine st zac ?_
  refine st (hl' _) ?_
  refine ask (zdk (n+2) (L.to _ hm) ?_)
  refine st zac ⟨fitOf _ (by simp [zbS];omega),?_⟩
  rw [zao]
  refine st zac ?_
  refine st (hl' _) ?_
  refine ask (zdk (n+2) (L.back _ hm) ?_)
  refine st zac ⟨fitOf _ (by simp [zbS];omega),?_⟩
  rw [zao]
  refine ⟨zgq (hq _) (hq _),by omega,?_,_,_,rfl⟩
  rw [es,List.map_append,ec]
  simp only [List.append_assoc]
 ·rintro σ h' ⟨hi,rfl,v5,v6,rfl⟩
  have ea:zbj rows g o ls (nums 0 ls).length=cands rows g o ls:=by unfold zbj cands;rw [List.take_length]
  rw [ea]
  refine st zac ?_
  refine ask ?_
  rw [List.map_map]
  refine zat (d:=dI∘λc:D×Bool=>c.1) (g:=λc=>if c.2 then some c.1 else none) (λc hc=>?_) (zdc zac) ?_
  ·refine gc ?_
   refine ask (zo3 n (HB _) T L hc ?_)
   refine br (λe=>?_) (λe=>?_)
   ·ac_rfl
    exact ⟨(if_pos e).symm,rfl⟩
   ·ac_rfl
    exact ⟨(if_neg (by intro z;cases e.symm.trans z)).symm,rfl⟩
  ·rw [zpZ]
   subst hB
   simp only [List.append_assoc]
   exact fa kq
noncomputable def isAsk:D->Bool
 | .tup (.str w::_)=>w==kask
 | _=>false
noncomputable def moving (ls:List Ln):Bool:=ls.any λl=>!(l.to++l.back).isEmpty
noncomputable def stuckB (ds:List D) (ls:List Ln):Bool:=moving ls&&ds.all isAsk
theorem zmX (h:d∈dues rows g o ls):∃ w k x t,d=deedD w k x t:=by
 unfold dues cands candL at h
 obtain ⟨c,hc,rfl⟩:=List.mem_map.mp h
 obtain ⟨hc,_⟩:=List.mem_filter.mp hc
 obtain ⟨cs,hcs,hc⟩:=List.mem_flatten.mp hc
 obtain ⟨q,hq,rfl⟩:=List.mem_map.mp hcs
 simp only [List.mem_append,List.mem_cons,List.not_mem_nil,or_false,List.mem_map,List.mem_range] at hc
 rcases hc with ((rfl | rfl | rfl) | ⟨j,hj,rfl⟩) | ⟨j,hj,rfl⟩<;>exact ⟨_,_,_,_,rfl⟩
theorem zdT {α:Type} {f:α->D} {t:α->Bool}:∀ {xs:List α},(∀ x∈xs,tru (f x)=some (t x))->zau (xs.map f)=some (xs.map t)
 | [],_=>rfl
 | x::xs,h=>by
  have e:=zdT (xs:=xs) λy hy=>h y (List.mem_cons_of_mem _ hy)
  simp only [List.map_cons,zau,h x (by simp),e]
theorem stuck_core (n:Nat) {h:Sto} {s:List Nat} {a b:D} {x y:D} {o:Bool} {rs:List R} {Q:R->Sto->Prop} (T:Tab s rows g) (L:Lns ls) (er:zaM 3 [.bl true] rs=[.d (.tup [x,y,.tup rows]),.d (stdD s a b ls),.d (.bl o)]) (kq:Q (.d (.bl (stuckB (dues rows g o ls) ls))) h) :
  Ok (zah P (n+6) 29 rs h) Q:=by
 refine cd rfl er rfl ?_
 refine ask ?_
 rw [List.map_map]
 refine zat (d:=dI∘lnD) (g:=λl=>some (.tup ((l.to++l.back).map letD))) (λl hl=>?_) zai ?_
 ·have h1:=L.to l hl
  have h2:=L.back l hl
  refine gc ?_
  refine st (zf4 (show fit ((l.to.map letD).length+(l.back.map letD).length)=true from decide_eq_true (by unfold big;simp;omega))) ?_
  rw [<-List.map_append]
  exact ⟨rfl,rfl⟩
 ·rw [map_some]
  have eb:biD .any [.lst (ls.map λl=>.tup ((l.to++l.back).map letD))]=some (.bl (moving ls)):=by
   have e:=zdT (xs:=ls) (f:=λl:Ln=>D.tup ((l.to++l.back).map letD)) (t:=λl=>!(l.to++l.back).isEmpty) λl hl=>by
    simp only [tru]
    cases l.to++l.back<;>rfl
   show (match zau (ls.map λl=>D.tup ((l.to++l.back).map letD)) with | some bs=>some (D.bl (bs.any id)) | none=>none)=_
   rw [e]
   show some (D.bl ((ls.map _).any id))=_
   rw [List.any_map]
   rfl
  refine st eb ?_
  refine br (λc=>?_) (λc=>?_)
  ·ac_rfl
   refine f0 ?_
   unfold stuckB at kq
   have c:(!moving ls)=true:=c
   rw [show moving ls=false by simpa using c,Bool.false_and] at kq
   exact kq
  ·ac_rfl
   refine ask (zmV n T L rfl ?_)
   refine ask (zeE (g:=λd=>some (.bl (isAsk d))) (λd hd=>?_) zai ?_)
   ·obtain ⟨w,k,z,t,rfl⟩:=zmX hd
    refine gc ?_
    refine st zbi ?_
    exact ⟨rfl,rfl⟩
   ·rw [map_some]
    have e:=zdT (xs:=dues rows g o ls) (f:=λd=>D.bl (isAsk d)) (t:=isAsk) λd _=>rfl
    have eb2:biD .all [.lst ((dues rows g o ls).map λd=>.bl (isAsk d))]=some (.bl ((dues rows g o ls).all isAsk)):=by
     show (match zau ((dues rows g o ls).map λd=>D.bl (isAsk d)) with | some bs=>some (D.bl (bs.all id)) | none=>none)=_
     rw [e]
     show some (D.bl ((List.map _ _).all id))=_
     rw [List.all_map]
     rfl
    refine st eb2 ?_
    refine f0 ?_
    unfold stuckB at kq
    have c:(!moving ls)=false:=c
    rw [show moving ls=true by simpa using c,Bool.true_and] at kq
    exact kq
end K43.H
namespace K43
open IT
variable {Q:R->Sto->Prop}
noncomputable abbrev zrO:List Nat:=[110,111,110,101]
noncomputable abbrev klast:List Nat:=[108,97,115,116]
noncomputable abbrev kold:List Nat:=[111,108,100]
noncomputable abbrev ztv:List Nat:=[98,97,114,101]
noncomputable abbrev Val:=Option (Int×Int)
noncomputable def valD:Val->D
 | none=>.non
 | some p=>.tup [.int p.1,.int p.2]
noncomputable abbrev Lt:=List Nat×Val
noncomputable def letD (p:Lt):D:=.tup [.str p.1,valD p.2]
noncomputable def wayD (w:List Lt):D:=.tup (w.map letD)
structure Ln where
 st:List Nat
 v:Val
 want:Int
 to:List Lt
 back:List Lt
 fl:Int
noncomputable def lnD (l:Ln):D:=.tup [.str l.st,valD l.v,.int l.want,wayD l.to,wayD l.back,.int l.fl]
noncomputable def zfd (a:Int):Val->List Nat
 | none=>zrO
 | some p=>if p.1==a then klast else kold
noncomputable def zke (a:Int):Val->List Nat
 | none=>ztv
 | some p=>if p.1==a then klast else kold
noncomputable abbrev Lm:=List Nat×List Nat
noncomputable def lmD (p:Lm):D:=.tup [.str p.1,.str p.2]
noncomputable def ml (a:Int) (p:Lt):Lm:=(p.1,zke a p.2)
noncomputable def mlD (a:Int) (p:Lt):D:=.tup [.str p.1,.str (zke a p.2)]
noncomputable def mwD (w:List Lm):D:=.tup (w.map lmD)
structure Cf where
 st:List Nat
 mrk:List Nat
 to:List Lm
 back:List Lm
 fl:Int
 deriving DecidableEq
noncomputable def cfD (c:Cf):D:=.tup [.str c.st,.str c.mrk,mwD c.to,mwD c.back,.int c.fl]
noncomputable def cf (a:Int) (l:Ln):Cf:=⟨l.st,zfd a l.v,l.to.map (ml a),l.back.map (ml a),l.fl⟩
theorem i4:idxD (.tup [x,y,z,w,u,v]) (.int 4)=some u:=zbA (by decide) rfl
theorem i5:idxD (.tup [x,y,z,w,u,v]) (.int 5)=some v:=zbA (by decide) rfl
theorem zh2 (n:Nat) (k:Q (.d (.bl (a==c))) h):Ok (zah P (n+1) 8 [.d (.tup [.int a,.int b]),.d (.tup [.int c,.int d])] h) Q:=by
 refine cl rfl rfl rfl ?_
 exact f0 k
theorem zdX (n:Nat) (k:Q (.d (.str (zfd a v))) h):Ok (zah P (n+2) 10 [.d (valD v),.d (.tup [.int a,.int b])] h) Q:=by
 refine cl rfl rfl rfl ?_
 cases v with
 | none=>
  exact f0 k
 | some p=>
  refine ask (zh2 n ?_)
  simp only [zfd] at k
  refine br (λt=>?_) (λt=>?_)
  ·ac_rfl
   rw [t] at k
   exact f0 k
  ·ac_rfl
   rw [t] at k
   exact f0 k
theorem zje (n:Nat) (k:Q (.d (.str (zke a v))) h):Ok (zah P (n+3) 11 [.d (valD v),.d (.tup [.int a,.int b])] h) Q:=by
 refine cl rfl rfl rfl ?_
 cases v with
 | none=>
  exact f0 k
 | some p=>
  exact ask (zdX n (f0 k))
theorem zhK {α β:Type} {g:α->β}:∀ xs:List α,xs.filterMap (λx=>some (g x))=xs.map g
 | []=>rfl
 | x::xs=>by rw [List.filterMap_cons,List.map_cons,zhK xs]
theorem zay {α:Type} {l:Option Nat} {dD:α->D} {g:α->D} {xs:List α} {Q:List D->Sto->Prop} (e:∀ x∈xs,Ok (f (dI (dD x)) h) λo h1=>o=some (g x)/\h1=h) (s:zaz l h h=true) (q:Q (xs.map g) h):Ok (zaZ l f ((xs.map dD).map dI) h) Q:=by
 rw [List.map_map]
 refine zat (d:=dI∘dD) (g:=λx=>some (g x)) e s ?_
 rw [zhK]
 exact q
theorem zgh (n:Nat) {a b:Int} (k:Q (.d (mwD (w.map (ml a)))) h):Ok (zah P (n+4) 13 [.d (wayD w),.d (.tup [.int a,.int b])] h) Q:=by
 refine cl rfl rfl rfl ?_
 refine ask (zay (g:=mlD a) (λp hp=>?_) zai ?_)
 ·refine gc ?_
  refine ask (zje n ?_)
  exact ⟨rfl,rfl⟩
 ·have e:w.map (mlD a)=(w.map (ml a)).map lmD:=by rw [List.map_map];rfl
  rw [e]
  exact f0 k
theorem zhO (n:Nat) (k:Q (.d (cfD (cf a l))) h):Ok (zah P (n+5) 12 [.d (lnD l),.d (.tup [.int a,.int b])] h) Q:=by
 refine cl rfl rfl rfl ?_
 refine ask (zdX (n+2) ?_)
 refine ask (zgh n ?_)
 refine ask (zgh n ?_)
 exact f0 k
noncomputable abbrev pl (ps:List Int):Ob:=.lst (ps.map D.int)
theorem zev (n:Nat) (k:∀ v,Q (.d (.int v)) h):Ok (zah P (n+1) 30 [.d (.int c),.d (.int i)] h) Q:=by
 refine cl rfl rfl rfl ?_
 have e0:bop .mul (.int 7919) (.int i)=some (.int (7919*i)):=ze1 (by decide) (by decide)
 have e1:∀ x:Int,bop .mul (.int x) (.int 48271)=some (.int (x*48271)):=λx=>zlO (by rw [zh8 (a:=48271) (by decide) (by decide)];simp)
 have md:∀ x:Int,0<=x % 2147483647/\x % 2147483647<2147483647:=λx=>⟨Int.emod_nonneg _ (by decide),Int.emod_lt_of_pos _ (by decide)⟩
 refine st (e1 _) ?_
 have m:=md ((c+7919*i+1)*48271)
 generalize (c+7919*i+1)*48271 % 2147483647=x at m ⊢
 refine st (ze1 (by omega) (by omega)) ?_
 have m:=md (x*(x / 1009+69621))
 generalize x*(x / 1009+69621) % 2147483647=y at m ⊢
 refine st (ze1 (by omega) (by omega)) ?_
 exact f0 (k _)
inductive PI (h:Sto) (f:Int->Option R->Env) (i:Nat) (σ:Env) (h':Sto):Prop
 | mk (hi:i<=60) (ps:List Int) (num:Int) (v5:Option R) (hl:ps.length=i) (e:h'=h++[pl ps]) (e2:σ=f num v5)
theorem zgH (n j:Nat) {ns:List Int} (k:∀ ps,Q (.loc h.length) (h++[pl ps])):Ok (zah P (n+2) 31 [.d (.lst (ns.map .int)),.d (.int (j:Nat))] h) Q:=by
 refine cl rfl rfl rfl ?_
 have fi:∀ ps qs:List Int,Q (.loc h.length) (h++[pl qs])->Ok (fin h false true (.loc (h++[pl ps]).length) (h++[pl ps]++[pl qs])) Q:=by
  intro ps qs q
  rw [List.length_append,List.append_assoc]
  simp only [fin,Bool.false_eq_true,if_false,zct,if_true,fin0,List.length_cons,List.length_nil,Nat.zero_add,List.cons_append,List.nil_append]
  rw [if_neg (by omega),zax]
  simp only [ziQ,ok_some']
  exact q
 have body:∀ c:Int,Ok (loop none (λx σ=>bnd (zaD (Tg.name 5) x σ) λσ'=>exs (zah P (n+1)) [.ife (.and (.val (.cmp .eq (.bin .mod (.var 2) (.con (.int 2))) (.con (.int 0)))) (.val (.cmp .gt (.var 4) (.con (.int 0))))) [.exp (.me .append (.var 3) [(.bin .mod (.var 4) (.con (.int 64)))]),.asg (.name 4) (.bin .fdiv (.var 4) (.con (.int 64)))] [.exp (.me .append (.var 3) [(.call 30 [(.var 2),(.var 5)])])]] σ') ((zaU 0 60).map dI)
   [some (R.d (.lst (ns.map .int))),some (R.d (.int j)),some (R.d (.int c)),some (R.loc h.length),some (R.d (.int (c / 2))),none] (h++[.lst []])) λp h1=>p.1=.nx/\∃ ps num v5,h1=h++[pl ps]/\p.2=[some (R.d (.lst (ns.map .int))),some (R.d (.int j)),some (R.d (.int c)),some (R.loc h.length),some (R.d (.int num)),v5]:=by
  intro c
  refine zfT (PI h (λnum v5=>[some (R.d (.lst (ns.map .int))),some (R.d (.int j)),some (R.d (.int c)),some (R.loc h.length),some (R.d (.int num)),v5])) ?_ ?_ ⟨by omega,[],_,none,rfl,rfl,rfl⟩
  ·rintro i x σ h' hx ⟨hi,ps,num,v5,hl,rfl,rfl⟩
   obtain ⟨hi2,rfl⟩:=zf6 _ _ _ _ hx
   have hb:(ps.map D.int).length<big:=by unfold big;rw [List.length_map];omega
   refine gb ?_
   refine br (λ_=>?_) (λ_=>?_)
   ·ac_rfl
    refine br (λ_=>?_) (λ_=>?_)
    ·ac_rfl
     refine st zac ?_
     refine st zac ⟨hb,?_⟩
     rw [zao]
     exact ⟨rfl,by omega,ps++[num % 64],_,_,by simp [hl],by rw [pl,List.map_append];rfl,rfl⟩
    ·ac_rfl
     refine st zac ?_
     refine ask (zev n λv=>?_)
     refine st zac ⟨hb,?_⟩
     rw [zao]
     exact ⟨rfl,by omega,ps++[v],_,_,by simp [hl],by rw [pl,List.map_append];rfl,rfl⟩
   ·ac_rfl
    refine st zac ?_
    refine ask (zev n λv=>?_)
    refine st zac ⟨hb,?_⟩
    rw [zao]
    exact ⟨rfl,by omega,ps++[v],_,_,by simp [hl],by rw [pl,List.map_append];rfl,rfl⟩
  ·rintro σ h' ⟨hi,ps,num,v5,hl,rfl,rfl⟩
   exact ⟨rfl,ps,num,v5,rfl,rfl⟩
 refine br (λc=>?_) (λ_=>?_)
 ·have c:=of_decide_eq_true c
  have c:j<ns.length:=by simpa using c
  ·ac_rfl
   refine st (zpM (x:=.int ns[j]) (by omega) (by rw [List.getElem?_map,Int.toNat_natCast,List.getElem?_eq_getElem c];rfl)) ?_
   refine ⟨⟨by decide,by decide⟩,ask ((body _).mono ?_)⟩
   rintro ⟨fl,σ⟩ h1 ⟨e,ps,num,v5,rfl,e2⟩
   simp only at e e2
   subst e e2
   refine st zac ?_
   ac_rfl
   rw [<-List.map_reverse]
   exact fi _ _ (k _)
 ·ac_rfl
  refine ⟨⟨by decide,by decide⟩,ask ((body 0).mono ?_)⟩
  rintro ⟨fl,σ⟩ h1 ⟨e,ps,num,v5,rfl,e2⟩
  simp only at e e2
  subst e e2
  refine st zac ?_
  ac_rfl
  rw [<-List.map_reverse]
  exact fi _ _ (k _)
theorem zty:objs (h++.lst xs::t) (h++.lst ys::t)=true:=by
 have:=zn0 (h:=h++.lst xs::t) (l:=h.length) (xs:=xs) (ys:=ys) zac
 rwa [zao] at this
theorem f1 (q:Q (.d x) (h++.lst ys::t)):Ok (fin (h++.lst xs::t) false k (.d x) (h++.lst ys::t)) Q:=fd zty (by rw [List.take_of_length_le (by simp)];exact q)
theorem zav (n:Nat) (z0:0<z) (k:∀ d qs,0<=d->d<z->Q (.d (.int d)) (h++pl qs::t)):Ok (zah P (n+1) 32 [.loc h.length,.d (.int z)] (h++pl ps::t)) Q:=by
 refine cl rfl rfl rfl ?_
 have ce:cop .eq (.lst (ps.map D.int)) (.lst [])=some (.bl ps.isEmpty):=by
  rw [zhg (zd8 (by simp [D.dep,D.deps]))]
  cases ps<;>rfl
 refine st zac ?_
 refine st ce ?_
 refine br (λc=>?_) (λc=>?_)
 ·ac_rfl
  exact f1 (k 0 ps (by omega) z0)
 ·obtain ⟨qs,v,e⟩:∃ qs v,ps=qs++[v]:=by
   rcases List.eq_nil_or_concat ps with e | ⟨l,v,e⟩
   ·rw [e] at c;simp at c
   ·exact ⟨l,v,by rw [e,List.concat_eq_append]⟩
  subst e
  have e1:((qs++[v]).map D.int)[((qs++[v]).map D.int).length-1]?=some (.int v):=by simp
  have e2:((qs++[v]).map D.int).dropLast=qs.map D.int:=by simp
  refine st zac ?_
  refine st zac ?_
  refine st e1 ?_
  rw [e2,zao]
  ac_rfl
  refine st (zoY z0) ?_
  exact f1 (k _ qs (Int.emod_nonneg _ (by omega)) (Int.emod_lt_of_pos _ z0))
end K43
namespace K43
open IT
variable {Q:R->Sto->Prop}
theorem zhy:∀ {xs ys:List Lm},xs.map lmD=ys.map lmD->xs=ys
  | [],[],_=>rfl
  | [],_::_,e=>by simp at e
  | _::_,[],e=>by simp at e
  | (a,b)::xs,(c,d)::ys,e=>by
    simp only [List.map_cons,List.cons.injEq,lmD,D.tup.injEq,D.str.injEq,and_true] at e
    obtain ⟨⟨rfl,rfl⟩,e⟩:=e
    rw [zhy e]
theorem zhH {a b:Cf} (e:cfD a=cfD b):a=b:=by
 obtain ⟨s,m,t,u,f⟩:=a
 obtain ⟨s',m',t',u',f'⟩:=b
 simp only [cfD,mwD,D.tup.injEq,List.cons.injEq,D.str.injEq,D.int.injEq,and_true] at e
 obtain ⟨rfl,rfl,e1,e2,rfl⟩:=e
 rw [zhy e1,zhy e2]
theorem zfl {x y:D}:x.same y=true↔x=y:=⟨D.same_eq x y,λe=>e▸D.same_refl x⟩
theorem zhW (a b:Cf):(cfD a).same (cfD b)=decide (a=b):=by
 by_cases e:a=b
 ·subst e;rw [D.same_refl,decide_eq_true rfl]
 ·rw [decide_eq_false e]
  cases h:(cfD a).same (cfD b)
  ·rfl
  ·exact absurd (zhH (zfl.mp h)) e
theorem zoo:∀ xs:List Lm,D.hks (xs.map lmD)=true
 | []=>rfl
 | p::xs=>by simp [D.hks,D.hk,lmD,zoo xs]
theorem zft (xs:List Lm):D.deps (xs.map lmD)<=1:=by
 refine zkW λx hx=>?_
 obtain ⟨p,_,rfl⟩:=List.mem_map.mp hx
 simp [lmD,D.dep,D.deps]
theorem zbw (c:Cf):zaF (cfD c)=true:=by
 have h1:=zft c.to
 have h2:=zft c.back
 simp only [cfD,zaF,mwD,D.hks,D.hk,zoo,Bool.and_true,Bool.true_and,D.deps,D.dep]
 exact decide_eq_true (by omega)
theorem zov (c:Cf):(cfD c).dep<=3:=by
 have h1:=zft c.to
 have h2:=zft c.back
 simp only [cfD,mwD,D.dep,D.deps]
 omega
inductive Ct where
 | one | some | any
 deriving DecidableEq
noncomputable abbrev kone:List Nat:=[111,110,101]
noncomputable abbrev zkw:List Nat:=[115,111,109,101]
noncomputable abbrev kany:List Nat:=[97,110,121]
noncomputable def ctS:Ct->List Nat
 | .one=>kone
 | .some=>zkw
 | .any=>kany
noncomputable abbrev KV:=List (Cf×Ct)
noncomputable def look (c:Cf):KV->Option Ct
 | []=>none
 | p::r=>if p.1=c then some p.2 else look c r
noncomputable def put (c:Cf) (t:Ct):KV->KV
 | []=>[(c,t)]
 | p::r=>if p.1=c then (p.1,t)::r else p::put c t r
noncomputable def kvD (l:KV):List (D×D):=l.map λp=>(cfD p.1,.str (ctS p.2))
noncomputable def prD (p:Cf×Ct):D:=.tup [cfD p.1,.str (ctS p.2)]
noncomputable def lnsD (l:KV):D:=.tup (l.map prD)
noncomputable abbrev ctO (o:Option Ct):D:=(o.map λt=>D.str (ctS t)).getD .non
theorem zda (c:Cf):∀ l:KV,dGet (cfD c) (kvD l)=(look c l).map λt=>D.str (ctS t)
 | []=>rfl
 | p::r=>by
  show (if (cfD p.1).same (cfD c)=true then some (D.str (ctS p.2)) else dGet (cfD c) (kvD r))=_
  rw [zhW,zda c r,look]
  by_cases e:p.1=c<;>simp [e]
theorem zcY (c:Cf) (t:Ct):∀ l:KV,dPut (cfD c) (.str (ctS t)) (kvD l)=kvD (put c t l)
 | []=>rfl
 | p::r=>by
  show (if (cfD p.1).same (cfD c)=true then (cfD p.1,D.str (ctS t))::kvD r else (cfD p.1,D.str (ctS p.2))::dPut (cfD c) (.str (ctS t)) (kvD r))=_
  rw [zhW,zcY c t r,put]
  by_cases e:p.1=c<;>simp [e,kvD]
theorem zf9:∀ {l:KV},look c l=none↔c ∉ l.map Prod.fst
 | []=>by simp [look]
 | p :: r=>by
  rw [look,List.map_cons,List.mem_cons]
  by_cases e:p.1=c
  ·simp [e]
  ·rw [if_neg e,zf9]
   constructor
   ·rintro h (h' | h')
    ·exact e h'.symm
    ·exact h h'
   ·exact λh h'=>h (.inr h')
theorem zfU:∀ {l:KV},look c l=some t->(c,t)∈l
 | [],e=>by simp [look] at e
 | p::r,e=>by
  rw [look] at e
  by_cases q:p.1=c
  ·rw [if_pos q] at e
   cases e
   subst q
   exact List.mem_cons_self
  ·rw [if_neg q] at e
   exact List.mem_cons_of_mem _ (zfU e)
noncomputable abbrev Nk (l:KV):Prop:=(l.map Prod.fst).Nodup
theorem zcb:∀ {l:KV},Nk l->(c,t)∈l->look c l=some t
 | [],_,h=>by simp at h
 | p::r,n,h=>by
  rw [Nk,List.map_cons,List.nodup_cons] at n
  rw [look]
  rcases List.mem_cons.mp h with rfl | h
  ·rw [if_pos rfl]
  ·have hm:c∈r.map Prod.fst:=List.mem_map.mpr ⟨(c,t),h,rfl⟩
   rw [if_neg λe:p.1=c=>n.1 (by rw [e];exact hm)]
   exact zcb n.2 h
theorem zfe:∀ {l:KV},c ∉ l.map Prod.fst->put c t l=l++[(c,t)]
 | [],_=>rfl
 | p::r,h=>by
  rw [List.map_cons,List.mem_cons,not_or] at h
  rw [put,if_neg λe=>h.1 e.symm,zfe h.2];rfl
theorem ziA:∀ {l:KV},c∈l.map Prod.fst->(put c t l).map Prod.fst=l.map Prod.fst
 | [],h=>by simp at h
 | p::r,h=>by
  rw [put]
  by_cases e:p.1=c
  ·rw [if_pos e];rfl
  ·rw [if_neg e,List.map_cons,List.map_cons,ziA]
   rcases List.mem_cons.mp h with h | h
   ·exact absurd h.symm e
   ·exact h
theorem zrV {l:KV} (n:Nk l):Nk (put c t l):=by
 by_cases h:c∈l.map Prod.fst
 ·rw [Nk,ziA h];exact n
 ·rw [Nk,zfe h,List.map_append,List.nodup_append]
  refine ⟨n,by simp,?_⟩
  intro a ha b hb
  simp at hb
  subst hb
  exact λe=>h (e▸ha)
theorem zlx:∀ {l:KV},(put c t l).length<=l.length+1
 | []=>by simp [put]
 | p::r=>by
  have:=zlx (c:=c) (t:=t) (l:=r)
  rw [put]
  split<;>simp<;>omega
theorem zdx:∀ {l:KV},look d (put c t l)=if d=c then some t else look d l
 | []=>by
  simp only [put,look]
  by_cases e:d=c
  ·simp [e]
  ·have e':¬ c=d:=λh=>e h.symm
   simp [e,e']
 | p::r=>by
  rw [put]
  by_cases e:p.1=c
  ·rw [if_pos e,look,look]
   dsimp only
   by_cases e2:p.1=d
   ·rw [if_pos e2,if_pos (by rw [<-e2,e])]
   ·rw [if_neg e2,if_neg e2,if_neg λh=>e2 (by rw [e,h])]
  ·rw [if_neg e,look,look,zdx]
   by_cases e2:p.1=d
   ·rw [if_pos e2,if_pos e2,if_neg λh=>e (by rw [e2,h])]
   ·rw [if_neg e2,if_neg e2]
theorem zgO:∀ l:KV,zcF (l.map prD)=some (kvD l)
 | []=>rfl
 | p::r=>by
  show (if zaF (cfD p.1)=true then _ else _)=_
  rw [zbw,if_pos rfl,zgO r]
  rfl
theorem zlf:∀ (l acc:KV),Nk (acc++l)->dOfP (kvD acc) (kvD l)=kvD (acc++l)
 | [],acc,_=>by rw [List.append_nil];rfl
 | p::r,acc,n=>by
  show dOfP (dPut (cfD p.1) (.str (ctS p.2)) (kvD acc)) (kvD r)=_
  have h:p.1 ∉ acc.map Prod.fst:=by
   rw [Nk,List.map_append,List.nodup_append] at n
   exact λh=>n.2.2 _ h _ List.mem_cons_self rfl
  rw [zcY,zfe h,zlf r]
  ·rw [List.append_assoc];rfl
  ·rw [List.append_assoc];exact n
theorem zik (n:Nk l) (hl:l.length<=100):zlk (lnsD l)=some (kvD l):=by
 show (match zcF (l.map prD) with | some l=>_ | none=>_)=_
 rw [zgO]
 dsimp only
 rw [if_pos (by simp [fit,big,kvD];omega)]
 have:=zlf l [] (by simpa using n)
 exact congrArg some this
theorem zlu:∀ a:List Nat,ltS a a=false
 | []=>rfl
 | x::r=>by simp [ltS,zlu r]
theorem zms:∀ {a b c:List Nat},ltS a b=true->ltS b c=true->ltS a c=true
 | [],[],_,h,_=>by simp [ltS] at h
 | [],_::_,[],_,h=>by simp [ltS] at h
 | [],_::_,_::_,_,_=>by simp [ltS]
 | _::_,[],_,h,_=>by simp [ltS] at h
 | _::_,_::_,[],_,h=>by simp [ltS] at h
 | x :: a,y::b,z::c,h1,h2=>by
  simp only [ltS] at h1 h2 ⊢
  by_cases e1:x=y
  ·subst e1
   rw [if_pos rfl] at h1
   by_cases e2:x=z
   ·rw [if_pos e2] at h2 ⊢;exact zms h1 h2
   ·rw [if_neg e2] at h2 ⊢;exact h2
  ·rw [if_neg e1] at h1
   have h1:=of_decide_eq_true h1
   by_cases e2:y=z
   ·subst e2;rw [if_neg e1];exact decide_eq_true h1
   ·rw [if_neg e2] at h2
    have h2:=of_decide_eq_true h2
    rw [if_neg (by omega)];exact decide_eq_true (by omega)
theorem zkT:∀ {a b:List Nat},ltS a b=false->ltS b a=false->a=b
 | [],[],_,_=>rfl
 | [],_::_,h,_=>by simp [ltS] at h
 | _::_,[],_,h=>by simp [ltS] at h
 | x::a,y::b,h1,h2=>by
  simp only [ltS] at h1 h2
  by_cases e:x=y
  ·subst e
   rw [if_pos rfl] at h1 h2
   rw [zkT h1 h2]
  ·rw [if_neg e] at h1
   rw [if_neg λh=>e h.symm] at h2
   have h1:=of_decide_eq_false h1
   have h2:=of_decide_eq_false h2
   omega
structure STO {α:Type} (C:α->Prop) (lt:α->α->Option Bool):Prop where
 dfn:∀ a b,C a->C b->∃ t,lt a b=some t
 irr:∀ a,C a->lt a a=some false
 tra:∀ a b c,C a->C b->C c->lt a b=some true->lt b c=some true->lt a c=some true
 tri:∀ a b,C a->C b->lt a b=some false->lt b a=some false->a=b
theorem zdM:STO (λd=>∃ x,d=D.str x) D.lt where
 dfn:=by rintro _ _ ⟨x,rfl⟩ ⟨y,rfl⟩;exact ⟨_,rfl⟩
 irr:=by rintro _ ⟨x,rfl⟩;exact congrArg some (zlu x)
 tra:=by rintro _ _ _ ⟨x,rfl⟩ ⟨y,rfl⟩ ⟨z,rfl⟩ h1 h2;exact congrArg some (zms (Option.some.inj h1) (Option.some.inj h2))
 tri:=by rintro _ _ ⟨x,rfl⟩ ⟨y,rfl⟩ h1 h2;rw [zkT (Option.some.inj h1) (Option.some.inj h2)]
theorem zpX:STO (λd=>∃ x,d=D.int x) D.lt where
 dfn:=by rintro _ _ ⟨x,rfl⟩ ⟨y,rfl⟩;exact ⟨_,rfl⟩
 irr:=by rintro _ ⟨x,rfl⟩;show some (decide (x<x))=_;simp
 tra:=by
  rintro _ _ _ ⟨x,rfl⟩ ⟨y,rfl⟩ ⟨z,rfl⟩ h1 h2
  have h1:=of_decide_eq_true (Option.some.inj h1)
  have h2:=of_decide_eq_true (Option.some.inj h2)
  exact congrArg some (decide_eq_true (by omega))
 tri:=by
  rintro _ _ ⟨x,rfl⟩ ⟨y,rfl⟩ h1 h2
  have h1:=of_decide_eq_false (Option.some.inj h1)
  have h2:=of_decide_eq_false (Option.some.inj h2)
  rw [show x=y by omega]
noncomputable def Fits (Ps:Nat->D->Prop) (xs:List D):Prop:=∀ i x,xs[i]?=some x->Ps i x
theorem Fits.hd (h:Fits Ps (x::xs)):Ps 0 x:=h 0 x rfl
theorem Fits.tl (h:Fits Ps (x::xs)):Fits (λi=>Ps (i+1)) xs:=λi y e=>h (i+1) y (by simpa using e)
theorem zi0 (a b:D) (r t:List D):D.lts (a::r) (b::t)=if D.same a b then D.lts r t else D.lt a b:=by rw [D.lts]
theorem zf5 (a:D) (r t:List D):D.lts (a::r) (a::t)=D.lts r t:=by rw [zi0,D.same_refl,if_pos rfl]
theorem zcC {a b:D} (e:a≠b) (r t:List D):D.lts (a::r) (b::t)=D.lt a b:=by
 rw [zi0,if_neg λh=>e (zfl.mp h)]
theorem zmc:D.lts [] []=some false:=by rw [D.lts]
theorem zio (b:D) (t:List D):D.lts [] (b::t)=some true:=by rw [D.lts];simp
theorem ziy (b:D) (t:List D):D.lts (b::t) []=some false:=by rw [D.lts]
theorem zk6:∀ (xs ys:List D) (Ps:Nat->D->Prop),(∀ i,STO (Ps i) D.lt)->Fits Ps xs->Fits Ps ys->∃ t,D.lts xs ys=some t
 | [],[],_,_,_,_=>⟨_,zmc⟩
 | [],_::_,_,_,_,_=>⟨_,zio _ _⟩
 | _::_,[],_,_,_,_=>⟨_,ziy _ _⟩
 | a::r,b::t,Ps,S,hx,hy=>by
  by_cases e:a=b
  ·subst e;rw [zf5];exact zk6 r t _ (λi=>S (i+1)) hx.tl hy.tl
  ·rw [zcC e];exact (S 0).dfn a b hx.hd hy.hd
theorem zl4:∀ xs:List D,D.lts xs xs=some false
 | []=>zmc
 | a::r=>by rw [zf5];exact zl4 r
theorem zlM:∀ (xs ys zs:List D) (Ps:Nat->D->Prop),(∀ i,STO (Ps i) D.lt)->Fits Ps xs->Fits Ps ys->Fits Ps zs->D.lts xs ys=some true->D.lts ys zs=some true->D.lts xs zs=some true
 | [],[],_,_,_,_,_,_,h,_=>by rw [zmc] at h;cases h
 | [],_::_,[],_,_,_,_,_,_,h=>by rw [ziy] at h;cases h
 | [],_::_,_::_,_,_,_,_,_,_,_=>zio _ _
 | _::_,[],_,_,_,_,_,_,h,_=>by rw [ziy] at h;cases h
 | _::_,_::_,[],_,_,_,_,_,_,h=>by rw [ziy] at h;cases h
 | a :: r,b::t,c::u,Ps,S,hx,hy,hz,h1,h2=>by
  by_cases e1:a=b
  ·subst e1
   rw [zf5] at h1
   by_cases e2:a=c
   ·subst e2
    rw [zf5] at h2 ⊢
    exact zlM r t u _ (λi=>S (i+1)) hx.tl hy.tl hz.tl h1 h2
   ·rw [zcC e2] at h2 ⊢;exact h2
  ·rw [zcC e1] at h1
   by_cases e2:b=c
   ·subst e2;rw [zcC e1];exact h1
   ·rw [zcC e2] at h2
    have h3:=(S 0).tra a b c hx.hd hy.hd hz.hd h1 h2
    have e3:a≠c:=by
     rintro rfl
     rw [(S 0).irr a hx.hd] at h3;cases h3
    rw [zcC e3];exact h3
theorem zjP:∀ (xs ys:List D) (Ps:Nat->D->Prop),(∀ i,STO (Ps i) D.lt)->Fits Ps xs->Fits Ps ys->D.lts xs ys=some false->D.lts ys xs=some false->xs=ys
 | [],[],_,_,_,_,_,_=>rfl
 | [],_::_,_,_,_,_,h,_=>by rw [zio] at h;cases h
 | _::_,[],_,_,_,_,_,h=>by rw [zio] at h;cases h
 | a::r,b::t,Ps,S,hx,hy,h1,h2=>by
  by_cases e:a=b
  ·subst e
   rw [zf5] at h1 h2
   rw [zjP r t _ (λi=>S (i+1)) hx.tl hy.tl h1 h2]
  ·rw [zcC e] at h1
   rw [zcC λh=>e h.symm] at h2
   exact absurd ((S 0).tri a b hx.hd hy.hd h1 h2) e
theorem zgt (xs ys:List D):D.lt (.tup xs) (.tup ys)=D.lts xs ys:=by rw [D.lt]
theorem zcV (S:∀ i,STO (Ps i) D.lt):STO (λd=>∃ xs,d=D.tup xs/\Fits Ps xs) D.lt where
 dfn:=by rintro _ _ ⟨x,rfl,hx⟩ ⟨y,rfl,hy⟩;rw [zgt];exact zk6 x y Ps S hx hy
 irr:=by rintro _ ⟨x,rfl,_⟩;rw [zgt];exact zl4 x
 tra:=by rintro _ _ _ ⟨x,rfl,hx⟩ ⟨y,rfl,hy⟩ ⟨z,rfl,hz⟩;simp only [zgt];exact zlM x y z Ps S hx hy hz
 tri:=by rintro _ _ ⟨x,rfl,hx⟩ ⟨y,rfl,hy⟩ h1 h2;rw [zgt] at h1 h2;rw [zjP x y Ps S hx hy h1 h2]
noncomputable def zmH (d:D):Prop:=∃ x,d=D.str x
noncomputable def isInt (d:D):Prop:=∃ x,d=D.int x
noncomputable def zpy (d:D):Prop:=∃ xs,d=D.tup xs/\Fits (λ_ d=>∃ xs,d=D.tup xs/\Fits (λ_=>zmH) xs) xs
noncomputable def cfP:Nat->D->Prop
 | 0=>zmH
 | 1=>zmH
 | 2=>zpy
 | 3=>zpy
 | _=>isInt
theorem zp9:∀ i,STO (cfP i) D.lt
 | 0=>zdM
 | 1=>zdM
 | 2=>zcV λ_=>zcV λ_=>zdM
 | 3=>zcV λ_=>zcV λ_=>zdM
 | _+4=>zpX
theorem zh7 (w:List Lm):zpy (mwD w):=by
 refine ⟨_,rfl,λi x e=>?_⟩
 rw [List.getElem?_map] at e
 cases q:w[i]? with
 | none=>rw [q] at e;simp at e
 | some p=>
  rw [q] at e
  simp at e
  refine ⟨_,e.symm,λj y e2=>?_⟩
  match j,e2 with
  | 0,e2=>simp at e2;exact ⟨_,e2.symm⟩
  | 1,e2=>simp at e2;exact ⟨_,e2.symm⟩
  | _+2,e2=>simp at e2
noncomputable def isCf (d:D):Prop:=∃ xs,d=D.tup xs/\Fits cfP xs
theorem zqD (c:Cf):isCf (cfD c):=by
 refine ⟨_,rfl,λi x e=>?_⟩
 match i,e with
 | 0,e=>simp at e;exact ⟨_,e.symm⟩
 | 1,e=>simp at e;exact ⟨_,e.symm⟩
 | 2,e=>simp at e;rw [<-e];exact zh7 _
 | 3,e=>simp at e;rw [<-e];exact zh7 _
 | 4,e=>simp at e;exact ⟨_,e.symm⟩
 | _+5,e=>simp at e
theorem zrv:STO isCf D.lt:=zcV zp9
noncomputable def prP:Nat->D->Prop
 | 0=>isCf
 | _=>zmH
theorem zq1:STO (λd=>∃ xs,d=D.tup xs/\Fits prP xs) D.lt:=zcV λi=>match i with
 | 0=>zrv
 | _+1=>zdM
theorem zqg (p:Cf×Ct):∃ xs,prD p=D.tup xs/\Fits prP xs:=by
 refine ⟨_,rfl,λi x e=>?_⟩
 match i,e with
 | 0,e=>simp at e;rw [<-e];exact zqD _
 | 1,e=>simp at e;exact ⟨_,e.symm⟩
 | _+2,e=>simp at e
theorem zgm (e:D.lt a b=some t):ltT a b=t:=by unfold ltT;rw [e]
theorem zgg {α:Type} {p q:α->Bool} {x:α}:∀ {l:List α},(∀ z∈l,p z=true->q z=true)->x∈l->p x=false->q x=true->l.countP p<l.countP q
 | [],_,h,_,_=>by simp at h
 | y::l,hs,hx,h1,h2=>by
  have le:l.countP p<=l.countP q:=List.countP_mono_left λz hz=>hs z (List.mem_cons_of_mem _ hz)
  rw [List.countP_cons,List.countP_cons]
  rcases List.mem_cons.mp hx with rfl | hx
  ·rw [h1,h2];simp;omega
  ·have:=zgg (λz hz=>hs z (List.mem_cons_of_mem _ hz)) hx h1 h2
   have hy:=hs y List.mem_cons_self
   generalize p y=py at hy
   generalize q y=qy at hy
   cases py with
   | true=>rw [hy rfl];simp;omega
   | false=>cases qy<;>simp<;>omega
theorem ztJ {C:D->Prop} (S:STO C D.lt) {xs:List D} (h:∀ x∈xs,C x):rkOk xs=true:=by
 have mono:∀ {x y:D},x∈xs->y∈xs->D.lt x y=some true->rnk xs x<rnk xs y:=by
  intro x y hx hy e
  refine zgg (x:=x) (λz hz q=>?_) hx (zgm (S.irr x (h x hx))) (zgm e)
  obtain ⟨t,et⟩:=S.dfn z x (h z hz) (h x hx)
  rw [zgm et] at q
  subst q
  exact zgm (S.tra z x y (h z hz) (h x hx) (h y hy) et e)
 rw [rkOk,List.all_eq_true]
 intro x hx
 rw [List.all_eq_true]
 intro y hy
 obtain ⟨t,et⟩:=S.dfn x y (h x hx) (h y hy)
 rw [et,zgm et]
 simp only [Option.isSome_some,Bool.true_and,beq_iff_eq]
 cases t with
 | true=>exact (decide_eq_true (mono hx hy et)).symm
 | false=>
  refine (decide_eq_false ?_).symm
  obtain ⟨u,eu⟩:=S.dfn y x (h y hy) (h x hx)
  cases u with
  | true=>have:=mono hy hx eu;omega
  | false=>rw [S.tri x y (h x hx) (h y hy) et eu];omega
theorem zh9:∀ {xs:List D},xs.Nodup->apart xs=true
 | [],_=>rfl
 | x::r,n=>by
  rw [List.nodup_cons] at n
  rw [apart,zh9 n.2,Bool.and_true,List.all_eq_true]
  intro y hy
  cases e:x.same y
  ·rfl
  ·exact absurd (zfl.mp e▸hy) n.1
noncomputable def insB {α:Type} (lt:α->α->Bool) (x:α):List α->List α
 | []=>[x]
 | y::r=>if lt y x then y::insB lt x r else x::y::r
noncomputable def isB {α:Type} (lt:α->α->Bool):List α->List α
 | []=>[]
 | x::r=>insB lt x (isB lt r)
theorem zgk {α:Type} (lt:α->α->Bool) (x:α):∀ l:List α,(insB lt x l).Perm (x::l)
 | []=>.refl _
 | y::r=>by
  rw [insB]
  split
  ·exact ((zgk lt x r).cons y).trans (.swap x y r)
  ·exact .refl _
theorem zfj {α:Type} (lt:α->α->Bool):∀ l:List α,(isB lt l).Perm l
 | []=>.refl _
 | x::r=>(zgk lt x _).trans ((zfj lt r).cons x)
theorem ziD {α:Type} {f:α->D} {lt:α->α->Bool} (x:α):∀ l:List α,(∀ y∈l,ltT (f y) (f x)=lt y x)->insD (f x) (l.map f)=(insB lt x l).map f
 | [],_=>rfl
 | y::r,h=>by
  rw [List.map_cons,insD,insB,h y List.mem_cons_self]
  split
  ·rw [ziD x r λz hz=>h z (List.mem_cons_of_mem _ hz)];rfl
  ·rfl
theorem zgo {α:Type} {f:α->D} {lt:α->α->Bool}:∀ l:List α,l.Nodup->(∀ x∈l,∀ y∈l,y≠x->ltT (f y) (f x)=lt y x)->zjx (l.map f)=(isB lt l).map f
 | [],_,_=>rfl
 | x::r,n,h=>by
  rw [List.nodup_cons] at n
  rw [List.map_cons,zjx,isB,zgo r n.2 λa ha b hb=>h a (List.mem_cons_of_mem _ ha) b (List.mem_cons_of_mem _ hb)]
  refine ziD x _ λy hy=>?_
  have hy:=(zfj lt r).mem_iff.mp hy
  exact h x List.mem_cons_self y (List.mem_cons_of_mem _ hy) λe=>n.1 (e▸hy)
noncomputable def ltC (a b:Cf):Bool:=ltT (cfD a) (cfD b)
noncomputable def ltP (a b:Cf×Ct):Bool:=ltC a.1 b.1
theorem zsg (e:a.1≠b.1):ltT (prD a) (prD b)=ltP a b:=by
 unfold ltP ltC ltT prD
 rw [zgt,zcC λh=>e (zhH h)]
theorem zgI {α β:Type} {f:α->β} (inj:∀ a b,f a=f b->a=b):∀ {l:List α},l.Nodup->(l.map f).Nodup
 | [],_=>by simp
 | x::r,n=>by
  rw [List.nodup_cons] at n
  rw [List.map_cons,List.nodup_cons]
  refine ⟨λh=>?_,zgI inj n.2⟩
  obtain ⟨y,hy,e⟩:=List.mem_map.mp h
  exact n.1 (inj _ _ e▸hy)
theorem zit (n:Nk l):l.Nodup:=by
 induction l with
 | nil=>simp
 | cons p r ih=>
  rw [Nk,List.map_cons,List.nodup_cons] at n
  rw [List.nodup_cons]
  exact ⟨λh=>n.1 (List.mem_map.mpr ⟨p,h,rfl⟩),ih n.2⟩
theorem zsz:∀ {l:KV} {a b:Cf×Ct},Nk l->a∈l->b∈l->a.1=b.1->a=b:=by
 intro l a b n ha hb e
 obtain ⟨c,t⟩:=a
 obtain ⟨d,u⟩:=b
 simp only at e
 subst e
 have h1:=zcb n ha
 have h2:=zcb n hb
 rw [h1] at h2
 cases h2
 rfl
noncomputable def srt (l:KV):KV:=isB ltP l
theorem zq7 (p:Cf×Ct):zaF (prD p)=true:=by
 have h:=zbw p.1
 have h2:=zov p.1
 have h3:D.hk (cfD p.1)=true:=by
  unfold zaF cfD at h
  rw [Bool.and_eq_true] at h
  exact h.1
 simp only [prD,zaF,D.hks,h3,D.hk,D.deps,D.dep,Bool.and_true,Bool.true_and]
 exact decide_eq_true (by omega)
theorem zpn (e:prD a=prD b):a=b:=by
 obtain ⟨c,t⟩:=a
 obtain ⟨d,u⟩:=b
 simp only [prD,D.tup.injEq,List.cons.injEq,D.str.injEq,and_true] at e
 obtain ⟨e1,e2⟩:=e
 rw [zhH e1]
 have:t=u:=by cases t<;>cases u<;>first | rfl | (exact absurd e2 (by decide))
 rw [this]
theorem zme {l:KV} (n:Nk l) (hl:l.length<=4):zfV ((kvD l).map zcu)=some ((srt l).map prD):=by
 have e:(kvD l).map zcu=l.map prD:=by rw [kvD,List.map_map];rfl
 rw [e,zfV,if_pos]
 ·rw [zgo l (zit n) λx hx y hy ne=>zsg λh=>ne (zsz n hy hx h)];rfl
 ·simp only [Bool.and_eq_true,decide_eq_true_eq,List.length_map,List.all_eq_true]
  refine ⟨⟨⟨⟨hl,λx hx=>?_⟩,zh9 (zgI (λ_ _=>zpn) (zit n))⟩,ztJ zq1 λx hx=>?_⟩,(Bool.or_eq_true _ _).mpr (.inr (List.all_eq_true.mpr λx hx=>?_))⟩
  ·obtain ⟨p,_,rfl⟩:=List.mem_map.mp hx;exact zq7 p
  ·obtain ⟨p,_,rfl⟩:=List.mem_map.mp hx;exact zqg p
  ·obtain ⟨p,_,rfl⟩:=List.mem_map.mp hx;rfl
theorem zaJ (l:KV):(srt l).Perm l:=zfj _ _
theorem zj7 (n:Nk l):Nk (srt l):=((zaJ l).map Prod.fst).nodup_iff.mpr n
theorem ziZ (n:Nk l) (c:Cf):look c (srt l)=look c l:=by
 cases e:look c l with
 | none=>rw [zf9] at e ⊢;exact λh=>e (((zaJ l).map Prod.fst).mem_iff.mp h)
 | some t=>exact zcb (zj7 n) ((zaJ l).mem_iff.mpr (zfU e))
theorem zj5 (l:KV):(srt l).length=l.length:=(zaJ l).length_eq
end K43
namespace K43
open IT
variable {Q:R->Sto->Prop}
theorem g0 {a:Ob}:(h++[a]++t)[h.length]?=some a:=by rw [List.append_assoc];exact zac
theorem dicW:(kvD l).map (λp=>dI p.1)=l.map λp=>dI (cfD p.1):=by rw [kvD,List.map_map];rfl
theorem ziO {α:Type} {f:α->Bool} {l:List α}:biD .all [.lst (l.map λx=>D.bl (f x))]=some (.bl (l.all f)):=by
 have:∀ l:List α,zau (l.map λx=>D.bl (f x))=some (l.map f):=by
  intro l
  induction l with
  | nil=>rfl
  | cons x r ih=>simp only [List.map_cons,zau,tru,ih]
 show (match zau (l.map λx=>D.bl (f x)) with | some bs=>some (D.bl (bs.all id)) | none=>none)=_
 rw [this]
 simp [List.all_map]
noncomputable def cw:Option Ct->Ct->Bool
 | none,t=>t==.any
 | some .one,_=>true
 | some .some,t=>t != .one
 | some .any,t=>t==.any
noncomputable def cwT:Ct->D
 | .one=>.tup [.str kone]
 | .some=>.tup [.str kone,.str zkw]
 | .any=>.tup [.str kone,.str zkw,.str kany,.non]
noncomputable abbrev tbl:List (List Nat×D):=[(kone,cwT .one),(zkw,cwT .some),(kany,cwT .any)]
theorem zpr (t:Ct):gGet [([111,110,101],(.tup [(.str [111,110,101])])),([115,111,109,101],(.tup [(.str [111,110,101]),(.str [115,111,109,101])])),([97,110,121],(.tup [(.str [111,110,101]),(.str [115,111,109,101]),(.str [97,110,121]),.non]))] (.d (.str (ctS t)))=some (cwT t):=by cases t<;>rfl
theorem cw_in (o:Option Ct) (t:Ct):cop .isin (ctO o) (cwT t)=some (.bl (cw o t)):=by
 cases t<;>rcases o with _ | c<;>first | rfl | (cases c<;>rfl)
noncomputable def wi (l m:KV):Bool:=(!decide (m.length<l.length))&&(l.all λp=>(look p.1 m).isSome)&&m.all λq=>cw (look q.1 l) q.2
noncomputable abbrev shp (a b:List Nat) (l:KV):D:=.tup [.str a,.str b,lnsD l]
noncomputable def hd (a b a' b':List Nat):Bool:=a==a'&&b==b'
theorem zoF:(D.tup [.str a,.str b]).eqb (.tup [.str a',.str b'])=hd a b a' b':=by
 simp [D.eqb,D.eqbs,hd]
theorem zql:(dGet (cfD c) (kvD l)).getD .non=ctO (look c l):=by rw [zda]
theorem znk (n:Nat) {h:Sto} {a b a' b':List Nat} (n1:Nk l) (n2:Nk m) (l1:l.length<=100) (l2:m.length<=100)
  (k:Q (.d (.bl (hd a b a' b'&&wi l m))) h):Ok (zah P (n+1) 18 [.d (shp a b l),.d (shp a' b' m)] h) Q:=by
 refine cl rfl rfl rfl ?_
 refine br (λc=>?_) (λc=>?_)
 ·have c:(!hd a b a' b')=true:=by rw [<-zoF];exact c
  have e:hd a b a' b'=false:=by simpa using c
  rw [e] at k
  exact f0 k
 ·have c:(!hd a b a' b')=false:=by rw [<-zoF];exact c
  have e:hd a b a' b'=true:=by simpa using c
  rw [e,Bool.true_and] at k
  refine br (λc=>?_) (λc=>?_)
  ·have c:=of_decide_eq_true c
   have e:wi l m=false:=by
    unfold wi
    rw [decide_eq_true (p:=m.length<l.length) (by simpa using c)]
    rfl
   rw [e] at k
   exact f0 k
  ·have c:=of_decide_eq_false c
   have e:wi l m=((l.all λp=>(look p.1 m).isSome)&&m.all λq=>cw (look q.1 l) q.2):=by
    unfold wi
    rw [decide_eq_false (p:=m.length<l.length) (by simpa using c)]
    rfl
   rw [e] at k
   refine st (zik n1 l1) ?_
   refine st (zik n2 l2) ?_
   refine st g0 ?_
   ac_rfl
   rw [dicW]
   refine ask (zat (g:=λp=>some (D.bl (look p.1 m).isSome)) (λp hp=>?_) (zla g0 g0) ?_)
   ·refine gc ?_
    refine st zac ?_
    refine bt (zbw p.1) ?_
    ac_rfl
    rw [zda,Option.isSome_map]
    exact ⟨rfl,rfl⟩
   ·rw [zhK]
    refine st ziO ?_
    refine br (λc=>?_) (λc=>?_)
    ·have c:(l.all λp=>(look p.1 m).isSome)=false:=by simpa using c
     rw [c] at k
     rw [List.append_assoc]
     exact fa k
    ·have c:(l.all λp=>(look p.1 m).isSome)=true:=by simpa using c
     rw [c,Bool.true_and] at k
     refine ask (zay (dD:=prD) (g:=λq=>D.bl (cw (look q.1 l) q.2)) (λq hq=>?_) zai ?_)
     ·refine gc ?_
      refine st g0 ?_
      refine st g0 ?_
      refine bt (zbw q.1) ?_
      refine st (zpr q.2) ?_
      rw [zql]
      refine st (cw_in _ _) ?_
      exact ⟨rfl,rfl⟩
     ·ac_rfl
      refine st ziO ?_
      rw [List.append_assoc]
      exact fa k
end K43
namespace K43
open IT
variable {Q:R->Sto->Prop}
noncomputable def stp (l:KV) (c:Cf):KV:=match look c l with
 | none=>put c .one l
 | some _=>put c .some l
noncomputable def tog (cs:List Cf):KV:=cs.foldl stp []
theorem ziR (cs:List Cf) (c:Cf):tog (cs++[c])=stp (tog cs) c:=by simp [tog]
theorem zsH (n:Nk l) (c:Cf):Nk (stp l c):=by
 unfold stp
 cases look c l<;>exact zrV n
theorem ziH:∀ (cs:List Cf) (l:KV),Nk l->Nk (cs.foldl stp l)
 | [],l,n=>n
 | c::cs,l,n=>ziH cs _ (zsH n c)
theorem zeH (cs:List Cf):Nk (tog cs):=ziH cs [] List.nodup_nil
theorem zg0:∀ (cs:List Cf) (l:KV),(cs.foldl stp l).length<=l.length+cs.length
 | [],l=>by simp
 | c::cs,l=>by
  have h1:=zg0 cs (stp l c)
  have h2:(stp l c).length<=l.length+1:=by
   unfold stp
   cases look c l<;>exact zlx
  rw [List.foldl_cons,List.length_cons]
  omega
theorem zo5 (cs:List Cf):(tog cs).length<=cs.length:=by
 have:=zg0 cs []
 simpa [tog] using this
noncomputable def poD (c:Cf):D:=.tup [cfD c,.str kone]
theorem zbg {α:Type} {xs:List α} {x:α} (e:xs[i]?=some x):xs.take (i+1)=xs.take i++[x]:=by
 rw [List.take_add_one,e];rfl
inductive I2 (n i:Nat) (f:Option R->Option R->Env) (h0:Sto) (σ:Env) (h':Sto):Prop
 | mk (hi:i<=n) (v w:Option R) (e:h'=h0) (e2:σ=f v w)
theorem znA (n:Nat) {h:Sto} (hl:cs.length<=10) (h4:(tog cs).length<=4) (k:Q (.d (lnsD (srt (tog cs)))) h) :
  Ok (zah P (n+1) 16 [.d (.lst (cs.map poD))] h) Q:=by
 refine cl rfl rfl rfl ?_
 ac_rfl
 rw [List.map_map]
 refine ask (zaK (g:=dI∘poD) (xs:=cs) (λi=>I2 cs.length i (λv2 v3=>[some (R.d (.lst (cs.map poD))),some (R.loc h.length),v2,v3]) (h++[.dic (kvD (tog (cs.take i)))])) ?_ ?_ ⟨by omega,none,none,rfl,rfl⟩)
 ·rintro i c σ h' hx ⟨hi,v2,v3,rfl,rfl⟩
  have hi2:i<cs.length:=(List.getElem?_eq_some_iff.mp hx).1
  have hb:(kvD (tog (cs.take i))).length<big:=by
   have:=zo5 (cs.take i)
   rw [List.length_take] at this
   unfold big kvD;rw [List.length_map];omega
  have et:tog (cs.take (i+1))=stp (tog (cs.take i)) c:=by rw [zbg hx,ziR]
  generalize tog (cs.take i)=l at hb et ⊢
  refine gb ?_
  refine st zac ?_
  refine bt (zbw c) ?_
  ac_rfl
  rw [zda,Option.isSome_map]
  cases e:look c l with
  | none=>
   have et:tog (cs.take (i+1))=put c .one l:=by rw [et,stp,e]
   refine bt (zbw c) ?_
   refine st zac ⟨hb,?_⟩
   rw [zao]
   refine ⟨rfl,by omega,_,_,?_,rfl⟩
   rw [et,<-zcY];rfl
  | some t=>
   have et:tog (cs.take (i+1))=put c .some l:=by rw [et,stp,e]
   have fn:∀ v2 v3:Option R,zaz none (h++[.dic (kvD l)]) (h++[.dic (kvD (put c .some l))])=true/\I2 cs.length (i+1) (λv2 v3=>[some (R.d (.lst (cs.map poD))),some (R.loc h.length),v2,v3]) (h++[.dic (kvD (tog (cs.take (i+1))))]) [some (R.d (.lst (cs.map poD))),some (R.loc h.length),v2,v3] (h++[Ob.dic (kvD (put c .some l))]):=λv2 v3=>⟨rfl,by omega,v2,v3,by rw [et],rfl⟩
   refine st zac ?_
   refine bt (zbw c) ?_
   refine st (a:=D.str (ctS t)) (by rw [zda,e];rfl) ?_
   refine br (λ_=>?_) (λ_=>?_)
   ·ac_rfl
    refine bt (zbw c) ?_
    refine st zac ⟨hb,?_⟩
    rw [zao,show (D.str [115,111,109,101])=.str (ctS .some) from rfl,zcY]
    exact fn _ _
   ·ac_rfl
    refine bt (zbw c) ?_
    refine st zac ⟨hb,?_⟩
    rw [zao,show (D.str [115,111,109,101])=.str (ctS .some) from rfl,zcY]
    exact fn _ _
 ·rintro σ h' ⟨hi,v2,v3,rfl,rfl⟩
  rw [List.take_length]
  refine st zac ?_
  refine st (zme (zeH cs) h4) ?_
  exact fa k
noncomputable abbrev stD (s:List Nat) (v u a b:Int) (ls:List Ln):D:=.tup [.str s,.tup [.int v,.int u],.tup [.int a,.int b],.tup (ls.map lnD)]
noncomputable abbrev cfs (a:Int) (ls:List Ln):List Cf:=ls.map (cf a)
theorem zjD (n:Nat) (hl:ls.length<=10) (h4:(tog (cfs a ls)).length<=4)
  (k:Q (.d (shp s (zfd a (some (v,u))) (srt (tog (cfs a ls))))) h):Ok (zah P (n+6) 15 [.d (stD s v u a b ls)] h) Q:=by
 refine cl rfl rfl rfl ?_
 refine ask (zay (dD:=lnD) (g:=λl=>poD (cf a l)) (λl hl=>?_) zai ?_)
 ·refine gc ?_
  refine ask (zhO n ?_)
  exact ⟨rfl,rfl⟩
 ·rw [show (ls.map λl=>poD (cf a l))=(cfs a ls).map poD by rw [List.map_map];rfl]
  refine ask (zdX (v:=some (v,u)) (n+3) ?_)
  refine ask (znA (n+4) (by rw [List.length_map];exact hl) h4 ?_)
  exact f0 k
theorem zok (cs:List Cf):Nk (srt (tog cs)):=zj7 (zeH cs)
theorem zgV (n:Nat) (hl:ls.length<=10) (h4:(tog (cfs a ls)).length<=4) (nm:Nk m) (lm:m.length<=100)
  (k:Q (.d (.bl (hd s (zfd a (some (v,u))) s' m'&&wi (srt (tog (cfs a ls))) m))) h):Ok (zah P (n+7) 17 [.d (stD s v u a b ls),.d (shp s' m' m)] h) Q:=by
 refine cl rfl rfl rfl ?_
 refine ask (zjD n hl h4 ?_)
 refine ask (znk (n+5) (zok _) nm (by rw [zj5];omega) lm ?_)
 exact f0 k
theorem zeR (n:Nat) (k:Q (.d (.bl (x==y))) h):Ok (zah P (n+1) 37 [.d (.bl x),.d (.bl y)] h) Q:=by
 refine cl rfl rfl rfl ?_
 exact f0 k
end K43
namespace K43
open IT
variable {Q:R->Sto->Prop}
theorem len1:(h++[o]).length=h.length+1:=by simp
theorem app1:h++[o]++t=h++o::t:=by simp
theorem f2 (q:Q (.d x) (h++[.lst ys])):Ok (fin (h++[.lst xs]) false k (.d x) (h++.lst ys::t)) Q:=by
 have e:=zcn (h:=h++[Ob.lst xs]) (t:=t) (l:=h.length) (xs:=xs) (ys:=ys) zac
 rw [zao,app1] at e
 refine fd e ?_
 rw [len1,<-app1,List.take_left' (by simp)]
 exact q
theorem idx4 (h0:0<=i) (h1:i<4) (p:D->Prop) (hx:p x) (hy:p y) (hz:p z) (hw:p w):∃ d,idxD (.lst [x,y,z,w]) (.int i)=some d/\p d:=by
 have:i=0\/i=1\/i=2\/i=3:=by omega
 rcases this with rfl | rfl | rfl | rfl
 ·exact ⟨_,rfl,hx⟩
 ·exact ⟨_,rfl,hy⟩
 ·exact ⟨_,rfl,hz⟩
 ·exact ⟨_,rfl,hw⟩
theorem idx3 (h0:0<=i) (h1:i<3) (p:D->Prop) (hx:p x) (hy:p y) (hz:p z):∃ d,idxD (.lst [x,y,z]) (.int i)=some d/\p d:=by
 have:i=0\/i=1\/i=2:=by omega
 rcases this with rfl | rfl | rfl
 ·exact ⟨_,rfl,hx⟩
 ·exact ⟨_,rfl,hy⟩
 ·exact ⟨_,rfl,hz⟩
theorem idx2 (h0:0<=i) (h1:i<2) (p:D->Prop) (hx:p x) (hy:p y):∃ d,idxD (.lst [x,y]) (.int i)=some d/\p d:=by
 have:i=0\/i=1:=by omega
 rcases this with rfl | rfl
 ·exact ⟨_,rfl,hx⟩
 ·exact ⟨_,rfl,hy⟩
inductive Rt where
 | non | rea | wri
 deriving DecidableEq
noncomputable def rtS:Rt->List Nat
 | .non=>[110,111,110,101]
 | .rea=>[114,101,97,100]
 | .wri=>[119,114,105,116,101]
inductive Ro where
 | non | wait | keep | last | more
noncomputable abbrev ha:List Nat:=[104,97]
noncomputable abbrev hb:List Nat:=[104,98]
noncomputable abbrev ga:List Nat:=[103,97]
noncomputable abbrev gb':List Nat:=[103,98]
noncomputable def rw' (h k:List Nat):Ro->List D
 | .non=>[]
 | .wait=>[.tup [.str [104,111,117,115,101],.str h,.str k,.str [97,110,121],.str h,.tup [.tup [.str [119,97,105,116]]]]]
 | .keep=>[.tup [.str [104,111,117,115,101],.str h,.str k,.str [97,110,121],.str ha,.tup [.tup [.str [107,101,101,112]]]]]
 | .last=>[.tup [.str [104,111,117,115,101],.str h,.str k,.str [108,97,115,116],.str hb,.tup []]]
 | .more=>[.tup [.str [104,111,117,115,101],.str h,.str k,.str [109,111,114,101],.str hb,.tup []]]
noncomputable def pairs:List (List Nat×List Nat):=[(ha,ga),(ha,gb'),(hb,ga),(hb,gb')]
noncomputable def bld (os:List Ro):List D:=((pairs.zip os).map λp=>rw' p.1.1 p.1.2 p.2).flatten
theorem znB (o:Ro) (e:pairs[os.length]?=some (a,b)):bld (os++[o])=bld os++rw' a b o:=by
 match os,e with
 | [],e=>cases e;simp [bld,pairs]
 | [_],e=>cases e;simp [bld,pairs]
 | [_,_],e=>cases e;simp [bld,pairs]
 | [_,_,_],e=>cases e;simp [bld,pairs]
 | _::_::_::_::_,e=>simp [pairs] at e
theorem zpW:(bld os).length<=os.length:=by
 have:∀ (ps:List (List Nat×List Nat)) (os:List Ro),((ps.zip os).map λp=>rw' p.1.1 p.1.2 p.2).flatten.length<=os.length:=by
  intro ps
  induction ps with
  | nil=>intro os;simp
  | cons p ps ih=>
   intro os
   cases os with
   | nil=>simp
   | cons o os=>
    have:=ih os
    have h1:(rw' p.1 p.2 o).length<=1:=by cases o<;>simp [rw']
    simp only [List.zip_cons_cons,List.map_cons,List.flatten_cons,List.length_append,List.length_cons]
    omega
 exact this _ _
noncomputable abbrev sts:List (List Nat):=[[105,97],[105,98],[105,99]]
noncomputable def haD (p:List Nat×Rt):D:=.tup [.str p.1,.str (rtS p.2)]
noncomputable def tabD (rs:List Rt) (s0:List Nat) (t:List D) (os:List Ro):D:=.tup [.tup ((sts.zip rs).map haD),.tup (.str s0::t),.tup (bld os)]
theorem zmx (r:Rt) (e:sts[rs.length]?=some a):sts.zip (rs++[r])=sts.zip rs++[(a,r)]:=by
 match rs,e with
 | [],e=>cases e;rfl
 | [_],e=>cases e;rfl
 | [_,_],e=>cases e;rfl
 | _::_::_::_,e=>simp at e
inductive TI (h:Sto) (d:D) (m:Nat) (σ:Env) (h':Sto):Prop
 | mk (os:List Ro) (qs:List Int) (v3 v4 v5:Option R) (ho:os.length=m) (e:h'=h++pl qs::[.lst (bld os)]) (e2:σ=[some (R.loc h.length),some (R.d d),some (R.loc (h.length+1)),v3,v4,v5,none])
inductive TJ (h:Sto) (d:D) (x:List Nat) (m:Nat) (σ:Env) (h':Sto):Prop
 | mk (os:List Ro) (qs:List Int) (v4 v5:Option R) (ho:os.length=m) (e:h'=h++pl qs::[.lst (bld os)]) (e2:σ=[some (R.loc h.length),some (R.d d),some (R.loc (h.length+1)),some (.d (.str x)),v4,v5,none])
theorem TJ.add {h:Sto} {d:D} {x y:List Nat} {os:List Ro} {m:Nat} {qs:List Int} {rs:List D} {v4 v5:Option R} (o:Ro) (hp:pairs[os.length]?=some (x,y)) (ho:os.length=m) (e:rs=bld os++rw' x y o):TJ h d x (m+1) [some (R.loc h.length),some (R.d d),some (R.loc (h.length+1)),some (.d (.str x)),v4,v5,none] (h++pl qs::[.lst rs]):=
 ⟨os++[o],qs,v4,v5,by simp [ho],by rw [znB o hp,e],rfl⟩
theorem znh (n:Nat) {h:Sto} {d:D} {x y:List Nat} {os:List Ro} {m:Nat} {qs:List Int} {v4 v5:Option R} (hp:pairs[os.length]?=some (x,y)) (ho:os.length=m) (hbg:(bld os).length<big) :
  Ok (bnd (zaD (Tg.name 4) ((dI∘.str) y) [some (R.loc h.length),some (R.d d),some (R.loc (h.length+1)),some (.d (.str x)),v4,v5,none]) (λσ'=>exs (zah P (n+1)) [.asg (.name 5) (.call 32 [(.var 0),(.con (.int 6))]),.ife (.val (.cmp .lt (.var 5) (.con (.int 3)))) [.exp (.me .append (.var 2) [(.tup [(.con (.str [104,111,117,115,101])),(.var 3),(.var 4),(.con (.str [97,110,121])),(.var 3),(.tup [(.tup [(.con (.str [119,97,105,116]))])])])])] [.ife (.val (.cmp .eq (.var 5) (.con (.int 3)))) [.exp (.me .append (.var 2) [(.tup [(.con (.str [104,111,117,115,101])),(.var 3),(.var 4),(.con (.str [97,110,121])),(.con (.str [104,97])),(.tup [(.tup [(.con (.str [107,101,101,112]))])])])])] [.ife (.val (.cmp .eq (.var 5) (.con (.int 4)))) [.exp (.me .append (.var 2) [(.tup [(.con (.str [104,111,117,115,101])),(.var 3),(.var 4),(.idx (.lst false (.disp [(.con (.str [108,97,115,116])),(.con (.str [109,111,114,101]))])) (.call 32 [(.var 0),(.con (.int 2))])),(.con (.str [104,98])),(.tup [])])])] []]]] σ') (h++pl qs::[.lst (bld os)])) λp h1=>match p.1 with
   | .ret _=>False
   | .brk=>False
   | _=>zaz none (h++pl qs::[.lst (bld os)]) h1=true/\TJ h d x (m+1) p.2 h1:=by
 refine gb ?_
 refine ask (zav n (by decide) λd qs d0 d1=>?_)
 refine br (λc=>?_) (λc=>?_)
 ·refine st zax ?_
  refine st zax ⟨hbg,?_⟩
  rw [zcD]
  exact ⟨rfl,.add .wait hp ho rfl⟩
 ·refine br (λc=>?_) (λc=>?_)
  ·refine st zax ?_
   refine st zax ⟨hbg,?_⟩
   rw [zcD]
   exact ⟨rfl,.add .keep hp ho rfl⟩
  ·refine br (λc=>?_) (λc=>?_)
   ·refine st zax ?_
    refine ask (zav n (by decide) λd qs d0 d1=>?_)
    obtain ⟨_,ei,hw⟩:=idx2 (x:=.str [108,97,115,116]) (y:=.str [109,111,114,101]) d0 d1 (λd=>d=.str [108,97,115,116]\/d=.str [109,111,114,101]) (.inl rfl) (.inr rfl)
    refine st ei ?_
    rcases hw with rfl | rfl
    ·refine st zax ⟨hbg,?_⟩
     rw [zcD]
     exact ⟨rfl,.add .last hp ho rfl⟩
    ·refine st zax ⟨hbg,?_⟩
     rw [zcD]
     exact ⟨rfl,.add .more hp ho rfl⟩
   ·exact ⟨rfl,.add .non hp ho (by simp [rw'])⟩
theorem zjc (n:Nat) {h:Sto} {ps:List Int} (k:∀ rs s0 t os qs,rs.length=3->os.length=4->Q (.d (tabD rs s0 t os)) (h++[pl qs])):Ok (zah P (n+2) 33 [.loc h.length] (h++[pl ps])) Q:=by
  refine cl rfl rfl rfl ?_
  ac_rfl
  have e3:[D.str [105,97],.str [105,98],.str [105,99]]=sts.map .str:=rfl
  rw [e3,List.map_map]
  refine ask (zeg (g:=dI∘.str) (xs:=sts) (λi ys h'=>∃ (rs:List Rt) (qs:List Int),rs.length=i/\ys=(sts.zip rs).map haD/\h'=h++[pl qs]) ?_ ?_ ⟨[],ps,rfl,rfl,rfl⟩)
  · rintro i x ys h' hx ⟨rs,qs,hl,rfl,rfl⟩
    refine gc ?_
    refine ask (zav n (by decide) λd qs d0 d1=>?_)
    obtain ⟨_,ei,r,rfl⟩:=idx3 (x:=.str [110,111,110,101]) (y:=.str [114,101,97,100]) (z:=.str [119,114,105,116,101]) d0 d1 (λd=>∃ r,d=.str (rtS r)) ⟨.non,rfl⟩ ⟨.rea,rfl⟩ ⟨.wri,rfl⟩
    refine st ei ?_
    refine ⟨rfl,rs++[r],qs,by simp [hl],?_,rfl⟩
    rw [zmx r (by rw [hl];exact hx),List.map_append]
    rfl
  rintro ys h' ⟨rs,ps,hr,rfl,rfl⟩
  have hr:rs.length=3:=hr
  ac_rfl
  rw [len1,app1]
  have e2:[D.str [104,97],.str [104,98]]=[ha,hb].map .str:=rfl
  have e4:[D.str [103,97],.str [103,98]]=[ga,gb'].map .str:=rfl
  rw [e2,List.map_map]
  refine ask (zaK (g:=dI∘.str) (xs:=[ha,hb]) (λi σ h'=>TI h (.tup ((sts.zip rs).map haD)) (2*i) σ h') ?_ ?_ ⟨[],ps,none,none,none,rfl,rfl,rfl⟩)
  · rintro i x σ h' hx ⟨os,qs,v3,v4,v5,ho,rfl,rfl⟩
    have hi:i<2:=(List.getElem?_eq_some_iff.mp hx).1
    refine gb ?_
    ac_rfl
    rw [e4,List.map_map]
    refine ask (zaK (g:=dI∘.str) (xs:=[ga,gb']) (λj σ h'=>TJ h (.tup ((sts.zip rs).map haD)) x (2*i+j) σ h') ?_ ?_ ⟨os,qs,v4,v5,ho,rfl,rfl⟩)
    · rintro j y σ h' hy ⟨os,qs,v4,v5,ho,rfl,rfl⟩
      have hj:j<2:=(List.getElem?_eq_some_iff.mp hy).1
      have hp:pairs[os.length]?=some (x,y):=by
        rw [ho]
        match i,j,hi,hj,hx,hy with
        | 0,0,_,_,hx,hy=>cases hx;cases hy;rfl
        | 0,1,_,_,hx,hy=>cases hx;cases hy;rfl
        | 1,0,_,_,hx,hy=>cases hx;cases hy;rfl
        | 1,1,_,_,hx,hy=>cases hx;cases hy;rfl
      refine (znh n hp ho (by have:=zpW (os:=os);unfold big;omega)).mono λp h1 z=>?_
      match p,z with
      | (.ret _,_),z=>exact z.elim
      | (.brk,_),z=>exact z.elim
      | (.nx,_),z=>exact z
      | (.cnt,_),z=>exact z
    · rintro σ h' ⟨os,qs,v4,v5,ho,rfl,rfl⟩
      exact ⟨rfl,os,qs,_,v4,v5,by simp at ho;omega,rfl,rfl⟩
  · rintro σ h' ⟨os,qs,v3,v4,v5,ho,rfl,rfl⟩
    have ho:os.length=4:=ho
    refine ask (zav n (by decide) λd qs d0 d1=>?_)
    obtain ⟨_,ei,s0,t,rfl⟩:=idx2 (x:=.tup [.str [104,97],.str [104,98]]) (y:=.tup [.str [104,98],.str [104,97],.str [104,99]]) d0 d1 (λd=>∃ s0 t,d=.tup (.str s0::t)) ⟨_,_,rfl⟩ ⟨_,_,rfl⟩
    refine st ei ?_
    refine st zax ?_
    exact f2 (k rs s0 t os qs hr ho)
end K43
namespace K43
open IT
variable {Q:R->Sto->Prop}
noncomputable def isW:Ro->Bool
 | .wait=>true
 | _=>false
noncomputable def zjL (o0 o1 o2 o3:Ro) (s m:List Nat):Ro:=if s=ha then (if m=ga then o0 else o1) else (if m=ga then o2 else o3)
theorem bld4:bld [o0,o1,o2,o3]=rw' ha ga o0++(rw' ha gb' o1++(rw' hb ga o2++rw' hb gb' o3)):=by simp [bld,pairs]
theorem za7 {a b hd:List D}:H.firstR (a++b) hd=(H.firstR a hd).or (H.firstR b hd):=by unfold H.firstR;rw [List.find?_append]
theorem zal (o:Ro) (e:(h==s&&k==m)=false):H.firstR (rw' h k o) [.str [104,111,117,115,101],.str s,.str m,.str w]=none:=by
 rw [Bool.and_eq_false_iff] at e
 rcases e with e | e<;>cases o<;>simp [H.firstR,rw',H.begins,D.eqbs,D.eqb,e]
theorem zdv (o:Ro):H.goes (H.houseR (rw' h k o) h k last)=!isW o:=by
 have b1:(h==h)=true:=beq_self_eq_true h
 have b2:(k==k)=true:=beq_self_eq_true k
 cases o<;>cases last<;>simp [H.houseR,H.firstR,rw',H.begins,D.eqbs,D.eqb,H.goes,isW,H.lastD,H.waits,Option.or]
theorem zsN {o0 o1 o2 o3:Ro} (hs:s=ha\/s=hb):H.Tab s (bld [o0,o1,o2,o3]) λm=>!isW (zjL o0 o1 o2 o3 s m) where
 full:=by
  intro r hr
  rw [bld4] at hr
  simp only [List.mem_append] at hr
  rcases hr with hr | hr | hr | hr
  ·cases o0<;>simp [rw'] at hr<;>subst hr<;>rfl
  ·cases o1<;>simp [rw'] at hr<;>subst hr<;>rfl
  ·cases o2<;>simp [rw'] at hr<;>subst hr<;>rfl
  ·cases o3<;>simp [rw'] at hr<;>subst hr<;>rfl
 hand:=by
  intro st e
  have:∀ h k o,H.firstR (rw' h k o) [.str H.khand,.str st,.str e]=none:=by
   intro h k o
   cases o<;>simp [H.firstR,rw',H.begins,D.eqbs,D.eqb]
  rw [H.handR,bld4,za7,za7,za7,this,this,this,this]
  rfl
 house:=by
  intro m last hm
  rcases hs with rfl | rfl<;>rcases hm with rfl | rfl
  ·rw [<-zdv (h:=ha) (k:=ga) (last:=last)]
   simp only [H.houseR,bld4,za7]
   rw [zal o1 rfl,zal o1 rfl,zal o2 rfl,zal o2 rfl,zal o3 rfl,zal o3 rfl]
   simp [zjL]
  ·rw [<-zdv (h:=ha) (k:=gb') (last:=last)]
   simp only [H.houseR,bld4,za7]
   rw [zal o0 rfl,zal o0 rfl,zal o2 rfl,zal o2 rfl,zal o3 rfl,zal o3 rfl]
   simp [zjL]
  ·rw [<-zdv (h:=hb) (k:=ga) (last:=last)]
   simp only [H.houseR,bld4,za7]
   rw [zal o1 rfl,zal o1 rfl,zal o0 rfl,zal o0 rfl,zal o3 rfl,zal o3 rfl]
   simp [zjL]
  ·rw [<-zdv (h:=hb) (k:=gb') (last:=last)]
   simp only [H.houseR,bld4,za7]
   rw [zal o1 rfl,zal o1 rfl,zal o2 rfl,zal o2 rfl,zal o0 rfl,zal o0 rfl]
   simp [zjL]
noncomputable def rgt (zs:List (List Nat×Rt)) (s:List Nat):Rt:=match zs.find? (λp=>p.1==s) with
 | some p=>p.2
 | none=>.non
theorem zc2 (n:Nat) (k:Q (.d (.str (rtS (rgt zs s)))) h):Ok (zah P (n+1) 1 [.d (.tup [.tup (zs.map haD),y,z]),.d (.str s)] h) Q:=by
 refine cl rfl rfl rfl ?_
 ac_rfl
 rw [List.map_map]
 refine ask (zaK (g:=dI∘haD) (xs:=zs) (λi σ h'=>h'=h/\rgt zs s=rgt (zs.drop i) s/\∃ v2 v3,σ=[some (R.d (.tup [.tup (zs.map haD),y,z])),some (R.d (.str s)),v2,v3]) ?_ ?_ ⟨rfl,rfl,none,none,rfl⟩)
 ·rintro i p σ h' hx ⟨rfl,hf,v2,v3,rfl⟩
  have hi:=(List.getElem?_eq_some_iff.mp hx).1
  have hd1:zs.drop i=p::zs.drop (i+1):=by
   rw [List.drop_eq_getElem_cons hi,(List.getElem?_eq_some_iff.mp hx).2]
  rw [hd1] at hf
  refine gb ?_
  refine br (λc=>?_) (λc=>?_)
  ·have c:(p.1==s)=true:=c
   have e:rgt zs s=p.2:=by rw [hf];unfold rgt;rw [List.find?_cons_of_pos (by exact c)]
   rw [e] at k
   exact f0 k
  ·have c:(p.1==s)=false:=c
   have e:rgt zs s=rgt (zs.drop (i+1)) s:=by rw [hf];unfold rgt;rw [List.find?_cons_of_neg (by rw [c];simp)]
   exact ⟨rfl,rfl,e,_,_,rfl⟩
 ·rintro σ h' ⟨rfl,hf,v2,v3,rfl⟩
  rw [List.drop_eq_nil_of_le (Nat.le_refl _)] at hf
  rw [hf] at k
  exact f0 k
noncomputable def nonB (r:Rt):Bool:=match r with
 | .non=>true
 | _=>false
noncomputable def wriB (r:Rt):Bool:=match r with
 | .wri=>true
 | _=>false
noncomputable def reaB (r:Rt):Bool:=match r with
 | .rea=>true
 | _=>false
noncomputable def clB (rg:List Nat->Rt) (ls:List Ln):Bool:=(ls.any λl=>wriB (rg l.st))&&decide (1<(ls.length:Int)-(ls.countP λl=>nonB (rg l.st):Nat))
theorem zn8 (r:Rt):(D.str (rtS r)).eqb (.str [119,114,105,116,101])=wriB r:=by cases r<;>rfl
theorem zr9 (r:Rt):(D.str (rtS r)).eqb (.str [114,101,97,100])=reaB r:=by cases r<;>rfl
theorem zrh (r:Rt):(D.str (rtS r)).eqb (.str [110,111,110,101])=nonB r:=by cases r<;>rfl
theorem zjg (n:Nat) (k:Q (.d (.bl (clB (rgt zs) ls))) h):Ok (zah P (n+2) 7 [.d (.tup [.tup (zs.map haD),y,z]),.d (stD s v u a b ls)] h) Q:=by
 refine cl rfl rfl rfl ?_
 refine ask (zay (dD:=lnD) (g:=λl=>D.str (rtS (rgt zs l.st))) (λl hl=>?_) zai ?_)
 ·refine gc ?_
  refine ask (zc2 n ?_)
  exact ⟨rfl,rfl⟩
 ·have e1:((ls.map λl=>D.str (rtS (rgt zs l.st))).any λy=>y.eqb (.str [119,114,105,116,101]))=ls.any λl=>wriB (rgt zs l.st):=by
   rw [List.any_map]
   simp only [Function.comp_def,zn8]
  have e2:((ls.map λl=>D.str (rtS (rgt zs l.st))).countP λy=>y.eqb (.str [110,111,110,101]))=ls.countP λl=>nonB (rgt zs l.st):=by
   rw [List.countP_map]
   simp only [Function.comp_def,zrh]
  unfold clB at k
  refine br (λc=>?_) (λc=>?_)
  ·have c:=e1.symm.trans c
   rw [c,Bool.true_and,<-e2] at k
   ac_rfl
   rw [List.length_map]
   exact f0 k
  ·have c:=e1.symm.trans c
   rw [c,Bool.false_and] at k
   exact f0 k
noncomputable def wrs (rg:List Nat->Rt) (m:KV):List Ct:=m.filterMap λp=>if wriB (rg p.1.st) then some p.2 else none
noncomputable def rds' (rg:List Nat->Rt) (m:KV):List Ct:=m.filterMap λp=>if reaB (rg p.1.st) then some p.2 else none
noncomputable def mcB (rg:List Nat->Rt) (m:KV):Bool:=!(wrs rg m).isEmpty&&((wrs rg m) != [.one]||!(rds' rg m).isEmpty)
noncomputable def ctD (t:Ct):D:=.str (ctS t)
theorem zp2 {f:Cf×Ct->Bool}:∀ m:KV,(m.filterMap λp=>if f p then some (ctD p.2) else none)=(m.filterMap λp=>if f p then some p.2 else none).map ctD
 | []=>rfl
 | p::m=>by
  rw [List.filterMap_cons,List.filterMap_cons,zp2 m]
  cases f p<;>rfl
theorem zsf (W:List Ct):cop .ne (.lst (W.map ctD)) (.lst [.str [111,110,101]])=some (.bl (W != [.one])):=by
 rw [zfR (zd8 (by simp [D.dep,D.deps]))]
 congr 2
 match W with
 | []=>rfl
 | [a]=>cases a<;>rfl
 | a::b::r=>
  show (!D.eqbs (ctD a::ctD b::r.map ctD) [.str [111,110,101]])=_
  rw [D.eqbs]
  simp [D.eqbs,bne,BEq.beq,List.beq]
theorem zqR (W:List Ct):cop .ne (.lst (W.map ctD)) (.lst [])=some (.bl (!W.isEmpty)):=by
 rw [zfR (zd8 (by simp [D.dep,D.deps]))]
 cases W<;>rfl
theorem ze8 (n:Nat) {h:Sto} (k:Q (.d (.bl (mcB (rgt zs) m))) h):Ok (zah P (n+2) 19 [.d (.tup [.tup (zs.map haD),y,z]),.d (shp s s2 m)] h) Q:=by
 refine cl rfl rfl rfl ?_
 ac_rfl
 rw [List.map_map]
 refine ask (zat (d:=dI∘prD) (g:=λp=>if wriB (rgt zs p.1.st) then some (ctD p.2) else none) (λp hp=>?_) zai ?_)
 ·refine gc ?_
  refine ask (zc2 n ?_)
  have e:=zn8 (rgt zs p.1.st)
  refine br (λc=>?_) (λc=>?_)
  ·have c:wriB (rgt zs p.1.st)=true:=e▸c
   rw [c]
   exact ⟨rfl,rfl⟩
  ·have c:wriB (rgt zs p.1.st)=false:=e▸c
   rw [c]
   exact ⟨rfl,rfl⟩
 rw [zp2]
 ac_rfl
 rw [List.map_map]
 refine ask (zat (d:=dI∘prD) (g:=λp=>if reaB (rgt zs p.1.st) then some (ctD p.2) else none) (λp hp=>?_) zai ?_)
 ·refine gc ?_
  refine ask (zc2 n ?_)
  have e:=zr9 (rgt zs p.1.st)
  refine br (λc=>?_) (λc=>?_)
  ·have c:reaB (rgt zs p.1.st)=true:=e▸c
   rw [c]
   exact ⟨rfl,rfl⟩
  ·have c:reaB (rgt zs p.1.st)=false:=e▸c
   rw [c]
   exact ⟨rfl,rfl⟩
 rw [zp2]
 have e:mcB (rgt zs) m=(!(wrs (rgt zs) m).isEmpty&&((wrs (rgt zs) m) != [.one]||!(rds' (rgt zs) m).isEmpty)):=rfl
 unfold wrs rds' at e
 rw [e] at k
 generalize (m.filterMap λp=>if wriB (rgt zs p.1.st) then some p.2 else none)=W at k ⊢
 generalize (m.filterMap λp=>if reaB (rgt zs p.1.st) then some p.2 else none)=V at k ⊢
 cases W with
 | nil=>
  exact f0 k
 | cons w W=>
  have e1:=zsf (w::W)
  generalize ((w::W) != [Ct.one])=t at e1 k
  simp only [List.isEmpty_cons,Bool.not_false,Bool.true_and] at k
  refine st e1 ?_
  refine br (λc=>?_) (λc=>?_)
  ·subst c
   exact f0 k
  ·subst c
   refine st (zqR V) ?_
   exact f0 k
end K43
namespace K43
open IT
variable {Q:R->Sto->Prop}
noncomputable def tkL {α:Type} (o:Bool) (w:List α):List α:=if o then w.take 1 else w
theorem comers_call {α:Type} {f:α->D} (n:Nat) {l:List α} (kq:Q (.d (.tup ((tkL o l).map f))) h):Ok (zah P (n+1) 9 [.d (.tup (l.map f)),.d (.bl o)] h) Q:=by
 refine cl rfl rfl rfl ?_
 cases o with
 | true=>
  ac_rfl
  rw [zkm (show (0:Int)<=1 by decide),<-List.map_take]
  exact f0 kq
 | false=>
  exact f0 kq
theorem zgD {rows hd:List D} (ht:∀ r∈rows,H.full r=true) (e:H.firstR rows hd=some r):H.full r=true:=ht r (List.mem_of_find?_eq_some e)
theorem zjK (ht:∀ r∈rows,H.full r=true):∀ r,H.houseR rows s m l=some r->H.full r=true:=by
 intro r e
 unfold H.houseR at e
 rcases Option.or_eq_some_iff.mp e with e | ⟨_,e⟩
 ·exact zgD ht e
 ·exact zgD ht e
theorem zi4 (n:Nat) (T:H.Tab s rows g) (hk:k=ga\/k=gb') (kq:Q (.d (.bl (!g k))) h):Ok (zah P (n+3) 22 [.d (.tup [x,y,.tup rows]),.d (.str s),.d (.tup [.str k,z])] h) Q:=by
 refine cl rfl rfl rfl ?_
 have ht:∀ r∈rows,H.isT r=true:=λr hr=>H.full_T (T.full r hr)
 refine ask (H.houserow_call n ht ?_)
 refine ask (H.iswait_call (n+1) (zjK T.full) ?_)
 rw [T.house k true hk]
 exact f0 kq
noncomputable def mv (g:List Nat->Bool) (o:Bool) (c:Cf):Bool:=!c.to.isEmpty||(tkL o c.back).any λp=>g p.1
noncomputable def kdB (w:List Lm):Prop:=∀ p∈w,p.1=ga\/p.1=gb'
theorem zqd {α:Type} {w:List α} {p:α} (h:p∈tkL o w):p∈w:=by
 cases o
 ·exact h
 ·exact List.mem_of_mem_take h
theorem zjW (n:Nat) {h:Sto} {s:List Nat} {o:Bool} (T:H.Tab s rows g) (hk:kdB c.back) (kq:Q (.d (.bl (mv g o c))) h):Ok (zah P (n+4) 21 [.d (.tup [x,y,.tup rows]),.d (.str s),.d (cfD c),.d (.bl o)] h) Q:=by
 refine cl rfl rfl rfl ?_
 unfold mv at kq
 cases e:c.to with
 | cons p r=>
  obtain ⟨s1,mk,to,bk,fl⟩:=c
  cases e
  exact f0 kq
 | nil=>
  obtain ⟨s1,mk,to,bk,fl⟩:=c
  cases e
  refine ask (comers_call (f:=lmD) (n+2) ?_)
  refine ask (zay (dD:=lmD) (g:=λp=>D.bl (!g p.1)) (λp hp=>?_) zai ?_)
  ·refine gc ?_
   refine ask (zi4 n T (hk p (zqd hp)) ?_)
   exact ⟨rfl,rfl⟩
  ·ac_rfl
   refine st ziO ?_
   refine f0 ?_
   have e:(!(tkL o bk).all λp=>!g p.1)=((tkL o bk).any λp=>g p.1):=by
    rw [List.not_all_eq_any_not];simp
   rw [e]
   exact kq
noncomputable def mbs (f:Cf->Bool):KV->Bool->Bool
 | [],held=>held
 | p::r,held=>if f p.1 then (match p.2 with | .any=>mbs f r held | _=>false) else mbs f r (if p.1.back.isEmpty then held else true)
inductive MS (h:Sto) (p:Bool->Prop) (f:Bool->Option R->Option R->Env) (σ:Env) (h':Sto):Prop
 | mk (e:h'=h) (held:Bool) (v4 v5:Option R) (hf:p held) (e2:σ=f held v4 v5)
theorem zck (n:Nat) {o:Bool} {rs:List R} (T:H.Tab s rows g) (hk:∀ p∈m,kdB p.1.back) (er:zaM 3 [.bl true] rs=[.d (.tup [x,y,.tup rows]),.d (shp s s2 m),.d (.bl o)]) (kq:Q (.d (.bl (mbs (mv g o) m false))) h) :
  Ok (zah P (n+5) 20 rs h) Q:=by
 refine cd rfl er rfl ?_
 ac_rfl
 rw [List.map_map]
 refine ask (zaK (g:=dI∘prD) (xs:=m) (λi=>MS h (λheld=>mbs (mv g o) m false=mbs (mv g o) (m.drop i) held) (λheld v4 v5=>[some (R.d (.tup [x,y,.tup rows])),some (R.d (shp s s2 m)),some (R.d (.bl o)),some (R.d (.bl held)),v4,v5])) ?_ ?_ ⟨rfl,false,none,none,rfl,rfl⟩)
 ·rintro i p σ h' hx ⟨rfl,held,v4,v5,hf,rfl⟩
  have hi:=(List.getElem?_eq_some_iff.mp hx).1
  have hd1:m.drop i=p::m.drop (i+1):=by
   rw [List.drop_eq_getElem_cons hi,(List.getElem?_eq_some_iff.mp hx).2]
  rw [hd1,mbs] at hf
  refine gb ?_
  refine ask (zjW n T (hk p (List.mem_of_getElem? hx)) ?_)
  obtain ⟨c,t⟩:=p
  refine br (λe=>?_) (λe=>?_)
  ·rw [if_pos e] at hf
   cases t with
   | any=>
    exact ⟨rfl,rfl,held,_,_,hf,rfl⟩
   | one=>
    rw [hf] at kq
    exact f0 kq
   | some=>
    rw [hf] at kq
    exact f0 kq
  ·rw [if_neg (by rw [e];decide)] at hf
   obtain ⟨s1,mk,to,bk,fl⟩:=c
   cases bk with
   | nil=>
    exact ⟨rfl,rfl,held,_,_,hf,rfl⟩
   | cons q r=>
    exact ⟨rfl,rfl,true,_,_,hf,rfl⟩
 ·rintro σ h' ⟨rfl,held,v4,v5,hf,rfl⟩
  rw [List.drop_eq_nil_of_le (Nat.le_refl _),mbs] at hf
  rw [hf] at kq
  exact f0 kq
end K43
namespace K43
open IT
variable {Q:R->Sto->Prop}
theorem lenT:(h++o::t).length=h.length+1+t.length:=by simp;omega
theorem appT:h++o::t++[x]=h++o::(t++[x]):=by simp
theorem getT {o x:Ob}:(h++o::(t++x::u))[h.length+1+t.length]?=some x:=by
 rw [List.getElem?_append_right (by omega),show h.length+1+t.length-h.length=t.length+1 by omega,List.getElem?_cons_succ]
 exact zac
theorem setT {o x y:Ob}:(h++o::(t++x::u)).set (h.length+1+t.length) y=h++o::(t++y::u):=by
 rw [List.set_append_right _ _ (by omega),show h.length+1+t.length-h.length=t.length+1 by omega,List.set_cons_succ,zao]
theorem ztd:objs (h++.lst xs::t) (h++.lst ys::(t++u))=true:=by
 have:=zcn (h:=h++.lst xs::t) (t:=u) (l:=h.length) (xs:=xs) (ys:=ys) zac
 rw [zao] at this
 simpa using this
theorem ztz:(h++o::(t++u)).take (h++o2::t).length=h++o::t:=by
 rw [show h++o::(t++u)=(h++o::t)++u by simp]
 exact List.take_left' (by simp)
theorem f3 (q:Q (.d (.lst zs)) (h++.lst ys::t)):Ok (fin (h++.lst xs::t) false false (.loc (h.length+1+t.length)) (h++.lst ys::(t++.lst zs::u))) Q:=by
 simp only [fin,Bool.false_eq_true,if_false,ztd,if_true,fin0,lenT,Nat.lt_irrefl,getT]
 rw [<-lenT (o:=Ob.lst xs),ztz,ok_some']
 exact q
noncomputable def wlD (p:Lt):D:=.tup [.str p.1,.tup [.str (zke 1 p.2),valD p.2]]
noncomputable def kdL (w:List Lt):Prop:=∀ p∈w,p.1=ga\/p.1=gb'
noncomputable abbrev mks:List D:=[.tup [.str [98,97,114,101],.non],.tup [.str [108,97,115,116],.tup [.int 1,.int 0]],.tup [.str [111,108,100],.tup [.int 0,.int 0]]]
inductive WI (h t:Sto) (f:Option R->Env) (i:Nat) (σ:Env) (h':Sto):Prop
 | mk (w:List Lt) (qs:List Int) (v3:Option R) (hl:w.length=i) (hw:kdL w) (e:h'=h++pl qs::(t++[.lst (w.map wlD)])) (e2:σ=f v3)
theorem way_call (n:Nat) (k:∀ w qs,w.length<=2->kdL w->Q (.d (.lst (w.map wlD))) (h++pl qs::t)):Ok (zah P (n+2) 34 [.loc h.length] (h++pl ps::t)) Q:=by
 refine cl rfl rfl rfl ?_
 ac_rfl
 rw [lenT,appT]
 refine ask (zav n (by decide) λd qs d0 d1=>?_)
 obtain ⟨_,ei,m,rfl,hm⟩:=idx4 (x:=.int 0) (y:=.int 0) (z:=.int 1) (w:=.int 2) d0 d1 (λd=>∃ m:Nat,d=.int m/\m<=2) ⟨0,rfl,by decide⟩ ⟨0,rfl,by decide⟩ ⟨1,rfl,by decide⟩ ⟨2,rfl,by decide⟩
 refine st ei ⟨⟨by omega,by omega⟩,?_⟩
 refine ask (zfT (WI h t (λv3=>[some (R.loc h.length),some (R.d (.lst mks)),some (R.loc (h.length+1+t.length)),v3])) ?_ ?_ ⟨[],qs,none,rfl,by intro p hp;simp at hp,rfl,rfl⟩)
 ·rintro i x σ h' hx ⟨w,qs,v3,hl,hw,rfl,rfl⟩
  have hi:=(zf6 _ _ _ _ hx).1
  have hb:(w.map wlD).length<big:=by unfold big;rw [List.length_map];omega
  refine gb ?_
  refine st getT ?_
  refine ask (zav n (by decide) λd qs d0 d1=>?_)
  obtain ⟨_,ek,kd,rfl,hk⟩:=idx2 (x:=.str ga) (y:=.str gb') d0 d1 (λd=>∃ k,d=.str k/\(k=ga\/k=gb')) ⟨_,rfl,.inl rfl⟩ ⟨_,rfl,.inr rfl⟩
  refine st ek ?_
  refine ask (zav n (by decide) λd qs d0 d1=>?_)
  obtain ⟨_,ev,v,rfl⟩:=idx3 (x:=.tup [.str [98,97,114,101],.non]) (y:=.tup [.str [108,97,115,116],.tup [.int 1,.int 0]]) (z:=.tup [.str [111,108,100],.tup [.int 0,.int 0]]) d0 d1 (λd=>∃ v,d=.tup [.str (zke 1 v),valD v]) ⟨none,rfl⟩ ⟨some (1,0),rfl⟩ ⟨some (0,0),rfl⟩
  refine st ev ?_
  refine st getT ⟨hb,?_⟩
  rw [setT]
  refine ⟨rfl,w++[(kd,v)],qs,_,by simp [hl],?_,by rw [List.map_append];rfl,rfl⟩
  intro p hp
  rcases List.mem_append.mp hp with hp | hp
  ·exact hw p hp
  ·simp at hp;subst hp;exact hk
 ·rintro σ h' ⟨w,qs,v3,hl,hw,rfl,rfl⟩
  rw [zcs] at hl
  exact f3 (k w qs (by omega) hw)
structure Gd (l:Ln):Prop where
 st:l.st∈sts
 want:l.want=0
 to:l.to.length<=2
 back:l.back.length<=2
 kd:kdL l.back
 fl:0<=l.fl
noncomputable def soD (l:Ln):D:=.tup [cfD (cf 1 l),lnD l]
theorem ztk (w:List Lt):(w.map λp=>K43.lmD (ml 1 p))=(w.map (ml 1)).map K43.lmD:=by rw [List.map_map];rfl
theorem zmq (n:Nat) (k:∀ l qs,Gd l->Q (.d (soD l)) (h++pl qs::t)):Ok (zah P (n+3) 35 [.loc h.length] (h++pl ps::t)) Q:=by
 refine cl rfl rfl rfl ?_
 refine ask (zav (n+1) (by decide) λd qs d0 d1=>?_)
 obtain ⟨_,e1,s,rfl,hs⟩:=idx3 (x:=.str [105,97]) (y:=.str [105,98]) (z:=.str [105,99]) d0 d1 (λd=>∃ s,d=.str s/\s∈sts) ⟨_,rfl,by simp⟩ ⟨_,rfl,by simp⟩ ⟨_,rfl,by simp⟩
 refine st e1 ?_
 refine ask (zav (n+1) (by decide) λd qs d0 d1=>?_)
 obtain ⟨_,e2,v,rfl⟩:=idx3 (x:=.tup [.str [110,111,110,101],.non]) (y:=.tup [.str [108,97,115,116],.tup [.int 1,.int 0]]) (z:=.tup [.str [111,108,100],.tup [.int 0,.int 0]]) d0 d1 (λd=>∃ v,d=.tup [.str (zfd 1 v),valD v]) ⟨none,rfl⟩ ⟨some (1,0),rfl⟩ ⟨some (0,0),rfl⟩
 refine st e2 ?_
 refine ask (zav (n+1) (by decide) λd qs d0 d1=>?_)
 have rest:∀ (w:List Lt) (qs:List Int),w.length<=2->kdL w->wSs (zah P (n+2)) (ze0.drop 4) [some (R.loc h.length),some (R.d (.str s)),some (R.d (.str (zfd 1 v))),some (R.d (valD v)),some (R.d (.lst (w.map wlD))),none,none,none,none,none,none,none,none,none,none] (h++pl qs::t) (kF (h++pl ps::t) false false Q):=by
  intro w qs hw hk
  refine ask (way_call n λw2 qs hw2 hk2=>?_)
  refine ask (zav (n+1) (by decide) λf qs z0 z1=>?_)
  ac_rfl
  have ew:[D.lst (w.map wlD),.lst (w2.map wlD)]=[w,w2].map λw=>D.lst (w.map wlD):=rfl
  rw [ew]
  refine ask (zay (g:=λw=>mwD (w.map (ml 1))) (λw _=>?_) zai ?_)
  ·refine gc ?_
   refine ask (zay (dD:=wlD) (g:=λp=>K43.lmD (ml 1 p)) (λp _=>?_) zai ?_)
   ·refine gc ?_
    exact ⟨rfl,rfl⟩
   ·rw [ztk]
    exact ⟨rfl,rfl⟩
  ac_rfl
  have ew:[D.lst (w.map wlD),.lst (w2.map wlD)]=[w,w2].map λw=>D.lst (w.map wlD):=rfl
  rw [ew]
  refine ask (zay (g:=wayD) (λw _=>?_) zai ?_)
  ·refine gc ?_
   refine ask (zay (dD:=wlD) (g:=letD) (λp _=>?_) zai ?_)
   ·refine gc ?_
    exact ⟨rfl,rfl⟩
   ·ac_rfl
    exact ⟨rfl,rfl⟩
  exact f1 (k ⟨s,v,0,w,w2,f⟩ qs ⟨hs,rfl,hw,hw2,hk2,z0⟩)
 refine br (λc=>?_) (λc=>?_)
 ·ac_rfl
  refine ask (way_call n λw qs hw hk=>?_)
  exact rest w qs hw hk
 ·exact rest [] qs (by simp) (by intro p hp;simp at hp)
end K43
namespace K43
open IT
variable {Q:R->Sto->Prop}
noncomputable def cts:Ct->List Nat
 | .one=>[1]
 | .some=>[1,2]
 | .any=>[0,1,2]
noncomputable abbrev It:=Ln×Ct
noncomputable def grow (F:List (List Ln)) (x:It):List (List Ln):=((cts x.2).map λm=>F.map (·++List.replicate m x.1)).flatten
noncomputable def fnd:List It->List (List Ln):=List.foldl grow [[]]
theorem zfw (xs:List It) (x:It):fnd (xs++[x])=grow (fnd xs) x:=by simp [fnd]
noncomputable def linD (L:List Ln):D:=.tup (L.map lnD)
theorem zlB (t:Ct):(cts t).length<=3:=by cases t<;>simp [cts]
theorem zl3 (h:m∈cts t):m<=2:=by cases t<;>simp [cts] at h<;>omega
theorem zeY {F:List (List Ln)}:∀ ms:List Nat,(ms.map λm=>F.map (·++List.replicate m l)).flatten.length=ms.length*F.length
 | []=>by simp
 | m::ms=>by simp only [List.map_cons,List.flatten_cons,List.length_append,List.length_map,zeY ms,List.length_cons];rw [Nat.succ_mul];omega
theorem zfb {α:Type} {p:List α->Prop} (h0:p []) (h1:∀ l a,p l->p (l++[a])) (l:List α):p l:=by
 rw [<-List.reverse_reverse l]
 induction l.reverse with
 | nil=>exact h0
 | cons a r ih=>rw [List.reverse_cons];exact h1 _ _ ih
theorem zpt (xs:List It):(fnd xs).length<=3 ^ xs.length:=by
 refine zfb (p:=λxs=>(fnd xs).length<=3 ^ xs.length) (by simp [fnd]) (λl a ih=>?_) xs
 rw [zfw,grow,zeY,List.length_append,List.length_singleton,Nat.pow_succ,Nat.mul_comm]
 exact Nat.mul_le_mul ih (zlB _)
theorem zhL (xs:List It):∀ L∈fnd xs,L.length<=2*xs.length:=by
 refine zfb (p:=λxs=>∀ L∈fnd xs,L.length<=2*xs.length) (by simp [fnd]) (λl a ih L h=>?_) xs
 rw [zfw,grow] at h
 obtain ⟨G,hG,h⟩:=List.mem_flatten.mp h
 obtain ⟨m,hm,rfl⟩:=List.mem_map.mp hG
 obtain ⟨K,hK,rfl⟩:=List.mem_map.mp h
 have:=ih K hK
 have:=zl3 hm
 simp
 omega
noncomputable def ctN:Ct->Int
 | .one=>0
 | .some=>1
 | .any=>2
theorem zrG (t:Ct):IT.lmD .index (.lst [.str [111,110,101],.str [115,111,109,101],.str [97,110,121]]) (.str (ctS t))=some (.int (ctN t)):=by cases t<;>rfl
theorem zsi (t:Ct):idxD (.lst [.lst [.int 1],.lst [.int 1,.int 2],.lst [.int 0,.int 1,.int 2]]) (.int (ctN t))=some (.lst ((cts t).map λm:Nat=>.int m)):=by cases t<;>rfl
noncomputable def Lies (r:R) (h:Sto) (ys:List D):Prop:=r=.d (.lst ys)\/∃ l,r=.loc l/\h[l]?=some (.lst ys)
theorem zoD:cop .ne (linD (x::K)) (.tup [])=some (.bl true):=by
 rw [zfR (zd8 (by simp [D.dep,D.deps]))]
 rfl
noncomputable abbrev sE (s:List Nat) (a b:Nat) (r:R) (l:Ln) (p:Nat) (v7 v8:Option R):Env:=[some (R.d (.str s)),some (R.loc a),some (R.loc b),some r,some (R.d (cfD (cf 1 l))),some (R.d (lnD l)),some (R.loc p),v7,v8,none]
noncomputable abbrev sB:List S:=[S.exp (E.me Me.append (E.var 6) [E.bin Bo.add (E.var 8) (E.bin Bo.mul (E.tup [E.var 5]) (E.var 7))])]
inductive SK (B:Sto) (f:Option R->Env) (g:Nat->List D) (m q:Nat) (σ:Env) (h':Sto):Prop
 | mk (hq:q<=m) (v8:Option R) (e:h'=B++[.lst (g q)]) (e2:σ=f v8)
theorem zof (n:Nat) {B:Sto} {s:List Nat} {a b m:Nat} {r:R} {l:Ln} {F G:List (List Ln)} {w:Option Nat} {v8:Option R} {Q:Fl×Env->Sto->Prop} (hL:∀ K∈F,K.length<=6) (hF:F.length<=27) (hP:G.length<=81) (hm2:m<=2) (hw:∀ t u,zaz w (B++t) (B++u)=true)
  (hq:∀ v8,Q (.nx,sE s a b r l B.length (some (R.d (.int m))) v8) (B++[.lst ((G++F.map (·++List.replicate m l)).map linD)])) :
  Ok (loop w (λx σ=>bnd (zaD (Tg.name 8) x σ) λσ'=>exs (zah P n) sB σ') ((F.map linD).map dI) (sE s a b r l B.length (some (R.d (.int m))) v8) (B++[.lst (G.map linD)])) Q:=by
 rw [List.map_map]
 refine zaK (g:=dI∘linD) (xs:=F) (SK B (sE s a b r l B.length (some (R.d (.int m)))) (λq=>(G++(F.take q).map (·++List.replicate m l)).map linD) F.length) ?_ ?_ ⟨by omega,v8,by simp,rfl⟩
 ·rintro q K σ h' hz ⟨hq,v8,rfl,rfl⟩
  have hq2:q<F.length:=(List.getElem?_eq_some_iff.mp hz).1
  have hK:=hL K (List.mem_of_getElem? hz)
  have hbg:((G++(F.take q).map (·++List.replicate m l)).map linD).length<big:=by unfold big;simp;omega
  refine gb ?_
  refine st zac ?_
  refine st (zky (by omega) (by omega)) ?_
  rw [Int.toNat_natCast]
  refine st (zf4 (show fit ((K.map lnD).length+(List.replicate m (lnD l)).length)=true from decide_eq_true (by unfold big;simp;omega))) ?_
  refine st zac ⟨hbg,?_⟩
  rw [zao]
  refine ⟨hw _ _,by omega,_,?_,rfl⟩
  rw [zbg hz]
  simp [linD]
 ·rintro σ h' ⟨_,v8,rfl,rfl⟩
  rw [List.take_length]
  exact hq v8
inductive SJ (B:Sto) (f:Option R->Option R->Env) (g:Nat->List D) (m q:Nat) (σ:Env) (h':Sto):Prop
 | mk (hq:q<=m) (v7 v8:Option R) (e:h'=B++[.lst (g q)]) (e2:σ=f v7 v8)
theorem smid (n:Nat) {B:Sto} {s:List Nat} {a b:Nat} {r:R} {l:Ln} {F:List (List Ln)} {c:Ct} {v7 v8:Option R} {Q:Fl×Env->Sto->Prop} (L:Lies r B (F.map linD)) (hL:∀ K∈F,K.length<=6) (hF:F.length<=27)
  (hq:∀ v7 v8,Q (.nx,sE s a b r l B.length v7 v8) (B++[.lst ((grow F (l,c)).map linD)])) :
  Ok (loop none (λx σ=>bnd (zaD (Tg.name 7) x σ) λσ'=>exs (zah P n) [S.for (Tg.name 8) (I.seq (E.var 3)) sB] σ') (((cts c).map λm:Nat=>D.int m).map dI) (sE s a b r l B.length v7 v8) (B++[.lst []])) Q:=by
 rw [List.map_map]
 refine zaK (g:=dI∘λm:Nat=>D.int m) (xs:=cts c) (SJ B (sE s a b r l B.length) (λj=>(((cts c).take j).map λm=>F.map (·++List.replicate m l)).flatten.map linD) (cts c).length) ?_ ?_ ⟨by omega,v7,v8,rfl,rfl⟩
 ·rintro j m σ h' hy ⟨hj,v7,v8,rfl,rfl⟩
  have hj2:j<(cts c).length:=(List.getElem?_eq_some_iff.mp hy).1
  have hm2:=zl3 (List.mem_of_getElem? hy)
  have c3:=zlB c
  have hP:(((cts c).take j).map λm=>F.map (·++List.replicate m l)).flatten.length<=81:=by
   rw [zeY]
   exact Nat.mul_le_mul (show ((cts c).take j).length<=3 by rw [List.length_take];omega) hF
  have eP:(((cts c).take (j+1)).map λm=>F.map (·++List.replicate m l)).flatten=(((cts c).take j).map λm=>F.map (·++List.replicate m l)).flatten++F.map (·++List.replicate m l):=by
   rw [zbg hy,List.map_append,List.flatten_append]
   simp
  have fin:∀ v8,zaz none (B++[.lst ((((cts c).take j).map λm=>F.map (·++List.replicate m l)).flatten.map linD)]) (B++[.lst (((((cts c).take j).map λm=>F.map (·++List.replicate m l)).flatten++F.map (·++List.replicate m l)).map linD)])=true/\SJ B (sE s a b r l B.length) (λj=>(((cts c).take j).map λm=>F.map (·++List.replicate m l)).flatten.map linD) (cts c).length (j+1) (sE s a b r l B.length (some (R.d (.int m))) v8) (B++[.lst (((((cts c).take j).map λm=>F.map (·++List.replicate m l)).flatten++F.map (·++List.replicate m l)).map linD)]):=λv8=>⟨rfl,by omega,_,_,by rw [eP],rfl⟩
  refine gb ?_
  rcases L with rfl | ⟨l2,rfl,q2⟩
  ·exact ask (zof n hL hF hP hm2 (λ_ _=>rfl) fin)
  ·have g2:∀ u,(B++u)[l2]?=some (.lst (F.map linD)):=λu=>by rw [List.getElem?_append_left (List.getElem?_eq_some_iff.mp q2).1];exact q2
   refine st (g2 _) ?_
   refine ask (zof n hL hF hP hm2 (λt' u=>?_) fin)
   simp only [zaz,g2,Ob.same]
   exact D.sames_refl _
 ·rintro σ h' ⟨hj,v7,v8,rfl,rfl⟩
  rw [List.take_length]
  exact hq v7 v8
inductive SI (h:Sto) (s:List Nat) (a b:Nat) (xs:List It) (i:Nat) (σ:Env) (h':Sto):Prop
 | mk (hi:i<=xs.length) (t:Sto) (r:R) (v4 v5 v6 v7 v8:Option R) (e:h'=h++t) (L:Lies r h' ((fnd (xs.take i)).map linD)) (e2:σ=[some (R.d (.str s)),some (R.loc a),some (R.loc b),some r,v4,v5,v6,v7,v8,none])
theorem zon {s:List Nat} (F:List (List Ln)):(F.filterMap λK=>if !K.isEmpty then some (stD s 1 0 1 0 K) else none)=((F.filter λL=>!L.isEmpty).map λL=>stD s 1 0 1 0 L):=by
 induction F with
 | nil=>rfl
 | cons K F ih=>
  rw [List.filterMap_cons,List.filter_cons,ih]
  cases K<;>rfl
theorem zhU (n:Nat) {h:Sto} {s:List Nat} {a b:Nat} {xs:List It} {kv:KV} (ha:h[a]?=some (.lst (xs.map λp=>soD p.1))) (hb:h[b]?=some (.dic (kvD kv))) (hk:∀ p∈xs,look (cf 1 p.1) kv=some p.2) (h4:xs.length<=4)
  (k:Q (.d (.lst (((fnd xs).filter λL=>!L.isEmpty).map λL=>stD s 1 0 1 0 L))) h):Ok (zah P (n+1) 36 [.d (.str s),.loc a,.loc b] h) Q:=by
 refine cl rfl rfl rfl ?_
 refine st ha ?_
 ac_rfl
 have ga:∀ t,(h++t)[a]?=some (.lst (xs.map λp=>soD p.1)):=λt=>by rw [List.getElem?_append_left (List.getElem?_eq_some_iff.mp ha).1];exact ha
 have gb'':∀ t,(h++t)[b]?=some (.dic (kvD kv)):=λt=>by rw [List.getElem?_append_left (List.getElem?_eq_some_iff.mp hb).1];exact hb
 rw [List.map_map]
 refine ask (zaK (g:=dI∘λp:It=>soD p.1) (xs:=xs) (SI h s a b xs) ?_ ?_ ⟨by omega,[],_,none,none,none,none,none,by simp,.inl rfl,rfl⟩)
 ·rintro i x σ h' hx ⟨hi,t,r,v4,v5,v6,v7,v8,rfl,L,rfl⟩
  have hi2:i<xs.length:=(List.getElem?_eq_some_iff.mp hx).1
  have hg:=hk _ (List.mem_of_getElem? hx)
  have l1:(xs.take i).length<=3:=by rw [List.length_take];omega
  have hF:(fnd (xs.take i)).length<=27:=Nat.le_trans (zpt _) (Nat.le_trans (Nat.pow_le_pow_right (by decide) l1) (by decide))
  have hL:∀ K∈fnd (xs.take i),K.length<=6:=λK hK=>Nat.le_trans (zhL _ K hK) (by omega)
  obtain ⟨l,c⟩:=x
  have e1:dGet (cfD (cf 1 l)) (kvD kv)=some (.str (ctS c)):=by rw [zda,hg];rfl
  refine gb ?_
  ac_rfl
  rw [List.append_assoc]
  refine st (gb'' _) ?_
  refine bt (zbw _) ?_
  refine st e1 ?_
  refine st (zrG c) ?_
  refine st (zsi c) ?_
  rw [<-List.append_assoc]
  refine ask (smid n L hL hF λv7 v8=>?_)
  refine ⟨?_,by omega,_,_,_,_,_,_,_,List.append_assoc ..,.inr ⟨_,rfl,?_⟩,rfl⟩
  ·rw [List.append_assoc]
   simp only [zaz,ga,Ob.same]
   exact D.sames_refl _
  ·rw [zbg hx,zfw];exact zac
 ·rintro σ h' ⟨hi,t,r,v4,v5,v6,v7,v8,rfl,L,rfl⟩
  rw [List.take_length] at L
  rcases L with rfl | ⟨l2,rfl,q2⟩
  ·ac_rfl
   rw [List.map_map]
   refine ask (zat (d:=dI∘linD) (g:=λK=>if !K.isEmpty then some (stD s 1 0 1 0 K) else none) (λK hK=>?_) zai ?_)
   ·refine gc ?_
    cases K with
    | nil=>ac_rfl;exact ⟨rfl,rfl⟩
    | cons x K=>
     refine st zoD ?_
     exact ⟨rfl,rfl⟩
   ·rw [zon]
    exact fa k
  ·ac_rfl
   refine st q2 ?_
   ac_rfl
   rw [List.map_map]
   refine ask (zat (d:=dI∘linD) (g:=λK=>if !K.isEmpty then some (stD s 1 0 1 0 K) else none) (λK hK=>?_) (zdc q2) ?_)
   ·refine gc ?_
    cases K with
    | nil=>ac_rfl;exact ⟨rfl,rfl⟩
    | cons x K=>
     refine st zoD ?_
     exact ⟨rfl,rfl⟩
   ·rw [zon]
    exact fa k
end K43
namespace K43
open IT
variable {Q:R->Sto->Prop}
noncomputable def cnt (cs:List Cf) (c:Cf):Nat:=cs.countP λd=>decide (d=c)
theorem zm1 (cs:List Cf) (c d:Cf):cnt (cs++[d]) c=cnt cs c+if d=c then 1 else 0:=by
 unfold cnt
 rw [List.countP_append,List.countP_cons,List.countP_nil]
 by_cases e:d=c<;>simp [e]
theorem ziC (h:c ∉ cs):cnt cs c=0:=by
 unfold cnt
 rw [List.countP_eq_zero]
 intro d hd e
 exact h (of_decide_eq_true e▸hd)
noncomputable def gc' (cs:List Cf) (c:Cf):Ct:=if cnt cs c=1 then .one else .some
theorem ziv (cs:List Cf):∀ c,look c (tog cs)=if cnt cs c=0 then none else some (gc' cs c):=by
 refine zfb (p:=λcs=>∀ c,look c (tog cs)=if cnt cs c=0 then none else some (gc' cs c)) (λ_=>rfl) (λds d ih c=>?_) cs
 unfold gc' at ih ⊢
 rw [ziR,stp,zm1]
 by_cases e:d=c
 ·subst e
  rw [if_pos rfl,ih d]
  by_cases z:cnt ds d=0
  ·rw [if_pos z,if_neg (by omega),if_pos (by omega)]
   dsimp only
   rw [zdx,if_pos rfl]
  ·rw [if_neg z]
   dsimp only
   rw [zdx,if_pos rfl,if_neg (by omega),if_neg (by omega)]
 ·have e2:¬ c=d:=λq=>e q.symm
  rw [if_neg e,Nat.add_zero,<-ih c]
  cases look d (tog ds)<;>dsimp only<;>rw [zdx,if_neg e2]
theorem zhr (h:p∈tog cs):p.1∈cs:=by
 have e:=zcb (zeH cs) (show (p.1,p.2)∈tog cs from h)
 rw [ziv cs] at e
 by_cases z:p.1∈cs
 ·exact z
 ·rw [if_pos (ziC z)] at e;cases e
theorem zfA:∀ {xs ys:List Cf},xs.Nodup->(∀ x∈xs,x∈ys)->xs.length<=ys.length
 | [],ys,_,_=>by simp
 | x::r,ys,n,h=>by
  rw [List.nodup_cons] at n
  have hx:=h x List.mem_cons_self
  have:=zfA (xs:=r) (ys:=ys.erase x) n.2 λy hy=>(List.mem_erase_of_ne (λe=>n.1 (by rw [<-e];exact hy):y≠x)).mpr (h y (List.mem_cons_of_mem _ hy))
  rw [List.length_erase_of_mem hx] at this
  have:0<ys.length:=List.length_pos_of_mem hx
  rw [List.length_cons]
  omega
theorem zmA {l m:KV} (n:Nk l) (h:∀ p∈l,(look p.1 m).isSome=true):l.length<=m.length:=by
 have:=zfA (xs:=l.map Prod.fst) (ys:=m.map Prod.fst) n λc hc=>by
  obtain ⟨p,hp,rfl⟩:=List.mem_map.mp hc
  obtain ⟨t,e⟩:=Option.isSome_iff_exists.mp (h p hp)
  exact List.mem_map.mpr ⟨_,zfU e,rfl⟩
 simpa using this
theorem zsF (n:Nk l):wi l m=true↔(∀ p∈l,(look p.1 m).isSome=true)/\∀ q∈m,cw (look q.1 l) q.2=true:=by
 unfold wi
 simp only [Bool.and_eq_true,List.all_eq_true,Bool.not_eq_true',decide_eq_false_iff_not]
 constructor
 ·rintro ⟨⟨_,a⟩,b⟩;exact ⟨a,b⟩
 ·rintro ⟨a,b⟩
  have:=zmA n a
  exact ⟨⟨by omega,a⟩,b⟩
theorem zrJ (a:∀ c∈cs,(look c m).isSome=true) (b:∀ q∈m,cw (if cnt cs q.1=0 then none else some (gc' cs q.1)) q.2=true):wi (srt (tog cs)) m=true:=by
 rw [zsF (zok cs)]
 refine ⟨λp hp=>a p.1 ?_,λq hq=>?_⟩
 ·exact zhr ((zaJ _).mem_iff.mp hp)
 ·rw [ziZ (zeH cs),ziv cs]
  exact b q hq
noncomputable def Fit:List It->List Ln->Prop
 | [],L=>L=[]
 | x::xs,L=>∃ m∈cts x.2,∃ K,Fit xs K/\L=List.replicate m x.1++K
theorem zis:∀ (xs:List It) (F:List (List Ln)) (L:List Ln),L∈xs.foldl grow F↔∃ K∈F,∃ J,Fit xs J/\L=K++J
 | [],F,L=>by
  simp [Fit]
 | x::xs,F,L=>by
  rw [List.foldl_cons,zis xs]
  constructor
  ·rintro ⟨K,hK,J,hJ,rfl⟩
   unfold grow at hK
   obtain ⟨G,hG,hK⟩:=List.mem_flatten.mp hK
   obtain ⟨m,hm,rfl⟩:=List.mem_map.mp hG
   obtain ⟨K0,hK0,rfl⟩:=List.mem_map.mp hK
   exact ⟨K0,hK0,_,⟨m,hm,J,hJ,rfl⟩,by rw [List.append_assoc]⟩
  ·rintro ⟨K,hK,_,⟨m,hm,J,hJ,rfl⟩,rfl⟩
   refine ⟨K++List.replicate m x.1,?_,J,hJ,by rw [List.append_assoc]⟩
   unfold grow
   exact List.mem_flatten.mpr ⟨_,List.mem_map.mpr ⟨m,hm,rfl⟩,List.mem_map.mpr ⟨K,hK,rfl⟩⟩
theorem zbE {L:List Ln}:L∈fnd xs↔Fit xs L:=by
 unfold fnd
 rw [zis]
 simp
theorem zbF:∀ {xs:List It} {L:List Ln},Fit xs L->∀ l∈L,∃ x∈xs,x.1=l
 | [],L,h,l,hl=>by rw [Fit] at h;rw [h] at hl;simp at hl
 | x::xs,_,⟨m,hm,K,hK,rfl⟩,l,hl=>by
  rcases List.mem_append.mp hl with hl | hl
  ·exact ⟨x,List.mem_cons_self,(List.eq_of_mem_replicate hl).symm⟩
  ·obtain ⟨y,hy,e⟩:=zbF hK l hl
   exact ⟨y,List.mem_cons_of_mem _ hy,e⟩
theorem zlF:∀ {xs:List It} {L:List Ln},Fit xs L->∀ x∈xs,x.2≠.any->x.1∈L
 | [],_,_,x,hx,_=>by simp at hx
 | y :: xs,_,⟨m,hm,K,hK,rfl⟩,x,hx,ne=>by
  rcases List.mem_cons.mp hx with rfl | hx
  ·refine List.mem_append_left _ ?_
   have:0<m:=by
    cases e:x.2 with
    | any=>exact absurd e ne
    | one=>rw [e] at hm;simp [cts] at hm;omega
    | some=>rw [e] at hm;simp [cts] at hm;omega
   rw [List.mem_replicate]
   exact ⟨by omega,rfl⟩
  ·exact List.mem_append_right _ (zlF hK x hx ne)
noncomputable abbrev kvOf (xs:List It):KV:=xs.map λp=>(cf 1 p.1,p.2)
theorem zqq (a b:List Cf) (c:Cf):cnt (a++b) c=cnt a c+cnt b c:=List.countP_append
theorem zmr (m:Nat) (d c:Cf):cnt (List.replicate m d) c=if d=c then m else 0:=by
 unfold cnt
 rw [List.countP_replicate]
 by_cases e:d=c<;>simp [e]
theorem zl9:∀ {xs:List It} {L:List Ln},Nk (kvOf xs)->Fit xs L->∀ x∈xs,cnt (cfs 1 L) (cf 1 x.1)∈cts x.2
 | [],_,_,_,x,hx=>by simp at hx
 | y :: xs,_,n,⟨m,hm,K,hK,rfl⟩,x,hx=>by
  have n':cf 1 y.1 ∉ (kvOf xs).map Prod.fst/\Nk (kvOf xs):=List.nodup_cons.mp n
  have e:cfs 1 (List.replicate m y.1++K)=List.replicate m (cf 1 y.1)++cfs 1 K:=by
   rw [cfs,List.map_append,List.map_replicate]
  rw [e,zqq,zmr]
  rcases List.mem_cons.mp hx with rfl | hx
  ·rw [if_pos rfl,ziC]
   ·exact hm
   ·intro h
    obtain ⟨l,hl,e⟩:=List.mem_map.mp h
    obtain ⟨z,hz,rfl⟩:=zbF hK l hl
    refine n'.1 (List.mem_map.mpr ⟨_,List.mem_map.mpr ⟨z,hz,rfl⟩,e⟩)
  ·rw [if_neg,Nat.zero_add]
   ·exact zl9 n'.2 hK x hx
   ·intro e
    exact n'.1 (List.mem_map.mpr ⟨_,List.mem_map.mpr ⟨x,hx,rfl⟩,e.symm⟩)
theorem cw_cts (e:cnt cs c=k) (h:k∈cts t):cw (if cnt cs c=0 then none else some (gc' cs c)) t=true:=by
 unfold gc'
 rw [e]
 have:k=0\/k=1\/k=2:=by have:=zl3 h;omega
 rcases this with rfl | rfl | rfl<;>cases t<;>simp [cts] at h<;>rfl
theorem zqo {L:List Ln} (n:Nk (kvOf xs)) (h:L∈fnd xs):wi (srt (tog (cfs 1 L))) (srt (kvOf xs))=true:=by
 have h:=zbE.mp h
 refine zrJ (λc hc=>?_) λq hq=>?_
 ·obtain ⟨l,hl,rfl⟩:=List.mem_map.mp hc
  obtain ⟨x,hx,rfl⟩:=zbF h l hl
  rw [ziZ n,zcb n (List.mem_map.mpr ⟨x,hx,rfl⟩)]
  rfl
 ·have hq:=(zaJ _).mem_iff.mp hq
  obtain ⟨x,hx,rfl⟩:=List.mem_map.mp hq
  exact cw_cts rfl (zl9 n h x hx)
theorem zoR {xs:List It} {L:List Ln} (h4:xs.length<=4) (h:L∈fnd xs):(tog (cfs 1 L)).length<=4:=by
 have h:=zbE.mp h
 have:=zfA (xs:=(tog (cfs 1 L)).map Prod.fst) (ys:=xs.map λx=>cf 1 x.1) (zeH _) λc hc=>by
  obtain ⟨p,hp,rfl⟩:=List.mem_map.mp hc
  obtain ⟨l,hl,e⟩:=List.mem_map.mp (zhr hp)
  rw [<-e]
  obtain ⟨x,hx,rfl⟩:=zbF h l hl
  exact List.mem_map.mpr ⟨x,hx,rfl⟩
 rw [List.length_map,List.length_map] at this
 omega
noncomputable def mx:Ct->Nat
 | .one=>1
 | _=>2
theorem zsK (t:Ct):mx t∈cts t:=by cases t<;>simp [mx,cts]
theorem zq9 (h:m∈cts t):m<=mx t:=by cases t<;>simp [cts] at h<;>simp [mx]<;>omega
noncomputable def tot (f:It->Bool):List It->Nat
 | []=>0
 | x::xs=>(if f x then mx x.2 else 0)+tot f xs
noncomputable def maxL:List It->List Ln
 | []=>[]
 | x::xs=>List.replicate (mx x.2) x.1++maxL xs
theorem ziY:∀ xs:List It,Fit xs (maxL xs)
 | []=>rfl
 | x::xs=>⟨mx x.2,zsK _,maxL xs,ziY xs,rfl⟩
theorem ziu:∀ xs:List It,(maxL xs).countP p=tot (λx=>p x.1) xs
 | []=>rfl
 | x::xs=>by
  rw [maxL,List.countP_append,List.countP_replicate,ziu xs,tot]
theorem zkX:∀ {xs:List It} {L:List Ln},Fit xs L->L.countP p<=tot (λx=>p x.1) xs
 | [],_,h=>by rw [Fit] at h;rw [h];simp
 | x::xs,_,⟨m,hm,K,hK,rfl⟩=>by
  rw [List.countP_append,List.countP_replicate,tot]
  have:=zkX (p:=p) hK
  have:=zq9 hm
  split<;>omega
theorem ziN:∀ {xs:List It},x∈xs->x.1∈maxL xs
 | [],h=>by simp at h
 | y::xs,h=>by
  rw [maxL]
  rcases List.mem_cons.mp h with rfl | h
  ·refine List.mem_append_left _ ?_
   rw [List.mem_replicate]
   exact ⟨by cases x.2<;>simp [mx],rfl⟩
  ·exact List.mem_append_right _ (ziN h)
noncomputable def nnB (r:Rt):Bool:=!nonB r
theorem zp5 (rg:List Nat->Rt) (L:List Ln):(L.length:Int)-(L.countP λl=>nonB (rg l.st):Nat)=(L.countP λl=>nnB (rg l.st):Nat):=by
 have:=List.length_eq_countP_add_countP (l:=L) λl=>nonB (rg l.st)
 have e:(L.countP λl=>nnB (rg l.st))=L.countP λa=>decide ¬nonB (rg a.st)=true:=by
  refine List.countP_congr λl _=>?_
  simp [nnB]
 rw [e]
 omega
theorem zjQ {L:List Ln}:clB rg L=true↔(∃ l∈L,wriB (rg l.st)=true)/\1<L.countP λl=>nnB (rg l.st):=by
 unfold clB
 rw [zp5,Bool.and_eq_true,List.any_eq_true,decide_eq_true_eq]
 constructor
 ·rintro ⟨a,b⟩;exact ⟨a,by omega⟩
 ·rintro ⟨a,b⟩;exact ⟨a,by omega⟩
theorem zkE {xs:List It}:((fnd xs).filter λL=>!L.isEmpty).any (clB rg)=true↔(∃ x∈xs,wriB (rg x.1.st)=true)/\1<tot (λx=>nnB (rg x.1.st)) xs:=by
 rw [List.any_eq_true]
 constructor
 ·rintro ⟨L,hL,c⟩
  have hF:=zbE.mp (List.mem_filter.mp hL).1
  obtain ⟨⟨l,hl,w⟩,c⟩:=zjQ.mp c
  obtain ⟨x,hx,rfl⟩:=zbF hF l hl
  exact ⟨⟨x,hx,w⟩,Nat.lt_of_lt_of_le c (zkX hF)⟩
 ·rintro ⟨⟨x,hx,w⟩,c⟩
  have hm:=ziN hx
  refine ⟨maxL xs,List.mem_filter.mpr ⟨zbE.mpr (ziY xs),?_⟩,zjQ.mpr ⟨⟨_,hm,w⟩,?_⟩⟩
  ·cases e:maxL xs with
   | nil=>rw [e] at hm;simp at hm
   | cons=>rfl
  ·rw [ziu (p:=λl=>nnB (rg l.st))];exact c
noncomputable def zgZ (t:Ct):Bool:=match t with
 | .one=>false
 | _=>true
theorem zot (rg:List Nat->Rt):∀ xs:List It,tot (λx=>nnB (rg x.1.st)) xs=((kvOf xs).countP λp=>nnB (rg p.1.st))+(kvOf xs).countP λp=>nnB (rg p.1.st)&&zgZ p.2
 | []=>rfl
 | x::xs=>by
  rw [tot,zot rg xs,show kvOf (x::xs)=(cf 1 x.1,x.2)::kvOf xs from rfl,List.countP_cons,List.countP_cons]
  show _=_+(if nnB (rg x.1.st)=true then 1 else 0)+(_+if (nnB (rg x.1.st)&&zgZ x.2)=true then 1 else 0)
  cases nnB (rg x.1.st)<;>cases x.2<;>simp [mx,zgZ]<;>omega
theorem zol:∀ m:KV,(wrs rg m).length+(rds' rg m).length=m.countP λp=>nnB (rg p.1.st)
 | []=>rfl
 | p::m=>by
  have:=zol (rg:=rg) m
  unfold wrs rds' at this ⊢
  rw [List.filterMap_cons,List.filterMap_cons,List.countP_cons,<-this]
  cases rg p.1.st<;>simp [wriB,reaB,nnB,nonB]<;>omega
theorem zlm:∀ m:KV,(wrs rg m).countP zgZ+(rds' rg m).countP zgZ=m.countP λp=>nnB (rg p.1.st)&&zgZ p.2
 | []=>rfl
 | p::m=>by
  have:=zlm (rg:=rg) m
  unfold wrs rds' at this ⊢
  rw [List.filterMap_cons,List.filterMap_cons,List.countP_cons,<-this]
  cases rg p.1.st<;>simp [wriB,reaB,nnB,nonB,List.countP_cons]<;>omega
theorem zrC:(∃ p∈m,wriB (rg p.1.st)=true)↔wrs rg m≠[]:=by
 unfold wrs
 constructor
 ·rintro ⟨p,hp,w⟩ e
  have:p.2∈m.filterMap λp=>if wriB (rg p.1.st) then some p.2 else none:=List.mem_filterMap.mpr ⟨p,hp,by rw [w];rfl⟩
  rw [e] at this
  simp at this
 ·intro h
  obtain ⟨t,ht⟩:=List.exists_mem_of_ne_nil _ h
  obtain ⟨p,hp,e⟩:=List.mem_filterMap.mp ht
  refine ⟨p,hp,?_⟩
  cases c:wriB (rg p.1.st) with
  | true=>rfl
  | false=>rw [c] at e;simp at e
theorem zo4:mcB rg m=true↔(∃ p∈m,wriB (rg p.1.st)=true)/\1<(m.countP λp=>nnB (rg p.1.st))+m.countP λp=>nnB (rg p.1.st)&&zgZ p.2:=by
 rw [zrC,<-zol,<-zlm]
 unfold mcB
 generalize wrs rg m=W
 generalize rds' rg m=V
 match W with
 | []=>simp
 | [a]=>
  cases V with
  | nil=>cases a<;>simp [zgZ]
  | cons=>simp;omega
 | a::b::r=>
  have:((a::b::r) != [Ct.one])=true:=by simp
  rw [this]
  simp
  omega
theorem znZ:mcB rg (srt (kvOf xs))=((fnd xs).filter λL=>!L.isEmpty).any (clB rg):=by
 rw [Bool.eq_iff_iff,zkE,zo4,(zaJ (kvOf xs)).countP_eq,(zaJ (kvOf xs)).countP_eq,<-zot]
 refine and_congr_left λ_=>?_
 constructor
 ·rintro ⟨p,hp,w⟩
  obtain ⟨x,hx,rfl⟩:=List.mem_map.mp ((zaJ _).mem_iff.mp hp)
  exact ⟨x,hx,w⟩
 ·rintro ⟨x,hx,w⟩
  exact ⟨_,(zaJ _).mem_iff.mpr (List.mem_map.mpr ⟨x,hx,rfl⟩),w⟩
end K43
namespace K43
open IT
variable {Q:R->Sto->Prop}
noncomputable def toH (l:Ln):H.Ln:=⟨l.st,valD l.v,l.to.map λp=>(p.1,valD p.2),l.back.map λp=>(p.1,valD p.2),l.fl⟩
theorem wayH (w:List Lt):(w.map λp=>((p.1,valD p.2):H.Lt)).map H.letD=w.map letD:=by rw [List.map_map];rfl
theorem lnH (w:l.want=0):H.lnD (toH l)=lnD l:=by
 unfold H.lnD toH lnD wayD
 rw [wayH,wayH,w]
theorem stH {L:List Ln} (w:∀ l∈L,l.want=0):H.stdD s (.tup [.int 1,.int 0]) (.tup [.int 1,.int 0]) (L.map toH)=stD s 1 0 1 0 L:=by
 unfold H.stdD
 rw [List.map_map]
 have:L.map (H.lnD∘toH)=L.map lnD:=List.map_congr_left λl hl=>lnH (w l hl)
 rw [this]
noncomputable def mvl (g:List Nat->Bool) (o:Bool) (l:Ln):Bool:=!l.to.isEmpty||(tkL o l.back).any λp=>g p.1
theorem zkA {α β:Type} {f:α->β} {o:Bool} {w:List α}:tkL o (w.map f)=(tkL o w).map f:=by
 cases o
 ·rfl
 ·exact List.map_take.symm
theorem zng {g:List Nat->Bool} {o:Bool} {l:Ln}:mv g o (cf 1 l)=mvl g o l:=by
 unfold mv mvl cf
 rw [zkA,List.any_map,List.isEmpty_map]
 rfl
noncomputable def stB (g:List Nat->Bool) (o:Bool) (L:List Ln):Bool:=(L.any λl=>!(l.to++l.back).isEmpty)&&L.all λl=>!mvl g o l
theorem znb {L:List Ln}:∀ {q:Int×H.Ln},q∈nums 0 (L.map toH)->∃ l∈L,q.2=toH l:=by
 intro q hq
 have:=(H.nums_mem hq).2.2
 rw [List.getElem?_map,Option.map_eq_some_iff] at this
 obtain ⟨l,hl,e⟩:=this
 exact ⟨l,List.mem_of_getElem? hl,e.symm⟩
theorem ziM {α:Type} {x:α}:∀ {xs:List α} {i:Int},x∈xs->∃ j,(j,x)∈nums i xs
 | [],_,h=>by simp at h
 | y::xs,i,h=>by
  rw [nums]
  rcases List.mem_cons.mp h with rfl | h
  ·exact ⟨i,List.mem_cons_self⟩
  ·obtain ⟨j,hj⟩:=ziM (i:=i+1) h
   exact ⟨j,List.mem_cons_of_mem _ hj⟩
theorem tkH {o:Bool} {w:List Lt}:H.tk o (w.map λp=>((p.1,valD p.2):H.Lt))=(tkL o w).map λp=>(p.1,valD p.2):=zkA
theorem zm8 {x:D}:H.isAsk (H.deedD H.ktake k x t)=false:=rfl
theorem zo1 {x:D}:H.isAsk (H.deedD H.kget k x t)=false:=rfl
theorem zkr {α:Type} {w:List α}:tkL o w=[]↔w=[]:=by
 cases o
 ·exact Iff.rfl
 ·cases w<;>simp [tkL]
theorem zlr {α:Type} {w:List α} (h:j<(tkL o w).length):w[j]?=(tkL o w)[j]?:=by
 cases o
 ·rfl
 ·have:j<1:=by
   have:(tkL true w).length<=1:=by simp [tkL];omega
   omega
  cases w with
  | nil=>simp [tkL]
  | cons x w=>
   have:j=0:=by omega
   subst this
   rfl
theorem zm3 {rows:List D} {g:List Nat->Bool} {L:List Ln}:(H.dues rows g o (L.map toH)).all H.isAsk=L.all λl=>!mvl g o l:=by
 rw [Bool.eq_iff_iff,List.all_eq_true,List.all_eq_true]
 constructor
 ·intro h l hl
  obtain ⟨j,hj⟩:=ziM (i:=0) (List.mem_map.mpr ⟨l,hl,rfl⟩:toH l∈L.map toH)
  have key:∀ c∈H.candL rows g o j (toH l),c.2=true->H.isAsk c.1=true:=by
   intro c hc h2
   refine h c.1 ?_
   unfold H.dues H.cands
   exact List.mem_map.mpr ⟨c,List.mem_filter.mpr ⟨List.mem_flatten.mpr ⟨_,List.mem_map.mpr ⟨_,hj,rfl⟩,hc⟩,h2⟩,rfl⟩
  unfold H.candL at key
  rw [Bool.not_eq_true']
  unfold mvl
  rw [Bool.or_eq_false_iff]
  constructor
  ·cases e:l.to with
   | nil=>rfl
   | cons p r=>
    have:=key (H.deedD H.ktake j (.int (0:Nat)) [],true) (List.mem_append_left _ (List.mem_append_right _ (List.mem_map.mpr ⟨0,?_,rfl⟩))) rfl
    ·rw [zm8] at this;cases this
    ·rw [List.mem_range]
     show 0<(H.tk o (l.to.map _)).length
     rw [tkH,List.length_map]
     refine List.length_pos_iff.mpr λe2=>?_
     rw [zkr.mp e2] at e
     cases e
  ·rw [List.any_eq_false]
   intro p hp hg
   obtain ⟨i,hi,e⟩:=List.getElem_of_mem hp
   have e1:l.back[i]?=some p:=by rw [zlr hi,List.getElem?_eq_getElem hi,e]
   have e2:(toH l).back[i]?=some (p.1,valD p.2):=by
    show (l.back.map _)[i]?=_
    rw [List.getElem?_map,e1];rfl
   have:=key (H.deedD H.kget j (.int (i:Nat)) [],match (toH l).back[i]? with | some lt=>g lt.1 | none=>true) (List.mem_append_right _ (List.mem_map.mpr ⟨i,?_,rfl⟩)) (by rw [e2];exact hg)
   ·rw [zo1] at this;cases this
   ·rw [List.mem_range]
    show i<(H.tk o (l.back.map _)).length
    rw [tkH,List.length_map]
    exact hi
 ·intro h d hd
  unfold H.dues H.cands at hd
  obtain ⟨c,hc,rfl⟩:=List.mem_map.mp hd
  obtain ⟨hc,c2⟩:=List.mem_filter.mp hc
  obtain ⟨cs,hcs,hc⟩:=List.mem_flatten.mp hc
  obtain ⟨q,hq,rfl⟩:=List.mem_map.mp hcs
  obtain ⟨l,hl,e⟩:=znb hq
  have hm:=h l hl
  rw [Bool.not_eq_true'] at hm
  unfold mvl at hm
  rw [Bool.or_eq_false_iff] at hm
  obtain ⟨h1,h2⟩:=hm
  have h1:l.to=[]:=by
   cases e:l.to with
   | nil=>rfl
   | cons=>rw [e] at h1;cases h1
  unfold H.candL at hc
  rw [e] at hc
  simp only [List.mem_append,List.mem_cons,List.not_mem_nil,or_false,List.mem_map,List.mem_range] at hc
  rcases hc with ((rfl | rfl | rfl) | ⟨j,hj,rfl⟩) | ⟨j,hj,rfl⟩
  ·rfl
  ·rfl
  ·rfl
  ·have hj:j<(H.tk o (l.to.map _)).length:=hj
   rw [tkH,h1,List.length_map,zkr.mpr rfl] at hj
   simp at hj
  ·have hj:j<(H.tk o (l.back.map _)).length:=hj
   rw [tkH,List.length_map] at hj
   have e1:l.back[j]?=some (tkL o l.back)[j]:=by rw [zlr hj,List.getElem?_eq_getElem hj]
   have e2:(toH l).back[j]?=some ((tkL o l.back)[j].1,valD (tkL o l.back)[j].2):=by
    show (l.back.map _)[j]?=_
    rw [List.getElem?_map,e1];rfl
   have c2:(match (toH l).back[j]? with | some lt=>g lt.1 | none=>true)=true:=c2
   rw [e2] at c2
   rw [List.any_eq_false] at h2
   exact absurd c2 (h2 _ (List.getElem_mem hj))
theorem zmO {g:List Nat->Bool} {L:List Ln}:H.stuckB (H.dues rows g o (L.map toH)) (L.map toH)=stB g o L:=by
 unfold H.stuckB stB H.moving
 rw [zm3,List.any_map]
 congr 2
 funext l
 show (!(l.to.map _++l.back.map _).isEmpty)=_
 rw [<-List.map_append,List.isEmpty_map]
theorem zhV:∀ {m:KV} {held:Bool},mbs f m held=true↔(∀ p∈m,f p.1=true->p.2=.any)/\(held=true\/∃ p∈m,f p.1=false/\p.1.back≠[])
 | [],held=>by simp [mbs]
 | p :: m,held=>by
  obtain ⟨c,t⟩:=p
  rw [mbs]
  cases e:f c with
  | true=>
   rw [if_pos rfl]
   cases t with
   | any=>
    dsimp only
    rw [zhV]
    simp [e]
   | one=>simp [e]
   | some=>simp [e]
  | false=>
   rw [if_neg (by simp),zhV]
   cases eb:c.back with
   | nil=>simp [e,eb]
   | cons=>simp [e,eb]
noncomputable def lowL (f:Ln->Bool) (xs:List It):List Ln:=(xs.filter λx=>!f x.1).map Prod.fst
theorem zid:∀ {xs:List It},(∀ x∈xs,f x.1=true->x.2=.any)->Fit xs (lowL f xs)
 | [],_=>rfl
 | x::xs,h=>by
  have ih:=zid (f:=f) (xs:=xs) λy hy=>h y (List.mem_cons_of_mem _ hy)
  unfold lowL at ih ⊢
  rw [List.filter_cons]
  cases e:f x.1 with
  | true=>
   refine ⟨0,?_,_,ih,rfl⟩
   rw [h x List.mem_cons_self e]
   simp [cts]
  | false=>
   refine ⟨1,?_,_,ih,rfl⟩
   cases x.2<;>simp [cts]
theorem znj {o:Bool}:mbs (mv g o) (srt (kvOf xs)) false=((fnd xs).filter λL=>!L.isEmpty).any (stB g o):=by
 rw [Bool.eq_iff_iff,zhV,List.any_eq_true]
 have mem:∀ p,p∈srt (kvOf xs)↔∃ x∈xs,(cf 1 x.1,x.2)=p:=λp=>by
  rw [(zaJ _).mem_iff,kvOf,List.mem_map]
 constructor
 ·rintro ⟨a,b⟩
  rcases b with b | ⟨p,hp,b1,b2⟩
  ·cases b
  obtain ⟨x,hx,rfl⟩:=(mem p).mp hp
  have b1:mvl g o x.1=false:=zng (l:=x.1)▸b1
  have b2:x.1.back≠[]:=λe=>b2 (by show x.1.back.map _=[];rw [e];rfl)
  have hm:x.1∈lowL (mvl g o) xs:=List.mem_map.mpr ⟨x,List.mem_filter.mpr ⟨hx,by rw [b1];rfl⟩,rfl⟩
  refine ⟨lowL (mvl g o) xs,List.mem_filter.mpr ⟨zbE.mpr (zid λy hy e=>a _ ((mem _).mpr ⟨y,hy,rfl⟩) (by rw [zng];exact e)),?_⟩,?_⟩
  ·cases e:lowL (mvl g o) xs with
   | nil=>rw [e] at hm;simp at hm
   | cons=>rfl
  ·unfold stB
   rw [Bool.and_eq_true,List.any_eq_true,List.all_eq_true]
   refine ⟨⟨x.1,hm,?_⟩,λl hl=>?_⟩
   ·cases e:x.1.back with
    | nil=>exact absurd e b2
    | cons=>simp
   ·obtain ⟨y,hy,rfl⟩:=List.mem_map.mp hl
    exact (List.mem_filter.mp hy).2
 ·rintro ⟨L,hL,c⟩
  have hF:=zbE.mp (List.mem_filter.mp hL).1
  unfold stB at c
  rw [Bool.and_eq_true,List.any_eq_true,List.all_eq_true] at c
  obtain ⟨⟨l,hl,c1⟩,c2⟩:=c
  constructor
  ·intro p hp f
   obtain ⟨x,hx,rfl⟩:=(mem p).mp hp
   by_cases e:x.2=.any
   ·exact e
   ·have:=c2 _ (zlF hF x hx e)
    rw [<-zng,f] at this
    cases this
  ·refine .inr ?_
   obtain ⟨x,hx,rfl⟩:=zbF hF l hl
   have m:=c2 _ hl
   rw [Bool.not_eq_true'] at m
   refine ⟨_,(mem _).mpr ⟨x,hx,rfl⟩,by rw [zng];exact m,λe=>?_⟩
   have eb:x.1.back=[]:=List.map_eq_nil_iff.mp e
   have et:x.1.to=[]:=by
    unfold mvl at m
    rw [Bool.or_eq_false_iff] at m
    cases e:x.1.to with
    | nil=>rfl
    | cons=>rw [e] at m;cases m.1
   rw [et,eb] at c1
   cases c1
theorem zsu {L:List Ln} (g:∀ x∈xs,Gd x.1) (h4:xs.length<=4) (h:L∈fnd xs):H.Lns (L.map toH):=by
 have hF:=zbE.mp h
 have G:∀ l∈L,Gd l:=λl hl=>by obtain ⟨x,hx,rfl⟩:=zbF hF l hl;exact g x hx
 have hl:=zhL xs L h
 refine ⟨λl hl=>?_,λl hl=>?_,λl hl=>?_,by rw [List.length_map];omega,λl hl p hp=>?_⟩
 ·obtain ⟨l,hl2,rfl⟩:=List.mem_map.mp hl;exact (G l hl2).fl
 ·obtain ⟨l,hl2,rfl⟩:=List.mem_map.mp hl
  show (l.to.map _).length<=2
  rw [List.length_map];exact (G l hl2).to
 ·obtain ⟨l,hl2,rfl⟩:=List.mem_map.mp hl
  show (l.back.map _).length<=2
  rw [List.length_map];exact (G l hl2).back
 ·obtain ⟨l,hl2,rfl⟩:=List.mem_map.mp hl
  have hp:p∈l.back.map λp=>((p.1,valD p.2):H.Lt):=hp
  obtain ⟨q,hq,rfl⟩:=List.mem_map.mp hp
  exact (G l hl2).kd q hq
end K43
namespace K43
open IT
variable {Q:R->Sto->Prop}
theorem zow {α:Type} {f:α->Bool} {l:List α}:biD .any [.lst (l.map λx=>D.bl (f x))]=some (.bl (l.any f)):=by
 have:∀ l:List α,zau (l.map λx=>D.bl (f x))=some (l.map f):=by
  intro l
  induction l with
  | nil=>rfl
  | cons x r ih=>simp only [List.map_cons,zau,tru,ih]
 show (match zau (l.map λx=>D.bl (f x)) with | some bs=>some (D.bl (bs.any id)) | none=>none)=_
 rw [this]
 simp [List.any_map]
noncomputable abbrev ln0:Ln:=⟨[105,97],none,0,[],[],0⟩
noncomputable abbrev cf0:Cf:=⟨[105,97],zrO,[],[],0⟩
theorem zjf (n:Nat) (hm:m<=10) (k:Q (.d (stD s0 0 0 0 0 (List.replicate m ln0))) h):Ok (zah P (n+1) 6 [.d (.tup [.tup (haD ([105,97],r)::rs),.tup (.str s0::t),.tup rows]),.d (.int m)] h) Q:=by
 refine cl rfl rfl rfl ?_
 refine st zbi ?_
 refine st zbi ?_
 refine st (zky (by omega) (by omega)) ?_
 rw [Int.toNat_natCast]
 refine f0 ?_
 have e:(List.replicate m ln0).map lnD=List.replicate m (lnD ln0):=List.map_replicate
 rw [stD,e] at k
 exact k
theorem zhA (n:Nat) (k:Q (.d (shp s0 klast [(cf0,.some)])) h):Ok (zah P (n+1) 14 [.d (.tup [.tup (haD ([105,97],r)::rs),.tup (.str s0::t),.tup rows])] h) Q:=by
 refine cl rfl rfl rfl ?_
 refine st zbi ?_
 refine st zbi ?_
 exact f0 k
theorem zlV (m:Nat):cfs 0 (List.replicate m ln0)=List.replicate m cf0:=by rw [cfs,List.map_replicate];rfl
theorem zjE (h:0<m):wi (srt (tog (cfs 0 (List.replicate m ln0)))) [(cf0,.some)]=true:=by
 rw [zlV]
 refine zrJ (λc hc=>?_) λq hq=>?_
 ·rw [List.eq_of_mem_replicate hc];rfl
 ·rw [List.mem_singleton] at hq
  subst hq
  show cw (if cnt (List.replicate m cf0) cf0=0 then none else some (gc' (List.replicate m cf0) cf0)) .some=true
  unfold gc'
  rw [zmr,if_pos rfl,if_neg (by omega)]
  by_cases e:m=1
  ·rw [if_pos e];rfl
  ·rw [if_neg e];rfl
theorem zl5 (m:Nat):(tog (cfs 0 (List.replicate m ln0))).length<=4:=by
 rw [zlV]
 have:=zfA (xs:=(tog (List.replicate m cf0)).map Prod.fst) (ys:=[cf0]) (zeH _) λc hc=>by
  obtain ⟨p,hp,rfl⟩:=List.mem_map.mp hc
  rw [List.eq_of_mem_replicate (zhr hp)];simp
 simp at this
 omega
theorem zkZ (a b:List Nat):hd a b a b=true:=by simp [hd]
mutual
theorem zoE:∀ x y:D,D.hk x=true->D.hk y=true->x.eqb y=x.same y
 | .int a,.int b,_,_=>by rw [D.eqb,D.same]
 | .int a,.str b,_,_=>by simp [D.eqb,D.same]
 | .int a,.tup b,_,_=>by simp [D.eqb,D.same]
 | .str a,.int b,_,_=>by simp [D.eqb,D.same]
 | .str a,.str b,_,_=>by rw [D.eqb,D.same]
 | .str a,.tup b,_,_=>by simp [D.eqb,D.same]
 | .tup a,.int b,_,_=>by simp [D.eqb,D.same]
 | .tup a,.str b,_,_=>by simp [D.eqb,D.same]
 | .tup a,.tup b,h1,h2=>by rw [D.eqb,D.same];exact eqbs_hk a b h1 h2
 | .non,_,h,_=>by simp [D.hk] at h
 | .bl _,_,h,_=>by simp [D.hk] at h
 | .lst _,_,h,_=>by simp [D.hk] at h
 | .int _,.non,_,h=>by simp [D.hk] at h
 | .int _,.bl _,_,h=>by simp [D.hk] at h
 | .int _,.lst _,_,h=>by simp [D.hk] at h
 | .str _,.non,_,h=>by simp [D.hk] at h
 | .str _,.bl _,_,h=>by simp [D.hk] at h
 | .str _,.lst _,_,h=>by simp [D.hk] at h
 | .tup _,.non,_,h=>by simp [D.hk] at h
 | .tup _,.bl _,_,h=>by simp [D.hk] at h
 | .tup _,.lst _,_,h=>by simp [D.hk] at h
theorem eqbs_hk:∀ x y:List D,D.hks x=true->D.hks y=true->D.eqbs x y=D.sames x y
 | [],[],_,_=>by rw [D.eqbs,D.sames]
 | [],_::_,_,_=>by simp [D.eqbs,D.sames]
 | _::_,[],_,_=>by simp [D.eqbs,D.sames]
 | a::r,b::t,h1,h2=>by
  rw [D.hks,Bool.and_eq_true] at h1 h2
  rw [D.eqbs,D.sames,zoE a b h1.1 h2.1,eqbs_hk r t h1.2 h2.2]
end
theorem zsp (c:Cf):D.hk (cfD c)=true:=by
 have h:=zbw c
 unfold zaF cfD at h
 rw [Bool.and_eq_true] at h
 exact h.1
theorem zr7 (a b:Cf):(cfD a).eqb (cfD b)=decide (a=b):=by rw [zoE _ _ (zsp a) (zsp b),zhW]
end K43
namespace K43
open IT
variable {Q:R->Sto->Prop}
theorem zfM:(h++(x::y::z::t))[h.length+2]?=some z:=by
 rw [List.getElem?_append_right (by omega),Nat.add_sub_cancel_left];rfl
theorem zn1:(h++(x::y::z::t)).set (h.length+2) w=h++(x::y::w::t):=by
 rw [List.set_append_right _ _ (by omega),Nat.add_sub_cancel_left];rfl
theorem zqP (c:Cf) (cs:List Cf):cop .notin (cfD c) (.lst (cs.map cfD))=some (.bl (!decide (c∈cs))):=by
 show (if decide ((cfD c).dep<=60)=true then some (D.bl (!((cs.map cfD).any λy=>y.eqb (cfD c)))) else none)=_
 rw [if_pos (decide_eq_true (by have:=zov c;omega)),List.any_map]
 congr 3
 rw [Bool.eq_iff_iff,List.any_eq_true,decide_eq_true_eq]
 constructor
 ·rintro ⟨d,hd,e⟩
  have e:(cfD d).eqb (cfD c)=true:=e
  rw [zr7,decide_eq_true_eq] at e
  rw [<-e];exact hd
 ·intro h
  exact ⟨c,h,D.eqb_refl _⟩
theorem zjI (n:Nat) {L:List Ln} {o:Bool} (T:H.Tab s rows g) (N:H.Lns (L.map toH)) (w:∀ l∈L,l.want=0) (k:Q (.d (.bl (stB g o L))) h) :
  Ok (zah P (n+6) 29 [.d (.tup [x,y,.tup rows]),.d (stD s 1 0 1 0 L),.d (.bl o)] h) Q:=by
 rw [<-stH w]
 refine H.stuck_core n T N rfl ?_
 rw [zmO]
 exact k
structure Sts (xs:List Ln):Prop where
 gd:∀ l∈xs,Gd l
 nd:(xs.map (cf 1)).Nodup
theorem Sts.add (S:Sts xs) (g:Gd l) (n:cf 1 l ∉ xs.map (cf 1)):Sts (xs++[l]) where
 gd:=by
  intro k hk
  rcases List.mem_append.mp hk with hk | hk
  ·exact S.gd k hk
  ·simp at hk;subst hk;exact g
 nd:=by
  rw [List.map_append,List.nodup_append]
  refine ⟨S.nd,by simp,λa ha b hb e=>?_⟩
  simp at hb
  subst hb e
  exact n ha
theorem zq4 (S:Sts (its.map Prod.fst)):Nk (kvOf its):=by
 have:=S.nd
 rw [List.map_map] at this
 show ((kvOf its).map Prod.fst).Nodup
 rw [List.map_map]
 exact this
theorem zpm (S:Sts (its.map Prod.fst)):∀ p∈its,look (cf 1 p.1) (kvOf its)=some p.2:=λp hp=>zcb (zq4 S) (List.mem_map.mpr ⟨p,hp,rfl⟩)
theorem zqV {L:List Ln} (S:Sts (its.map Prod.fst)) (h:L∈fnd its):∀ l∈L,Gd l:=λl hl=>by
 obtain ⟨x,hx,rfl⟩:=zbF (zbE.mp h) l hl
 exact S.gd _ (List.mem_map.mpr ⟨x,hx,rfl⟩)
theorem zpx (S:Sts (its.map Prod.fst)):∀ p∈srt (kvOf its),kdB p.1.back:=by
 intro p hp
 obtain ⟨x,hx,rfl⟩:=List.mem_map.mp ((zaJ _).mem_iff.mp hp)
 intro q hq
 have hq:q∈x.1.back.map (ml 1):=hq
 obtain ⟨l,hl,rfl⟩:=List.mem_map.mp hq
 exact (S.gd _ (List.mem_map.mpr ⟨x,hx,rfl⟩)).kd l hl
theorem zkR {r0 r1 r2:Rt} {its:List It} {qs:List Int} {v4 v5 v7 v8:Option R} {h:Sto} (hs:s=ha\/s=hb) (S:Sts (its.map Prod.fst)) (h4:its.length<=4)
  (k:kF h false false Q (.ret (.d (.bl true)),[some (R.d sc),some (R.d (tabD [r0,r1,r2] s0 t [o0,o1,o2,o3]))]) (B++pl qs::.lst ((its.map Prod.fst).map soD)::[.dic (kvD (kvOf its))])) :
  wSs (zah P 13) (zqb.drop 7) [some (R.d sc),some (R.d (tabD [r0,r1,r2] s0 t [o0,o1,o2,o3])),some (R.loc B.length),some (R.loc (B.length+1)),v4,v5,some (R.loc (B.length+2)),v7,v8,some (R.d (.str s)),none,none,none,none,none,none,none,none,none,none,none] (B++pl qs::.lst ((its.map Prod.fst).map soD)::[.dic (kvD (kvOf its))]) (kF h false false Q):=by
 have nk:=zq4 S
 have T:=zsN (o0:=o0) (o1:=o1) (o2:=o2) (o3:=o3) hs
 have l4:(kvOf its).length<=4:=by rw [List.length_map];exact h4
 have gs:(B++pl qs::.lst ((its.map Prod.fst).map soD)::[.dic (kvD (kvOf its))])[B.length+1]?=some (.lst (its.map λp=>soD p.1)):=by rw [zax,List.map_map];rfl
 refine st zfM ?_
 refine st (zme nk l4) ?_
 refine ask (zhU 12 gs zfM (zpm S) h4 ?_)
 generalize hF:(fnd its).filter (λL=>!L.isEmpty)=SS
 have mem:∀ L∈SS,L∈fnd its:=λL hL=>by rw [<-hF] at hL;exact (List.mem_filter.mp hL).1
 have len:∀ L∈SS,L.length<=10:=λL hL=>Nat.le_trans (zhL its L (mem L hL)) (by omega)
 generalize hB:(B++pl qs::.lst ((its.map Prod.fst).map soD)::[.dic (kvD (kvOf its))])=B2 at k gs ⊢
 refine ask (zay (dD:=λL=>stD s 1 0 1 0 L) (g:=λL=>D.bl ((λ_=>true) L)) (λL hL=>?_) zai ?_)
 ·refine gc ?_
  refine ask (zgV 6 (len L hL) (zoR h4 (mem L hL)) (zj7 nk) (by rw [zj5];omega) ?_)
  rw [show zfd 1 (some (1,0))=klast from rfl,zkZ,zqo nk (mem L hL)]
  exact ⟨rfl,rfl⟩
 refine st ziO ?_
 rw [show (SS.all λ_=>true)=true by simp]
 refine ask (ze8 11 ?_)
 refine ask (zay (dD:=λL=>stD s 1 0 1 0 L) (g:=λL=>D.bl (clB (rgt (sts.zip [r0,r1,r2])) L)) (λL hL=>?_) zai ?_)
 ·refine gc ?_
  refine ask (zjg 11 ?_)
  exact ⟨rfl,rfl⟩
 refine st zow ?_
 refine ask (zeR 12 ?_)
 rw [znZ,hF,beq_self_eq_true]
 ac_rfl
 have e2:[D.bl true,D.bl false]=[true,false].map .bl:=rfl
 rw [e2,List.map_map]
 refine ask (zaK (g:=dI∘D.bl) (xs:=[true,false]) (λi σ h'=>h'=B2/\∃ v12 v13,σ=[some (R.d sc),some (R.d (tabD [r0,r1,r2] s0 t [o0,o1,o2,o3])),some (R.loc B.length),some (R.loc (B.length+1)),v4,v5,some (R.loc (B.length+2)),v7,v8,some (R.d (.str s)),some (R.d (shp s klast (srt (kvOf its)))),some (R.d (.lst (SS.map λL=>stD s 1 0 1 0 L))),v12,v13,none,none,none,none,none,none,none]) ?_ ?_ ⟨rfl,none,none,rfl⟩)
 ·rintro i o σ h' hx ⟨rfl,v12,v13,rfl⟩
  refine gb ?_
  refine ask (zay (dD:=λL=>stD s 1 0 1 0 L) (g:=λL=>D.bl (stB (λm=>!isW (zjL o0 o1 o2 o3 s m)) o L)) (λL hL=>?_) zai ?_)
  ·refine gc ?_
   refine ask (zjI 7 T (zsu (λx hx=>S.gd _ (List.mem_map.mpr ⟨x,hx,rfl⟩)) h4 (mem L hL)) (λl hl=>(zqV S (mem L hL) l hl).want) ?_)
   exact ⟨rfl,rfl⟩
  refine st zow ?_
  refine ask (zck 8 T (zpx S) rfl ?_)
  refine ask (zeR 12 ?_)
  rw [znj,hF,beq_self_eq_true]
  exact ⟨rfl,rfl,_,_,rfl⟩
 rintro σ h' ⟨rfl,v12,v13,rfl⟩
 refine ask (zck 8 T (zpx S) rfl ?_)
 refine ask (zck 8 T (zpx S) rfl ?_)
 refine bf (by rw [D.eqb_refl];rfl) ?_
 refine ask (zhA 12 ?_)
 refine st zbi ?_
 refine bf (show (!(shp s0 klast [(cf0,Ct.some)]).eqb (shp s0 klast [(cf0,Ct.some)]))=false by rw [D.eqb_refl];rfl) ?_
 refine ok_some'.mpr ?_
 refine ask (zn6 (λi ys h2=>h2=h'/\ys=List.replicate i (.bl true)) ?_ ?_ ⟨rfl,rfl⟩)
 ·rintro i x ys h' hx ⟨rfl,rfl⟩
  obtain ⟨hi,rfl⟩:=zf6 _ _ _ _ hx
  have e:(1+(i:Int))=((i+1:Nat):Int):=by omega
  rw [e]
  refine gc ?_
  refine ask (zjf 12 (by omega) ?_)
  refine ask (zgV 6 (by rw [List.length_replicate];omega) (zl5 _) (by decide) (by decide) ?_)
  rw [show zfd 0 (some (0,0))=klast from rfl,zkZ,zjE (by omega)]
  exact ⟨rfl,rfl,(List.replicate_succ' ..).symm▸rfl⟩
 ·rintro ys h' ⟨rfl,rfl⟩
  rw [zcs]
  exact k
end K43
namespace K43
open IT
variable {Q:R->Sto->Prop}
noncomputable abbrev lE (sc tb:D) (n:Nat) (v4 v5 v6 v7 v8:Option R):Env:=[some (R.d sc),some (R.d tb),some (R.loc n),some (R.loc (n+1)),v4,v5,v6,v7,v8,none,none,none,none,none,none,none,none,none,none,none,none]
inductive L1 (B:Sto) (sc tb:D) (i:Nat) (σ:Env) (h':Sto):Prop
 | mk (xs:List Ln) (qs:List Int) (v4 v5:Option R) (hl:xs.length<=i) (S:Sts xs) (e:h'=B++pl qs::[.lst (xs.map soD)]) (e2:σ=lE sc tb B.length v4 v5 none none none)
inductive L2' (B:Sto) (sc tb:D) (v4 v5:Option R) (xs:List Ln) (i:Nat) (σ:Env) (h':Sto):Prop
 | mk (its:List It) (qs:List Int) (v7 v8:Option R) (hm:its.map Prod.fst=xs.take i) (e:h'=B++pl qs::.lst (xs.map soD)::[.dic (kvD (kvOf its))]) (e2:σ=lE sc tb B.length v4 v5 (some (R.loc (B.length+2))) v7 v8)
theorem law_call {h:Sto} {ns:List Int}:Ok (zah P 14 38 [.d (.lst (ns.map .int))] h) λr h1=>r=.d (.bl true)/\h1=h:=by
 refine cl rfl rfl rfl ?_
 refine ask (zgH 11 0 λps=>?_)
 refine ask (zjc 11 λrs s0 t os qs hr ho=>?_)
 obtain ⟨r0,r1,r2,rfl⟩:∃ a b c,rs=[a,b,c]:=by
  match rs,hr with
  | [a,b,c],_=>exact ⟨a,b,c,rfl⟩
 obtain ⟨o0,o1,o2,o3,rfl⟩:∃ a b c d,os=[a,b,c,d]:=by
  match os,ho with
  | [a,b,c,d],_=>exact ⟨a,b,c,d,rfl⟩
 refine ask (zgH 11 1 λps=>?_)
 have fin:∀ u,Ok (IT.fin h false false (.d (.bl true)) (h++[pl qs]++u)) λr h1=>r=.d (.bl true)/\h1=h:=λu=>by
  rw [List.append_assoc]
  exact fa ⟨rfl,rfl⟩
 generalize h++[pl qs]=B at fin ⊢
 ac_rfl
 rw [len1,app1]
 refine ask (zav 12 (by decide) λd qs d0 d1=>?_)
 refine ⟨⟨by omega,by omega⟩,ask (zfT (L1 B (.lst (ns.map .int)) (tabD [r0,r1,r2] s0 t [o0,o1,o2,o3])) ?_ ?_ ⟨[],qs,none,none,by simp,⟨by simp,by simp⟩,rfl,rfl⟩)⟩
 ·rintro i x σ h' hx ⟨xs,qs,v4,v5,hl,S,rfl,rfl⟩
  have hi:=(zf6 _ _ _ _ hx).1
  have hb:(xs.map soD).length<big:=by unfold big;rw [List.length_map];omega
  refine gb ?_
  refine ask (zmq 10 λl qs g=>?_)
  refine st zax ?_
  refine ask (zay (dD:=soD) (g:=λl=>cfD (cf 1 l)) (λl _=>?_) (zdc zax) ?_)
  ·refine gc ?_
   exact ⟨rfl,rfl⟩
  rw [show (xs.map λl=>cfD (cf 1 l))=(xs.map (cf 1)).map cfD by rw [List.map_map];rfl]
  have e:=zqP (cf 1 l) (xs.map (cf 1))
  by_cases c:cf 1 l∈xs.map (cf 1)
  ·rw [decide_eq_true c] at e
   refine st e ?_
   exact ⟨rfl,xs,qs,_,_,by omega,S,rfl,rfl⟩
  ·rw [decide_eq_false c] at e
   refine st e ?_
   refine st zax ?_
   refine st zax ⟨hb,?_⟩
   rw [zcD]
   exact ⟨rfl,xs++[l],qs,_,_,by simp;omega,S.add g c,by rw [List.map_append];rfl,rfl⟩
 rintro σ h' ⟨xs,qs,v4,v5,hl,S,rfl,rfl⟩
 rw [zcs] at hl
 have x4:xs.length<=4:=by omega
 ac_rfl
 rw [show (B++[pl qs,Ob.lst (xs.map soD)]).length=B.length+2 by simp,show B++[pl qs,Ob.lst (xs.map soD)]++[Ob.dic []]=B++pl qs::.lst (xs.map soD)::[.dic []] by simp]
 refine st zax ?_
 ac_rfl
 rw [List.map_map]
 refine ask (zaK (g:=dI∘soD) (xs:=xs) (L2' B (.lst (ns.map .int)) (tabD [r0,r1,r2] s0 t [o0,o1,o2,o3]) v4 v5 xs) ?_ ?_ ⟨[],qs,none,none,rfl,rfl,rfl⟩)
 ·rintro i l σ h' hx ⟨its,qs,v7,v8,hm,rfl,rfl⟩
  have hi:i<xs.length:=(List.getElem?_eq_some_iff.mp hx).1
  have hi2:its.length=i:=by
   have:=congrArg List.length hm
   rw [List.length_map,List.length_take] at this
   omega
  have hb:(kvD (kvOf its)).length<big:=by unfold big kvD;rw [List.length_map,List.length_map];omega
  have new:cf 1 l ∉ (kvOf its).map Prod.fst:=by
   rw [List.map_map]
   have e:its.map (Prod.fst∘λp:It=>(cf 1 p.1,p.2))=(xs.take i).map (cf 1):=by rw [<-hm,List.map_map];rfl
   rw [e]
   have nd:=S.nd
   have es:xs.take (i+1)=xs.take i++[l]:=zbg hx
   have n2:((xs.take (i+1)).map (cf 1)).Nodup:=by rw [List.map_take];exact nd.sublist (List.take_sublist _ _)
   rw [es,List.map_append,List.nodup_append] at n2
   intro q
   exact n2.2.2 _ q _ (by simp) rfl
  refine gb ?_
  refine ask (zav 12 (by decide) λe qs e0 e1=>?_)
  obtain ⟨_,ei,c,rfl⟩:=idx3 (x:=.str kone) (y:=.str zkw) (z:=.str kany) e0 e1 (λd=>∃ t,d=.str (ctS t)) ⟨.one,rfl⟩ ⟨.some,rfl⟩ ⟨.any,rfl⟩
  refine st ei ?_
  refine bt (zbw _) ?_
  refine st zfM ⟨hb,?_⟩
  rw [zn1,zcY,zfe new]
  refine ⟨?_,its++[(l,c)],qs,_,_,?_,?_,rfl⟩
  ·simp only [zaz,zax,Ob.same]
   exact D.sames_refl _
  ·rw [List.map_append,hm,zbg hx];rfl
  ·rw [kvOf,kvOf,List.map_append];rfl
 rintro σ h' ⟨its,qs,v7,v8,hm,rfl,rfl⟩
 rw [List.take_length] at hm
 subst hm
 refine ask (zav 12 (by decide) λe qs e0 e1=>?_)
 obtain ⟨_,ei,s,rfl,hs⟩:=idx2 (x:=.str ha) (y:=.str hb) e0 e1 (λd=>∃ s,d=.str s/\(s=ha\/s=hb)) ⟨_,rfl,.inl rfl⟩ ⟨_,rfl,.inr rfl⟩
 refine st ei ?_
 exact zkR hs S (by simpa using x4) (fin _)
theorem znf {ns:List Int} (hl:ns.length<=63):zah P 14 38 [.d (.lst (ns.map .int))] []=some (.d (.bl true),[]):=law_call.eq
end K43
namespace K43
open PySem PySem.Spec L2 IT
noncomputable def fns:List (Str×Nat×List D) :=  ("_wall",1,[])::("right_of",2,[])::("hand_row",3,[])::("house_row",4,[])::("row_for",2,[])::("is_wait",1,[])::("start",2,[])::("clash",2,[])::("has_version_of",2,[])::("comers",2,[])::("mark_of",2,[])::("letter_mark",2,[])::("config_of",2,[])::("marked_way",2,[])::("start_shape",1,[])::("shape_of",1,[])::("together",1,[])::("lies_in",2,[])::("is_within",2,[])::("may_clash",2,[])::("may_be_stuck",3,[(.bl true)])::("may_move",4,[])::("waits",3,[])::("may_be_done",3,[])::("way_of",2,[])::("row_for_deed",3,[])::("may",3,[(.bl true)])::("asks_of",1,[])::("letters_of",4,[])::("stuck",3,[(.bl true)])::("_law_mixed",2,[])::("_law_pool",2,[])::("_law_take",2,[])::("_law_table",1,[])::("_law_way",1,[])::("_law_sort",1,[])::("_law_standings",3,[])::("_law_truth",2,[])::("law",1,[])::[]
noncomputable def cls:List zlE:=[⟨"OpenLine",39,["state", "value", "want", "to", "back", "flags"],[]⟩,⟨"Hall",40,["state", "store", "last", "lines", "answer", "broken"],[("hands_with",41),("other_sharers",42)]⟩]
noncomputable def globs:List (Str×D):=[("ASKS",(.tup [(.str [114,101,97,100]),(.str [119,114,105,116,101]),(.str [100,114,111,112])])),("FIRST_VALUE",(.tup [(.int 0),(.int 0)])),("SHARES",(.int 1)),("WAITS",(.tup [(.tup [(.str [119,97,105,116])])]))]
noncomputable def gds:List (Str×List (List Nat×D)):=[("COUNTS_WITHIN",[([111,110,101],(.tup [(.str [111,110,101])])),([115,111,109,101],(.tup [(.str [111,110,101]),(.str [115,111,109,101])])),([97,110,121],(.tup [(.str [111,110,101]),(.str [115,111,109,101]),(.str [97,110,121]),.non]))])]
noncomputable def bd (n:Nat):Stmt:=PySem.Challenge.pw_copyclerk_k43_may_clash_or_be_stuck.main.body.getD n (.Pass ⟨0,0,0,0⟩)
noncomputable abbrev Cd (b:List S) (n p:List Str) (s:Stmt):Prop:=n.Nodup/\(∀ x∈p,(zad s).names.lookup x=some .local\/(zad s).names.lookup x=some .cell)/\(∀ y∈(zad s).names,y.2≠.free)/\chkSs b ⟨n,(zad s).names,fns,globs,true,cls,gds⟩ (zas s)=true
theorem Cd.sc {b:List S} {n p:List Str} {s:Stmt} (c:Cd b n p s) (h1:(zad s).kind=.function) (h2:(zad s).isCoroutine=false) (h3:(zad s).isGenerator=false) (h4:n.take p.length=p):zed n p (zad s):=⟨h1,h2,h3,c.1,h4,c.2.1,c.2.2.1⟩
noncomputable def zom:Stmt:=bd 0
noncomputable def zrA:List Str:=["k"]
noncomputable def zjX:List Str:=["k"]
theorem zrL:Cd zoj zrA zjX zom:=by decide +kernel
noncomputable def zeM:Stmt:=bd 4
noncomputable def zjv:List Str:=["table", "state", "name", "right"]
noncomputable def zcW:List Str:=["table", "state"]
theorem zjt:Cd zes zjv zcW zeM:=by decide +kernel
noncomputable def zeC:Stmt:=bd 5
noncomputable def zjd:List Str:=["table", "state", "event"]
noncomputable def zc1:List Str:=["table", "state", "event"]
theorem zjN:Cd zew zjd zc1 zeC:=by decide +kernel
noncomputable def zd6:Stmt:=bd 6
noncomputable def zhl:List Str:=["table", "state", "kind", "last", "row"]
noncomputable def zcf:List Str:=["table", "state", "kind", "last"]
theorem zhC:Cd zdO zhl zcf zd6:=by decide +kernel
noncomputable def zgj:Stmt:=bd 7
noncomputable def zly:List Str:=["table", "head", "row"]
noncomputable def zdR:List Str:=["table", "head"]
theorem zks:Cd zfW zly zdR zgj:=by decide +kernel
noncomputable def zfX:Stmt:=bd 8
noncomputable def zkH:List Str:=["row"]
noncomputable def zdU:List Str:=["row"]
theorem zlA:Cd zgK zkH zdU zfX:=by decide +kernel
noncomputable def zlD:Stmt:=bd 11
noncomputable def zpg:List Str:=["table", "many", "line"]
noncomputable def zhF:List Str:=["table", "many"]
theorem zo8:Cd zjR zpg zhF zlD:=by decide +kernel
noncomputable def zlR:Stmt:=bd 12
noncomputable def zpK:List Str:=["table", "standing", "rights", "?1?line"]
noncomputable def zhj:List Str:=["table", "standing"]
theorem zqH:Cd zkt zpK zhj zlR:=by decide +kernel
noncomputable def zbs:Stmt:=bd 13
noncomputable def zdp:List Str:=["value", "last"]
noncomputable def zaT:List Str:=["value", "last"]
theorem zdq:Cd zbv zdp zaT zbs:=by decide +kernel
noncomputable def zim:Stmt:=bd 18
noncomputable def znl:List Str:=["way", "order"]
noncomputable def zfg:List Str:=["way", "order"]
theorem znq:Cd zih znl zfg zim:=by decide +kernel
noncomputable def zg3:Stmt:=bd 21
noncomputable def zki:List Str:=["value", "last"]
noncomputable def zdN:List Str:=["value", "last"]
theorem zlw:Cd zgb zki zdN zg3:=by decide +kernel
noncomputable def zcy:Stmt:=bd 22
noncomputable def ze5:List Str:=["value", "last"]
noncomputable def zbq:List Str:=["value", "last"]
theorem zfv:Cd zcO ze5 zbq zcy:=by decide +kernel
noncomputable def zdy:Stmt:=bd 23
noncomputable def zhw:List Str:=["line", "last"]
noncomputable def zcj:List Str:=["line", "last"]
theorem zhe:Cd zdz zhw zcj zdy:=by decide +kernel
noncomputable def zdl:Stmt:=bd 24
noncomputable def zhc:List Str:=["way", "last", "?1?kind", "?1?value"]
noncomputable def zbB:List Str:=["way", "last"]
theorem zf0:Cd zdn zhc zbB zdl:=by decide +kernel
noncomputable def zcx:Stmt:=bd 25
noncomputable def zfQ:List Str:=["table", "config"]
noncomputable def zbr:List Str:=["table"]
theorem zfS:Cd zcm zfQ zbr zcx:=by decide +kernel
noncomputable def zeO:Stmt:=bd 26
noncomputable def zi3:List Str:=["standing", "last", "pairs", "?1?line"]
noncomputable def zcU:List Str:=["standing"]
theorem zi6:Cd zeP zi3 zcU zeO:=by decide +kernel
noncomputable def zer:Stmt:=bd 27
noncomputable def zjM:List Str:=["pairs", "counts", "config", "count"]
noncomputable def zdd:List Str:=["pairs"]
theorem zjm:Cd zeu zjM zdd zer:=by decide +kernel
noncomputable def zgY:Stmt:=bd 28
noncomputable def zjU:List Str:=["standing", "shape"]
noncomputable def zdV:List Str:=["standing", "shape"]
theorem zml:Cd zgA zjU zdV zgY:=by decide +kernel
noncomputable def zd0:Stmt:=bd 29
noncomputable def zhS:List Str:=["shape", "other", "here", "there", "?1?config", "?2?config", "?2?count"]
noncomputable def zcl:List Str:=["shape", "other"]
theorem zhk:Cd zd5 zhS zcl zd0:=by decide +kernel
noncomputable def zdC:Stmt:=bd 30
noncomputable def zhp:List Str:=["table", "shape", "writers", "readers", "?1?config", "?1?count", "?2?config", "?2?count"]
noncomputable def zch:List Str:=["table", "shape"]
theorem zhZ:Cd zd7 zhp zch zdC:=by decide +kernel
noncomputable def zae:Stmt:=bd 31
noncomputable def zbZ:List Str:=["table", "shape", "order", "held", "config", "count"]
noncomputable def zaw:List Str:=["table", "shape", "order"]
theorem zbW:Cd zb0 zbZ zaw zae:=by decide +kernel
noncomputable def zeG:Stmt:=bd 32
noncomputable def zjz:List Str:=["table", "state", "config", "order", "?1?letter"]
noncomputable def zc5:List Str:=["table", "state", "config", "order"]
theorem zja:Cd zex zjz zc5 zeG:=by decide +kernel
noncomputable def zkp:Stmt:=bd 33
noncomputable def zpA:List Str:=["table", "state", "letter"]
noncomputable def zhx:List Str:=["table", "state", "letter"]
theorem zpa:Cd zlW zpA zhx zkp:=by decide +kernel
noncomputable def zcz:Stmt:=bd 35
noncomputable def zfE:List Str:=["table", "hall", "deed"]
noncomputable def zbo:List Str:=["table", "hall", "deed"]
theorem zfi:Cd zco zfE zbo zcz:=by decide +kernel
noncomputable def ziW:Stmt:=bd 36
noncomputable def znP:List Str:=["hall", "deed", "line"]
noncomputable def zfF:List Str:=["hall", "deed"]
theorem znv:Cd zi2 znP zfF ziW:=by decide +kernel
noncomputable def zbX:Stmt:=bd 37
noncomputable def zej:List Str:=["table", "hall", "deed", "state", "kind"]
noncomputable def zbb:List Str:=["table", "hall", "deed"]
theorem zei:Cd zbV zej zbb zbX:=by decide +kernel
noncomputable def zbT:Stmt:=bd 39
noncomputable def zsl:List Str:=["table", "standing", "order", "hall", "deeds", "hand", "line", "?1?deed"]
noncomputable def zht:List Str:=["table", "standing", "order"]
theorem zsB:Cd zss zsl zht zbT:=by decide +kernel
noncomputable def zgp:Stmt:=bd 40
noncomputable def zk4:List Str:=["hand"]
noncomputable def zee:List Str:=["hand"]
theorem zkB:Cd zgQ zk4 zee zgp:=by decide +kernel
noncomputable def zdj:Stmt:=bd 41
noncomputable def zf8:List Str:=["word", "hand", "way", "order", "?1?number"]
noncomputable def zbC:List Str:=["word", "hand", "way", "order"]
theorem zgn:Cd zdi zf8 zbC zdj:=by decide +kernel
noncomputable def zaI:Stmt:=bd 42
noncomputable def zlT:List Str:=["table", "standing", "order", "?1?line", "?2?deed"]
noncomputable def zcg:List Str:=["table", "standing", "order"]
theorem zkn:Cd zku zlT zcg zaI:=by decide +kernel
noncomputable def zgi:Stmt:=bd 44
noncomputable def zlQ:List Str:=["_law_cell", "_law_k", "_law_number"]
noncomputable def zdQ:List Str:=["_law_cell", "_law_k"]
theorem zkP:Cd zfZ zlQ zdQ zgi:=by decide +kernel
noncomputable def ziw:Stmt:=bd 45
noncomputable def znd:List Str:=["_law_script", "_law_k", "_law_cell", "_law_found", "_law_number", "_law_turn"]
noncomputable def zfr:List Str:=["_law_script", "_law_k"]
theorem zmy:Cd zii znd zfr ziw:=by decide +kernel
noncomputable def ziK:Stmt:=bd 46
noncomputable def znW:List Str:=["_law_pool_here", "_law_size"]
noncomputable def zfP:List Str:=["_law_pool_here", "_law_size"]
theorem zmD:Cd zie znW zfP ziK:=by decide +kernel
noncomputable def zgx:Stmt:=bd 47
noncomputable def zmj:List Str:=["_law_pool_here", "_law_hands", "_law_rows", "_law_house", "_law_kind", "_law_way_here", "?1?_law_state"]
noncomputable def zdW:List Str:=["_law_pool_here"]
theorem zls:Cd zgz zmj zdW zgx:=by decide +kernel
noncomputable def zjV:Stmt:=bd 48
noncomputable def zpF:List Str:=["_law_pool_here", "_law_marks", "_law_found", "_law_k"]
noncomputable def zhI:List Str:=["_law_pool_here"]
theorem zpi:Cd zk7 zpF zhI zjV:=by decide +kernel
noncomputable def zix:Stmt:=bd 49
noncomputable def zns:List Str:=["_law_pool_here", "_law_state", "_law_mark", "_law_value", "_law_to", "_law_back", "_law_flags", "_law_ways", "_law_letters", "?1?_law_way_here", "?2?_law_kind", "?2?_law_one", "?3?_law_way_here", "?4?_law_kind", "?4?_law_one"]
noncomputable def zfx:List Str:=["_law_pool_here"]
theorem znw:Cd ze0 zns zfx zix:=by decide +kernel
noncomputable def zcN:Stmt:=bd 50
noncomputable def zfp:List Str:=["_law_house", "_law_sorts", "_law_counts", "_law_found", "_law_config", "_law_line", "_law_longer", "_law_many", "_law_lines", "?1?_law_lines"]
noncomputable def zbm:List Str:=["_law_house", "_law_sorts", "_law_counts"]
theorem ze9:Cd zcJ zfp zbm zcN:=by decide +kernel
noncomputable def zg8:Stmt:=bd 51
noncomputable def zkk:List Str:=["_law_found", "_law_due"]
noncomputable def zdZ:List Str:=["_law_found", "_law_due"]
theorem zkf:Cd zgW zkk zdZ zg8:=by decide +kernel
noncomputable def zrd:Stmt:=bd 52
noncomputable def ztQ:List Str:=["_law_script", "_law_table_here", "_law_pool_here", "_law_sorts", "_law_k", "_law_one", "_law_counts", "_law_config", "_law_line", "_law_house", "_law_shape", "_law_standings_here", "_law_order", "_law_due", "_law_begin", "?1?_law_config", "?1?_law_line", "?2?_law_standing", "?3?_law_standing", "?4?_law_standing", "?5?_law_many"]
noncomputable def zoX:List Str:=["_law_script"]
theorem ztX:Cd zqb ztQ zoX zrd:=by decide +kernel
noncomputable def zbd:Stmt:=zfz (bd 16) 0
noncomputable def zcT:List Str:=["self", "line"]
noncomputable def zaR:List Str:=["self", "line"]
theorem zc4:Cd zbe zcT zaR zbd:=by decide +kernel
noncomputable def zcA:Stmt:=zfz (bd 17) 0
noncomputable def zfu:List Str:=["self", "standing", "?1?line"]
noncomputable def zbl:List Str:=["self", "standing"]
theorem ze7:Cd zcq zfu zbl zcA:=by decide +kernel
noncomputable def za6:Stmt:=zfz (bd 17) 7
noncomputable def zb9:List Str:=["self", "flag", "?1?hand", "?1?line"]
noncomputable def zaL:List Str:=["self", "flag"]
theorem zcd:Cd za0 zb9 zaL za6:=by decide +kernel
noncomputable def zaQ:Stmt:=zfz (bd 17) 8
noncomputable def zby:List Str:=["self", "sender", "?1?hand"]
noncomputable def zaC:List Str:=["self", "sender"]
theorem zbx:Cd zaP zby zaC zaQ:=by decide +kernel
inductive DI (K:PySem.W.Frag) (n:Str) (s:Stmt) (dV:Value) (f:Addr) (v:FuncData):Prop
 | mk {oc kV dc pm cd ct:Value} {od an:Option Addr} {sl:Array (Option Value)} (a:PySem.W.nsIn K mainGlobals n=some (some (.ref f))) (l:K.lookup f=some ⟨oc,od,.func v,sl⟩) (e:v=PySem.W.fnOf n n (zaA s) (zas s) (zad s) dV kV dc pm an cd ct) (c:PySem.W.codeIn K cd n=true) (k:PySem.W.keepIn K (.ref f)=true)
inductive MI (K:PySem.W.Frag) (C:Addr) (n q:Str) (s:Stmt) (f:Addr) (v:FuncData):Prop
 | mk {oc kV dc pm cd ct:Value} {od an:Option Addr} {sl:Array (Option Value)} (a:PySem.W.findIn K (.ref C) n=some (some (.ref f))) (i:PySem.W.isFn K (.ref f)=true) (l:K.lookup f=some ⟨oc,od,.func v,sl⟩) (e:v=PySem.W.fnOf n q (zaA s) (zas s) (zad s) .none kV dc pm an cd ct) (c:PySem.W.codeIn K cd q=true) (k:PySem.W.keepIn K (.ref f)=true)
section
variable {K:PySem.W.Frag} {n q:Str} {s:Stmt} {dV:Value} {f C:Addr} {v:FuncData} {N ps:List Str} {i:Nat} {B:F} (h5:(zad s).kind=.function) (h6:(zad s).isCoroutine=false) (h7:(zad s).isGenerator=false) (h8:N.take ps.length=ps) (e:P[i]?=some B) (h1:B.np=ps.length) (h2:B.ns=N.length) (h3:B.dfl=[]) (c:Cd B.body N ps s)
include h5 h6 h7 h8 e h1 h2 h3 c
theorem dat0 (F:Fun2 K n q s f v) (h:∀ us:List Value,us.length=ps.length->bindArgs v ⟨us,[]⟩=pure (ps.zip us)):zel K fns cls P globs gds i n q s f v N ps B:=
 ⟨e, F,c.sc h5 h6 h7 h8,h1,h2,by
  rw [h3]
  exact ⟨[],λ_ _=>.nil,λj hj=>by
   obtain rfl:j=0:=Nat.le_zero.mp hj
   exact ⟨[],.all h,.nil⟩⟩,c.2.2.2⟩
theorem DI.dat (D:DI K n s .none f v) (h:∀ kV dc pm an cd ct,∀ us:List Value,us.length=ps.length->bindArgs (PySem.W.fnOf n n (zaA s) (zas s) (zad s) .none kV dc pm an cd ct) ⟨us,[]⟩=pure (ps.zip us)):zel K fns cls P globs gds i n n s f v N ps B:=by
 obtain ⟨_,l,E,c',k⟩:=D
 subst E
 exact dat0 h5 h6 h7 h8 e h1 h2 h3 c (zdG l c' k) (h _ _ _ _ _ _)
theorem MI.dat (D:MI K C n q s f v) (h:∀ kV dc pm an cd ct,∀ us:List Value,us.length=ps.length->bindArgs (PySem.W.fnOf n q (zaA s) (zas s) (zad s) .none kV dc pm an cd ct) ⟨us,[]⟩=pure (ps.zip us)):zel K fns cls P globs gds i n q s f v N ps B:=by
 obtain ⟨_,_,l,E,c',k⟩:=D
 subst E
 exact dat0 h5 h6 h7 h8 e h1 h2 h3 c (zdG l c' k) (h _ _ _ _ _ _)
end
section
variable {K:PySem.W.Frag} {n q:Str} {s:Stmt} {dV:Value} {f C:Addr} {v:FuncData}
theorem DI.mg {mg:Str->Option Value} {h:Heap} (D:DI K n s dV f v) (X:K.In h) (G:h.Ns mainGlobals mg):mg n=some (.ref f):=by
 obtain ⟨a,_,_,_,_⟩:=D
 exact PySem.W.mg_of X G a
theorem MI.a (D:MI K C n q s f v):PySem.W.findIn K (.ref C) n=some (some (.ref f)):=by obtain ⟨a,_,_,_,_,_⟩:=D;exact a
theorem MI.j (D:MI K C n q s f v):PySem.W.isFn K (.ref f)=true:=by obtain ⟨_,a,_,_,_,_⟩:=D;exact a
theorem MI.k (D:MI K C n q s f v):PySem.W.keepIn K (.ref f)=true:=by obtain ⟨_,_,_,_,_,a⟩:=D;exact a
end
inductive DL (K:PySem.W.Frag):Nat->List F->List Addr->List FuncData->List (List Str)->Prop
 | nil (i:Nat):DL K i [] [] [] []
 | cons {i:Nat} {B:F} {Bs:List F} {f:Addr} {fs:List Addr} {v:FuncData} {vs:List FuncData} {p:List Str} {ps:List (List Str)} {x q:Str} {st:Stmt} {N:List Str} (d:zel K fns cls P globs gds i x q st f v N p B) (r:DL K (i+1) Bs fs vs ps):DL K i (B::Bs) (f::fs) (v::vs) (p::ps)
theorem DL.get {K:PySem.W.Frag} {v0:FuncData} {B:F} {i:Nat} {Bs:List F} {fs:List Addr} {vs:List FuncData} {ps:List (List Str)} (L:DL K i Bs fs vs ps):∀ j,Bs[j]?=some B->∃ x q st N,zel K fns cls P globs gds (i+j) x q st (fs.getD j 0) (vs.getD j v0) N (ps.getD j []) B:=by
 induction L with
 | nil i=>intro j e;simp at e
 | cons d r ih=>
  intro j e
  cases j with
  | zero=>cases e;exact ⟨_,_,_,_,d⟩
  | succ j=>
   obtain ⟨x,q,st,N,z⟩:=ih j (by simpa using e)
   rw [Nat.add_right_comm] at z
   exact ⟨x,q,st,N,z⟩
inductive FL (mg:Str->Option Value):List (Str×Nat×List D)->List Addr->List F->Prop
 | nil (fs:List Addr) (Bs:List F):FL mg [] fs Bs
 | cons {p:Str×Nat×List D} {ps:List (Str×Nat×List D)} {f:Addr} {fs:List Addr} {B:F} {Bs:List F} (h:mg p.1=some (.ref f)) (h1:B.np=p.2.1) (h2:B.dfl=p.2.2) (r:FL mg ps fs Bs):FL mg (p::ps) (f::fs) (B::Bs)
theorem FL.get {mg:Str->Option Value} {p:Str×Nat×List D} {ps:List (Str×Nat×List D)} {fs:List Addr} {Bs:List F} (L:FL mg ps fs Bs):∀ j,ps[j]?=some p->mg p.1=some (.ref (fs.getD j 0))/\∃ B,Bs[j]?=some B/\B.np=p.2.1/\B.dfl=p.2.2:=by
 induction L with
 | nil=>intro j e;simp at e
 | cons h h1 h2 r ih=>
  intro j e
  cases j with
  | zero=>cases e;exact ⟨h,_,rfl,h1,h2⟩
  | succ j=>exact ih j (by simpa using e)
theorem all_mk {l:PySem.W.OpenLaw} {w:World} {K:PySem.W.Frag} {h:Heap} {mg:Str->Option Value} {fa f1 f2 f3 f4 f5 f6 f7 f8 f9 f10 f11 f12 f13 f14 f15 f16 f17 f18 f19 f20 f21 f22 f23 f24 f25 f26 f27 f28 f29 f30 f31 f32 f33 f34 f35 f36 f37 f38 f39 f40 f41 f42 f43 ga0 ga1 ga2 ga3 ga4 ga5 ga6 da0 dT21 dT27 dT30 Qt Qb1:Addr} (X:K.In h) (G:h.Ns mainGlobals mg) (hfa:mg "law"=some (.ref fa))
  {wd21 wd27 wd30:Option Addr} {gs1 gs2 gs3 gs4 gs5 gs6 gs7 ws21 ws27 ws30:Array (Option Value)} {v1 v2 v3 v4 v5 v6 v7 v8 v9 v10 v11 v12 v13 v14 v15 v16 v17 v18 v19 v20 v21 v22 v23 v24 v25 v26 v27 v28 v29 v30 v31 v32 v33 v34 v35 v36 v37 v38 v39 v40 v41 v42 v43:FuncData}
  {tk0 tk1 tk2 tk3 tk4 tk5 tk6 tk7 tk8 tk9 tk10 tk11 tk12 tk13 tk14 tk15:Tok}
  {hh0_0 hh0_1 hh0_2:Int}
  {dn0 gn1 gn2 gn3 gn4 gn5 gn6 gn7 wn21 wn27 wn30:Nat}
  (D1:DI K "_wall" zom .none f1 v1)
  (D2:DI K "right_of" zeM .none f2 v2)
  (D3:DI K "hand_row" zeC .none f3 v3)
  (D4:DI K "house_row" zd6 .none f4 v4)
  (D5:DI K "row_for" zgj .none f5 v5)
  (D6:DI K "is_wait" zfX .none f6 v6)
  (D7:DI K "start" zlD .none f7 v7)
  (D8:DI K "clash" zlR .none f8 v8)
  (D9:DI K "has_version_of" zbs .none f9 v9)
  (D10:DI K "comers" zim .none f10 v10)
  (D11:DI K "mark_of" zg3 .none f11 v11)
  (D12:DI K "letter_mark" zcy .none f12 v12)
  (D13:DI K "config_of" zdy .none f13 v13)
  (D14:DI K "marked_way" zdl .none f14 v14)
  (D15:DI K "start_shape" zcx .none f15 v15)
  (D16:DI K "shape_of" zeO .none f16 v16)
  (D17:DI K "together" zer .none f17 v17)
  (D18:DI K "lies_in" zgY .none f18 v18)
  (D19:DI K "is_within" zd0 .none f19 v19)
  (D20:DI K "may_clash" zdC .none f20 v20)
  (D21:DI K "may_be_stuck" zae (.ref dT21) f21 v21)
  (D22:DI K "may_move" zeG .none f22 v22)
  (D23:DI K "waits" zkp .none f23 v23)
  (D24:DI K "may_be_done" zcz .none f24 v24)
  (D25:DI K "way_of" ziW .none f25 v25)
  (D26:DI K "row_for_deed" zbX .none f26 v26)
  (D27:DI K "may" zbT (.ref dT27) f27 v27)
  (D28:DI K "asks_of" zgp .none f28 v28)
  (D29:DI K "letters_of" zdj .none f29 v29)
  (D30:DI K "stuck" zaI (.ref dT30) f30 v30)
  (D31:DI K "_law_mixed" zgi .none f31 v31)
  (D32:DI K "_law_pool" ziw .none f32 v32)
  (D33:DI K "_law_take" ziK .none f33 v33)
  (D34:DI K "_law_table" zgx .none f34 v34)
  (D35:DI K "_law_way" zjV .none f35 v35)
  (D36:DI K "_law_sort" zix .none f36 v36)
  (D37:DI K "_law_standings" zcN .none f37 v37)
  (D38:DI K "_law_truth" zg8 .none f38 v38)
  (D39:DI K "law" zrd .none f39 v39)
  (D40:MI K Qt "__init__" "OpenLine.__init__" zbd f40 v40)
  (D41:MI K Qb1 "__init__" "Hall.__init__" zcA f41 v41)
  (D42:MI K Qb1 "hands_with" "Hall.hands_with" za6 f42 v42)
  (D43:MI K Qb1 "other_sharers" "Hall.other_sharers" zaQ f43 v43)
  (Qs:PySem.W.nsIn K mainGlobals "OpenLine"=some (some (.ref Qt))) (Qm:PySem.W.plainGet K Qt Str.empty=true) (Qo:PySem.W.hasDictIn K Qt=true) (Ql:PySem.W.plainOver K Qt=true) (Qr:PySem.W.findIn K (.ref Qt) "__setattr__"=some (some (.builtin "object.__setattr__"))) (Qn:PySem.W.makesIn K Qt=true) (Qq:PySem.W.keepIn K (.ref Qt)=true)
  (Qa:PySem.W.findIn K (.ref Qt) "state"=some none)
  (Qc:PySem.W.findIn K (.ref Qt) "value"=some none)
  (Qd:PySem.W.findIn K (.ref Qt) "want"=some none)
  (Qh:PySem.W.findIn K (.ref Qt) "to"=some none)
  (Qe:PySem.W.findIn K (.ref Qt) "back"=some none)
  (Qb:PySem.W.findIn K (.ref Qt) "flags"=some none)
  (Qa1:PySem.W.nsIn K mainGlobals "Hall"=some (some (.ref Qb1))) (Qv:PySem.W.plainGet K Qb1 Str.empty=true) (Qw:PySem.W.hasDictIn K Qb1=true) (Qx:PySem.W.plainOver K Qb1=true) (Qu:PySem.W.findIn K (.ref Qb1) "__setattr__"=some (some (.builtin "object.__setattr__"))) (Qz:PySem.W.makesIn K Qb1=true) (Qy:PySem.W.keepIn K (.ref Qb1)=true)
  (Qj:PySem.W.findIn K (.ref Qb1) "state"=some none)
  (Qk:PySem.W.findIn K (.ref Qb1) "store"=some none)
  (Qp:PySem.W.findIn K (.ref Qb1) "last"=some none)
  (Qi:PySem.W.findIn K (.ref Qb1) "lines"=some none)
  (Qg:PySem.W.findIn K (.ref Qb1) "answer"=some none)
  (Qf:PySem.W.findIn K (.ref Qb1) "broken"=some none)
  (y1:K.lookup ga0=some ⟨.type "tuple",none,.seq #[(.str (PySem.Str.ofString "read") tk0),(.str (PySem.Str.ofString "write") tk1),(.str (PySem.Str.ofString "drop") tk2)] gn1,gs1⟩)
  (x0:PySem.W.nsIn K mainGlobals "ASKS"=some (some (.ref ga0)))
  (y2:K.lookup ga1=some ⟨.type "tuple",none,.seq #[(.int 0 tk3),(.int 0 tk4)] gn2,gs2⟩)
  (x1:PySem.W.nsIn K mainGlobals "FIRST_VALUE"=some (some (.ref ga1)))
  (x2:PySem.W.nsIn K mainGlobals "SHARES"=some (some (.int 1 tk5)))
  (y3:K.lookup ga2=some ⟨.type "tuple",none,.seq #[(.str (PySem.Str.ofString "wait") tk6)] gn3,gs3⟩)
  (y4:K.lookup ga3=some ⟨.type "tuple",none,.seq #[(.ref ga2)] gn4,gs4⟩)
  (x3:PySem.W.nsIn K mainGlobals "WAITS"=some (some (.ref ga3)))
  (xd0:PySem.W.nsIn K mainGlobals "COUNTS_WITHIN"=some (some (.ref da0)))
  (y5:K.lookup ga4=some ⟨.type "tuple",none,.seq #[(.str (PySem.Str.ofString "one") tk7)] gn5,gs5⟩)
  (y6:K.lookup ga5=some ⟨.type "tuple",none,.seq #[(.str (PySem.Str.ofString "one") tk9),(.str (PySem.Str.ofString "some") tk10)] gn6,gs6⟩)
  (y7:K.lookup ga6=some ⟨.type "tuple",none,.seq #[(.str (PySem.Str.ofString "one") tk12),(.str (PySem.Str.ofString "some") tk13),(.str (PySem.Str.ofString "any") tk14),.none] gn7,gs7⟩)
  (yd0:K.lookup da0=some ⟨.type "dict",none,.dict #[⟨hh0_0,.str (PySem.Str.ofString "one") tk8,(.ref ga4)⟩,⟨hh0_1,.str (PySem.Str.ofString "some") tk11,(.ref ga5)⟩,⟨hh0_2,.str (PySem.Str.ofString "any") tk15,(.ref ga6)⟩] dn0,#[]⟩)
  (hd0_0:hh0_0=hashStr w (PySem.Str.ofString "one"))
  (hd0_1:hh0_1=hashStr w (PySem.Str.ofString "some"))
  (hd0_2:hh0_2=hashStr w (PySem.Str.ofString "any"))
  (w21:K.lookup dT21=some ⟨.type "tuple",wd21,.seq #[(.bool true)] wn21,ws21⟩)
  (w27:K.lookup dT27=some ⟨.type "tuple",wd27,.seq #[(.bool true)] wn27,ws27⟩)
  (w30:K.lookup dT30=some ⟨.type "tuple",wd30,.seq #[(.bool true)] wn30,ws30⟩)
  (z1:PySem.W.nsIn K mainGlobals "len"=some none)
  (z2:PySem.W.nsIn K mainGlobals "sum"=some none)
  (z3:PySem.W.nsIn K mainGlobals "tuple"=some none)
  (z4:PySem.W.nsIn K mainGlobals "int"=some none)
  (z5:PySem.W.nsIn K mainGlobals "range"=some none)
  (z6:PySem.W.nsIn K mainGlobals "all"=some none)
  (z7:PySem.W.nsIn K mainGlobals "any"=some none)
  (z8:PySem.W.nsIn K mainGlobals "max"=some none)
  (z9:PySem.W.nsIn K mainGlobals "min"=some none)
  (z10:PySem.W.nsIn K mainGlobals "list"=some none)
  (z11:PySem.W.nsIn K mainGlobals "isinstance"=some none)
  (z12:PySem.W.nsIn K mainGlobals "str"=some none)
  (z13:PySem.W.nsIn K mainGlobals "bool"=some none)
  (z14:PySem.W.nsIn K mainGlobals "dict"=some none)
  (z15:PySem.W.nsIn K mainGlobals "enumerate"=some none)
  (z16:PySem.W.nsIn K mainGlobals "sorted"=some none)
  (z17:PySem.W.nsIn K mainGlobals "set"=some none)
  : ∃ fd:FuncData,(∀ (s:Shared) (v:Value),BindsTo s fd ⟨[v],[]⟩ [("_law_script",v)])/\∀ base:Heap,K.In base->base.Ns mainGlobals mg->FnOk l.prog w K mg base CX0 28 fa fd ["_law_script"] (spF K 1 (zah P 14 38)):=by
 have e:=hfa.symm.trans (D39.mg X G)
 cases e
 obtain @⟨_,kV21,dc21,pm21,cd21,ct21,_,an21,_,a21,l21,E21,c21,k21⟩:=D21
 subst E21
 have F21:=zdG (st:=zae) l21 c21 k21
 have b21:∃ dvs,(∀ A H,RepDs K A H [(.bl true)] dvs)/\∀ j,j<=1->∃ ds,zb8 K _ zaw ds/\Vals (dvs.drop j) ds:=⟨[(V.bl true)],λ_ _=>(.cons (by simp only [RepD]) .nil),λj hj=>by
  match j,hj with
  | 0,_=>exact ⟨[(.bool true)],λs us hK hl=>match us,(show us.length=2 by simpa [zaw] using hl) with | [_,_],_=>BindsTo.of_defaults (fd:=PySem.W.fnOf "may_be_stuck" "may_be_stuck" (zaA zae) (zas zae) (zad zae) (.ref dT21) kV21 dc21 pm21 an21 cd21 ct21) rfl (hK _ _ w21) rfl rfl rfl,(.cons rfl .nil)⟩
  | 1,_=>exact ⟨[],λs us hK hl=>match us,(show us.length=3 by simpa [zaw] using hl) with | [_,_,_],_=>BindsTo.of_defaults (fd:=PySem.W.fnOf "may_be_stuck" "may_be_stuck" (zaA zae) (zas zae) (zad zae) (.ref dT21) kV21 dc21 pm21 an21 cd21 ct21) rfl (hK _ _ w21) rfl rfl rfl,.nil⟩
  | j+2,hj=>omega⟩
 have d21:zel K fns cls P globs gds 20 "may_be_stuck" "may_be_stuck" zae f21 _ zbZ zaw _:=⟨rfl,F21,Cd.sc zbW rfl rfl rfl rfl,rfl,rfl,b21,zbW.2.2.2⟩
 obtain @⟨_,kV27,dc27,pm27,cd27,ct27,_,an27,_,a27,l27,E27,c27,k27⟩:=D27
 subst E27
 have F27:=zdG (st:=zbT) l27 c27 k27
 have b27:∃ dvs,(∀ A H,RepDs K A H [(.bl true)] dvs)/\∀ j,j<=1->∃ ds,zb8 K _ zht ds/\Vals (dvs.drop j) ds:=⟨[(V.bl true)],λ_ _=>(.cons (by simp only [RepD]) .nil),λj hj=>by
  match j,hj with
  | 0,_=>exact ⟨[(.bool true)],λs us hK hl=>match us,(show us.length=2 by simpa [zht] using hl) with | [_,_],_=>BindsTo.of_defaults (fd:=PySem.W.fnOf "may" "may" (zaA zbT) (zas zbT) (zad zbT) (.ref dT27) kV27 dc27 pm27 an27 cd27 ct27) rfl (hK _ _ w27) rfl rfl rfl,(.cons rfl .nil)⟩
  | 1,_=>exact ⟨[],λs us hK hl=>match us,(show us.length=3 by simpa [zht] using hl) with | [_,_,_],_=>BindsTo.of_defaults (fd:=PySem.W.fnOf "may" "may" (zaA zbT) (zas zbT) (zad zbT) (.ref dT27) kV27 dc27 pm27 an27 cd27 ct27) rfl (hK _ _ w27) rfl rfl rfl,.nil⟩
  | j+2,hj=>omega⟩
 have d27:zel K fns cls P globs gds 26 "may" "may" zbT f27 _ zsl zht _:=⟨rfl,F27,Cd.sc zsB rfl rfl rfl rfl,rfl,rfl,b27,zsB.2.2.2⟩
 obtain @⟨_,kV30,dc30,pm30,cd30,ct30,_,an30,_,a30,l30,E30,c30,k30⟩:=D30
 subst E30
 have F30:=zdG (st:=zaI) l30 c30 k30
 have b30:∃ dvs,(∀ A H,RepDs K A H [(.bl true)] dvs)/\∀ j,j<=1->∃ ds,zb8 K _ zcg ds/\Vals (dvs.drop j) ds:=⟨[(V.bl true)],λ_ _=>(.cons (by simp only [RepD]) .nil),λj hj=>by
  match j,hj with
  | 0,_=>exact ⟨[(.bool true)],λs us hK hl=>match us,(show us.length=2 by simpa [zcg] using hl) with | [_,_],_=>BindsTo.of_defaults (fd:=PySem.W.fnOf "stuck" "stuck" (zaA zaI) (zas zaI) (zad zaI) (.ref dT30) kV30 dc30 pm30 an30 cd30 ct30) rfl (hK _ _ w30) rfl rfl rfl,(.cons rfl .nil)⟩
  | 1,_=>exact ⟨[],λs us hK hl=>match us,(show us.length=3 by simpa [zcg] using hl) with | [_,_,_],_=>BindsTo.of_defaults (fd:=PySem.W.fnOf "stuck" "stuck" (zaA zaI) (zas zaI) (zad zaI) (.ref dT30) kV30 dc30 pm30 an30 cd30 ct30) rfl (hK _ _ w30) rfl rfl rfl,.nil⟩
  | j+2,hj=>omega⟩
 have d30:zel K fns cls P globs gds 29 "stuck" "stuck" zaI f30 _ zlT zcg _:=⟨rfl,F30,Cd.sc zkn rfl rfl rfl rfl,rfl,rfl,b30,zkn.2.2.2⟩
 have blt:∀ x∈zcQ,mg x=none:=by
  intro x hx
  simp only [zcQ,List.mem_cons,List.not_mem_nil,or_false] at hx
  rcases hx with rfl | rfl | rfl | rfl | rfl | rfl | rfl | rfl | rfl | rfl | rfl | rfl | rfl | rfl | rfl | rfl | rfl
  ·exact PySem.W.mg_none_of X G z1
  ·exact PySem.W.mg_none_of X G z2
  ·exact PySem.W.mg_none_of X G z3
  ·exact PySem.W.mg_none_of X G z4
  ·exact PySem.W.mg_none_of X G z5
  ·exact PySem.W.mg_none_of X G z6
  ·exact PySem.W.mg_none_of X G z7
  ·exact PySem.W.mg_none_of X G z8
  ·exact PySem.W.mg_none_of X G z9
  ·exact PySem.W.mg_none_of X G z10
  ·exact PySem.W.mg_none_of X G z11
  ·exact PySem.W.mg_none_of X G z12
  ·exact PySem.W.mg_none_of X G z13
  ·exact PySem.W.mg_none_of X G z14
  ·exact PySem.W.mg_none_of X G z15
  ·exact PySem.W.mg_none_of X G z16
  ·exact PySem.W.mg_none_of X G z17
 have gl:∀ (x:Str) (d:D),globs.lookup x=some d->∃ u v,mg x=some u/\RelV v u/\∀ A H,RepD K A H d v:=by
  intro x d e
  unfold globs at e
  rw [List.lookup_cons] at e
  split at e
  ·rename_i hx
   have hx:=eq_of_beq hx
   subst hx
   cases e
   exact ⟨_,(V.ref ga0),PySem.W.mg_of X G x0,rfl,λA H=>by simp only [RepD];exact ⟨ga0,[(V.str (PySem.Str.ofString "read")),(V.str (PySem.Str.ofString "write")),(V.str (PySem.Str.ofString "drop"))],rfl,.inr ⟨_,_,_,y1,rfl,rfl,rfl,by show 3<=sizeLine;decide,(.cons ⟨_,rfl⟩ (.cons ⟨_,rfl⟩ (.cons ⟨_,rfl⟩ .nil)))⟩,(.cons (by simp only [RepD];rfl) (.cons (by simp only [RepD];rfl) (.cons (by simp only [RepD];rfl) .nil)))⟩⟩
  rw [List.lookup_cons] at e
  split at e
  ·rename_i hx
   have hx:=eq_of_beq hx
   subst hx
   cases e
   exact ⟨_,(V.ref ga1),PySem.W.mg_of X G x1,rfl,λA H=>by simp only [RepD];exact ⟨ga1,[(V.int 0),(V.int 0)],rfl,.inr ⟨_,_,_,y2,rfl,rfl,rfl,by show 2<=sizeLine;decide,(.cons ⟨_,rfl⟩ (.cons ⟨_,rfl⟩ .nil))⟩,(.cons (by simp only [RepD]) (.cons (by simp only [RepD]) .nil))⟩⟩
  rw [List.lookup_cons] at e
  split at e
  ·rename_i hx
   have hx:=eq_of_beq hx
   subst hx
   cases e
   exact ⟨_,(V.int 1),PySem.W.mg_of X G x2,⟨_,rfl⟩,λA H=>by simp only [RepD]⟩
  rw [List.lookup_cons] at e
  split at e
  ·rename_i hx
   have hx:=eq_of_beq hx
   subst hx
   cases e
   exact ⟨_,(V.ref ga3),PySem.W.mg_of X G x3,rfl,λA H=>by simp only [RepD];exact ⟨ga3,[(V.ref ga2)],rfl,.inr ⟨_,_,_,y4,rfl,rfl,rfl,by show 1<=sizeLine;decide,(.cons rfl .nil)⟩,(.cons (by simp only [RepD];exact ⟨ga2,[(V.str (PySem.Str.ofString "wait"))],rfl,.inr ⟨_,_,_,y3,rfl,rfl,rfl,by show 1<=sizeLine;decide,(.cons ⟨_,rfl⟩ .nil)⟩,(.cons (by simp only [RepD];rfl) .nil)⟩) .nil)⟩⟩
  cases e
 have gd:∀ (x:Str) (kvs:List (List Nat×D)),gds.lookup x=some kvs->GDic K w mg x kvs:=by
  intro x kvs e
  unfold gds at e
  rw [List.lookup_cons] at e
  split at e
  ·rename_i hx
   have hx:=eq_of_beq hx
   subst hx
   cases e
   exact .mk da0 _ _ _ (PySem.W.mg_of X G xd0) yd0 ⟨rfl,rfl,rfl⟩ rfl (.cons (v:=(V.ref ga4)) hd0_0 rfl rfl (λA H=>by simp only [RepD];exact ⟨ga4,[(V.str (PySem.Str.ofString "one"))],rfl,.inr ⟨_,_,_,y5,rfl,rfl,rfl,by show 1<=sizeLine;decide,(.cons ⟨_,rfl⟩ .nil)⟩,(.cons (by simp only [RepD];rfl) .nil)⟩) (.cons (v:=(V.ref ga5)) hd0_1 rfl rfl (λA H=>by simp only [RepD];exact ⟨ga5,[(V.str (PySem.Str.ofString "one")),(V.str (PySem.Str.ofString "some"))],rfl,.inr ⟨_,_,_,y6,rfl,rfl,rfl,by show 2<=sizeLine;decide,(.cons ⟨_,rfl⟩ (.cons ⟨_,rfl⟩ .nil))⟩,(.cons (by simp only [RepD];rfl) (.cons (by simp only [RepD];rfl) .nil))⟩) (.cons (v:=(V.ref ga6)) hd0_2 rfl rfl (λA H=>by simp only [RepD];exact ⟨ga6,[(V.str (PySem.Str.ofString "one")),(V.str (PySem.Str.ofString "some")),(V.str (PySem.Str.ofString "any")),V.non],rfl,.inr ⟨_,_,_,y7,rfl,rfl,rfl,by show 4<=sizeLine;decide,(.cons ⟨_,rfl⟩ (.cons ⟨_,rfl⟩ (.cons ⟨_,rfl⟩ (.cons rfl .nil))))⟩,(.cons (by simp only [RepD];rfl) (.cons (by simp only [RepD];rfl) (.cons (by simp only [RepD];rfl) (.cons (by simp only [RepD]) .nil))))⟩) .nil))) (by decide)
  cases e
 let addr:Nat->Addr:=λn=>[f1,f2,f3,f4,f5,f6,f7,f8,f9,f10,f11,f12,f13,f14,f15,f16,f17,f18,f19,f20,f21,f22,f23,f24,f25,f26,f27,f28,f29,f30,f31,f32,f33,f34,f35,f36,f37,f38,fa,f40,f41,f42,f43].getD n 0
 let psOf:Nat->List Str:=λn=>[zjX,zcW,zc1,zcf,zdR,zdU,zhF,zhj,zaT,zfg,zdN,zbq,zcj,zbB,zbr,zcU,zdd,zdV,zcl,zch,zaw,zc5,zhx,zbo,zfF,zbb,zht,zee,zbC,zcg,zdQ,zfr,zfP,zdW,zhI,zfx,zbm,zdZ,zoX,zaR,zbl,zaL,zaC].getD n []
 let fdOf:Nat->FuncData:=λn=>[v1,v2,v3,v4,v5,v6,v7,v8,v9,v10,v11,v12,v13,v14,v15,v16,v17,v18,v19,v20,(PySem.W.fnOf "may_be_stuck" "may_be_stuck" (zaA zae) (zas zae) (zad zae) (.ref dT21) kV21 dc21 pm21 an21 cd21 ct21),v22,v23,v24,v25,v26,(PySem.W.fnOf "may" "may" (zaA zbT) (zas zbT) (zad zbT) (.ref dT27) kV27 dc27 pm27 an27 cd27 ct27),v28,v29,(PySem.W.fnOf "stuck" "stuck" (zaA zaI) (zas zaI) (zad zaI) (.ref dT30) kV30 dc30 pm30 an30 cd30 ct30),v31,v32,v33,v34,v35,v36,v37,v38,v39,v40,v41,v42,v43].getD n v1
 have T:Txt w K mg fns cls P globs gds addr fdOf psOf:=by
  refine ⟨λfi B e=>?_,blt,gl,gd,λfi p e=>?_,?_,?_,?_⟩
  ·have L:DL K 0 P [f1,f2,f3,f4,f5,f6,f7,f8,f9,f10,f11,f12,f13,f14,f15,f16,f17,f18,f19,f20,f21,f22,f23,f24,f25,f26,f27,f28,f29,f30,f31,f32,f33,f34,f35,f36,f37,f38,fa,f40,f41,f42,f43] [v1,v2,v3,v4,v5,v6,v7,v8,v9,v10,v11,v12,v13,v14,v15,v16,v17,v18,v19,v20,(PySem.W.fnOf "may_be_stuck" "may_be_stuck" (zaA zae) (zas zae) (zad zae) (.ref dT21) kV21 dc21 pm21 an21 cd21 ct21),v22,v23,v24,v25,v26,(PySem.W.fnOf "may" "may" (zaA zbT) (zas zbT) (zad zbT) (.ref dT27) kV27 dc27 pm27 an27 cd27 ct27),v28,v29,(PySem.W.fnOf "stuck" "stuck" (zaA zaI) (zas zaI) (zad zaI) (.ref dT30) kV30 dc30 pm30 an30 cd30 ct30),v31,v32,v33,v34,v35,v36,v37,v38,v39,v40,v41,v42,v43] [zjX,zcW,zc1,zcf,zdR,zdU,zhF,zhj,zaT,zfg,zdN,zbq,zcj,zbB,zbr,zcU,zdd,zdV,zcl,zch,zaw,zc5,zhx,zbo,zfF,zbb,zht,zee,zbC,zcg,zdQ,zfr,zfP,zdW,zhI,zfx,zbm,zdZ,zoX,zaR,zbl,zaL,zaC]:=.cons (DI.dat rfl rfl rfl rfl rfl rfl rfl rfl zrL D1 λ_ _ _ _ _ _=>us1 λ_=>rfl) (.cons (DI.dat rfl rfl rfl rfl rfl rfl rfl rfl zjt D2 λ_ _ _ _ _ _=>us2 λ_ _=>rfl) (.cons (DI.dat rfl rfl rfl rfl rfl rfl rfl rfl zjN D3 λ_ _ _ _ _ _=>us3 λ_ _ _=>rfl) (.cons (DI.dat rfl rfl rfl rfl rfl rfl rfl rfl zhC D4 λ_ _ _ _ _ _=>us4 λ_ _ _ _=>rfl) (.cons (DI.dat rfl rfl rfl rfl rfl rfl rfl rfl zks D5 λ_ _ _ _ _ _=>us2 λ_ _=>rfl) (.cons (DI.dat rfl rfl rfl rfl rfl rfl rfl rfl zlA D6 λ_ _ _ _ _ _=>us1 λ_=>rfl) (.cons (DI.dat rfl rfl rfl rfl rfl rfl rfl rfl zo8 D7 λ_ _ _ _ _ _=>us2 λ_ _=>rfl) (.cons (DI.dat rfl rfl rfl rfl rfl rfl rfl rfl zqH D8 λ_ _ _ _ _ _=>us2 λ_ _=>rfl) (.cons (DI.dat rfl rfl rfl rfl rfl rfl rfl rfl zdq D9 λ_ _ _ _ _ _=>us2 λ_ _=>rfl) (.cons (DI.dat rfl rfl rfl rfl rfl rfl rfl rfl znq D10 λ_ _ _ _ _ _=>us2 λ_ _=>rfl) (.cons (DI.dat rfl rfl rfl rfl rfl rfl rfl rfl zlw D11 λ_ _ _ _ _ _=>us2 λ_ _=>rfl) (.cons (DI.dat rfl rfl rfl rfl rfl rfl rfl rfl zfv D12 λ_ _ _ _ _ _=>us2 λ_ _=>rfl) (.cons (DI.dat rfl rfl rfl rfl rfl rfl rfl rfl zhe D13 λ_ _ _ _ _ _=>us2 λ_ _=>rfl) (.cons (DI.dat rfl rfl rfl rfl rfl rfl rfl rfl zf0 D14 λ_ _ _ _ _ _=>us2 λ_ _=>rfl) (.cons (DI.dat rfl rfl rfl rfl rfl rfl rfl rfl zfS D15 λ_ _ _ _ _ _=>us1 λ_=>rfl) (.cons (DI.dat rfl rfl rfl rfl rfl rfl rfl rfl zi6 D16 λ_ _ _ _ _ _=>us1 λ_=>rfl) (.cons (DI.dat rfl rfl rfl rfl rfl rfl rfl rfl zjm D17 λ_ _ _ _ _ _=>us1 λ_=>rfl) (.cons (DI.dat rfl rfl rfl rfl rfl rfl rfl rfl zml D18 λ_ _ _ _ _ _=>us2 λ_ _=>rfl) (.cons (DI.dat rfl rfl rfl rfl rfl rfl rfl rfl zhk D19 λ_ _ _ _ _ _=>us2 λ_ _=>rfl) (.cons (DI.dat rfl rfl rfl rfl rfl rfl rfl rfl zhZ D20 λ_ _ _ _ _ _=>us2 λ_ _=>rfl) (.cons d21 (.cons (DI.dat rfl rfl rfl rfl rfl rfl rfl rfl zja D22 λ_ _ _ _ _ _=>us4 λ_ _ _ _=>rfl) (.cons (DI.dat rfl rfl rfl rfl rfl rfl rfl rfl zpa D23 λ_ _ _ _ _ _=>us3 λ_ _ _=>rfl) (.cons (DI.dat rfl rfl rfl rfl rfl rfl rfl rfl zfi D24 λ_ _ _ _ _ _=>us3 λ_ _ _=>rfl) (.cons (DI.dat rfl rfl rfl rfl rfl rfl rfl rfl znv D25 λ_ _ _ _ _ _=>us2 λ_ _=>rfl) (.cons (DI.dat rfl rfl rfl rfl rfl rfl rfl rfl zei D26 λ_ _ _ _ _ _=>us3 λ_ _ _=>rfl) (.cons d27 (.cons (DI.dat rfl rfl rfl rfl rfl rfl rfl rfl zkB D28 λ_ _ _ _ _ _=>us1 λ_=>rfl) (.cons (DI.dat rfl rfl rfl rfl rfl rfl rfl rfl zgn D29 λ_ _ _ _ _ _=>us4 λ_ _ _ _=>rfl) (.cons d30 (.cons (DI.dat rfl rfl rfl rfl rfl rfl rfl rfl zkP D31 λ_ _ _ _ _ _=>us2 λ_ _=>rfl) (.cons (DI.dat rfl rfl rfl rfl rfl rfl rfl rfl zmy D32 λ_ _ _ _ _ _=>us2 λ_ _=>rfl) (.cons (DI.dat rfl rfl rfl rfl rfl rfl rfl rfl zmD D33 λ_ _ _ _ _ _=>us2 λ_ _=>rfl) (.cons (DI.dat rfl rfl rfl rfl rfl rfl rfl rfl zls D34 λ_ _ _ _ _ _=>us1 λ_=>rfl) (.cons (DI.dat rfl rfl rfl rfl rfl rfl rfl rfl zpi D35 λ_ _ _ _ _ _=>us1 λ_=>rfl) (.cons (DI.dat rfl rfl rfl rfl rfl rfl rfl rfl znw D36 λ_ _ _ _ _ _=>us1 λ_=>rfl) (.cons (DI.dat rfl rfl rfl rfl rfl rfl rfl rfl ze9 D37 λ_ _ _ _ _ _=>us3 λ_ _ _=>rfl) (.cons (DI.dat rfl rfl rfl rfl rfl rfl rfl rfl zkf D38 λ_ _ _ _ _ _=>us2 λ_ _=>rfl) (.cons (DI.dat rfl rfl rfl rfl rfl rfl rfl rfl ztX D39 λ_ _ _ _ _ _=>us1 λ_=>rfl) (.cons (MI.dat rfl rfl rfl rfl rfl rfl rfl rfl zc4 D40 λ_ _ _ _ _ _=>us2 λ_ _=>rfl) (.cons (MI.dat rfl rfl rfl rfl rfl rfl rfl rfl ze7 D41 λ_ _ _ _ _ _=>us2 λ_ _=>rfl) (.cons (MI.dat rfl rfl rfl rfl rfl rfl rfl rfl zcd D42 λ_ _ _ _ _ _=>us2 λ_ _=>rfl) (.cons (MI.dat rfl rfl rfl rfl rfl rfl rfl rfl zbx D43 λ_ _ _ _ _ _=>us2 λ_ _=>rfl) (.nil _)))))))))))))))))))))))))))))))))))))))))))
   have z:=DL.get (v0:=v1) L fi e
   rw [Nat.zero_add] at z
   exact z
  ·exact FL.get (show FL mg fns [f1,f2,f3,f4,f5,f6,f7,f8,f9,f10,f11,f12,f13,f14,f15,f16,f17,f18,f19,f20,f21,f22,f23,f24,f25,f26,f27,f28,f29,f30,f31,f32,f33,f34,f35,f36,f37,f38,fa,f40,f41,f42,f43] P from .cons (D1.mg X G) rfl rfl (.cons (D2.mg X G) rfl rfl (.cons (D3.mg X G) rfl rfl (.cons (D4.mg X G) rfl rfl (.cons (D5.mg X G) rfl rfl (.cons (D6.mg X G) rfl rfl (.cons (D7.mg X G) rfl rfl (.cons (D8.mg X G) rfl rfl (.cons (D9.mg X G) rfl rfl (.cons (D10.mg X G) rfl rfl (.cons (D11.mg X G) rfl rfl (.cons (D12.mg X G) rfl rfl (.cons (D13.mg X G) rfl rfl (.cons (D14.mg X G) rfl rfl (.cons (D15.mg X G) rfl rfl (.cons (D16.mg X G) rfl rfl (.cons (D17.mg X G) rfl rfl (.cons (D18.mg X G) rfl rfl (.cons (D19.mg X G) rfl rfl (.cons (D20.mg X G) rfl rfl (.cons (PySem.W.mg_of X G a21) rfl rfl (.cons (D22.mg X G) rfl rfl (.cons (D23.mg X G) rfl rfl (.cons (D24.mg X G) rfl rfl (.cons (D25.mg X G) rfl rfl (.cons (D26.mg X G) rfl rfl (.cons (PySem.W.mg_of X G a27) rfl rfl (.cons (D28.mg X G) rfl rfl (.cons (D29.mg X G) rfl rfl (.cons (PySem.W.mg_of X G a30) rfl rfl (.cons (D31.mg X G) rfl rfl (.cons (D32.mg X G) rfl rfl (.cons (D33.mg X G) rfl rfl (.cons (D34.mg X G) rfl rfl (.cons (D35.mg X G) rfl rfl (.cons (D36.mg X G) rfl rfl (.cons (D37.mg X G) rfl rfl (.cons (D38.mg X G) rfl rfl (.cons (D39.mg X G) rfl rfl (.nil _ _)))))))))))))))))))))))))))))))))))))))) fi e
  ·intro ci hc
   unfold cls at hc
   simp only [List.mem_cons,List.not_mem_nil,or_false] at hc
   rcases hc with rfl | rfl
   ·exact ⟨Qt,_,PySem.W.mg_of X G Qs,Qs,⟨Qm,Qo,Ql,Qr⟩,⟨Qn,D40.a,D40.j,Qq⟩,rfl,rfl⟩
   ·exact ⟨Qb1,_,PySem.W.mg_of X G Qa1,Qa1,⟨Qv,Qw,Qx,Qu⟩,⟨Qz,D41.a,D41.j,Qy⟩,rfl,rfl⟩
  ·intro ci hc
   unfold cls at hc
   simp only [List.mem_cons,List.not_mem_nil,or_false] at hc
   rcases hc with rfl | rfl
   ·intro pm hp
    simp at hp
   ·intro pm hp
    simp only [List.mem_cons,List.not_mem_nil,or_false] at hp
    rcases hp with rfl | rfl
    ·exact ⟨Qb1,_,Qa1,⟨Qv,Qw,Qx,Qu⟩,⟨D42.a,D42.j,D42.k⟩,rfl,rfl⟩
    ·exact ⟨Qb1,_,Qa1,⟨Qv,Qw,Qx,Qu⟩,⟨D43.a,D43.j,D43.k⟩,rfl,rfl⟩
  ·intro ci hc
   unfold cls at hc
   simp only [List.mem_cons,List.not_mem_nil,or_false] at hc
   rcases hc with rfl | rfl
   ·intro fl hf A hA
    cases (Qs.symm.trans hA)
    simp only [List.mem_cons,List.not_mem_nil,or_false] at hf
    rcases hf with rfl | rfl | rfl | rfl | rfl | rfl
    ·exact Qa
    ·exact Qc
    ·exact Qd
    ·exact Qh
    ·exact Qe
    ·exact Qb
   ·intro fl hf A hA
    cases (Qa1.symm.trans hA)
    simp only [List.mem_cons,List.not_mem_nil,or_false] at hf
    rcases hf with rfl | rfl | rfl | rfl | rfl | rfl
    ·exact Qj
    ·exact Qk
    ·exact Qp
    ·exact Qi
    ·exact Qg
    ·exact Qf
 obtain ⟨_,_,E,_,_⟩:=D39
 subst E
 exact ⟨_,λs v=>.of_eq rfl,λbase _ _=>zj8 T 14 38 _ rfl⟩
theorem walk {l:PySem.W.OpenLaw} {q:Program} {loose:List Str} {XP:(Str->Option Value)->Heap->Prop} {YP:World->Heap->Prop} {d:DefRec} {K:Params->PySem.W.Frag} (hn:l.most=some 63) (hdf:d.params.defaults=[])
  (hY:∀ (w:World) (h:Heap),YP w h->(K w.params).In h)
  (F:∀ (w:World) (mg:Str->Option Value) (fa:Addr) (h:Heap),(K w.params).In h->h.Ns mainGlobals mg->mg d.name=some (.ref fa) →
   ∃ fd:FuncData,(∀ (s:Shared) (u:Value),BindsTo s fd ⟨[u],[]⟩ [("_law_script",u)])/\∀ base:Heap,(K w.params).In base->base.Ns mainGlobals mg->FnOk l.prog w (K w.params) mg base CX0 28 fa fd ["_law_script"] (spF (K w.params) 1 (zah P 14 38))) :
  PySem.W.WalkO q loose XP YP l.row.toRowW d [] (λf vs=>PySem.call f vs):=
 L2.walk_of (n:=63) (k:=28) (x:="_law_script") (CX:=λ_=>CX0) (sp:=λw=>spF (K w.params) 1 (zah P 14 38)) hn (by decide) hdf ⟨rfl,by decide,by decide⟩ hY F
  (λ_ _ a ns hl _ hS=>zjS hS (znf hl)) λ_ _ _ _ _ z=>z
end K43
open PySem PySem.W PyProof.Rows
inductive PySem.W.Fast:Prop|tw5126137423762241693|tw6188963009757661694|tw12493178379694272176|tw4946081540884909895|tw13681943278708637863|tw16157437512813659474|tw5164948858845927876|tw10053933174960511075|tw1043100569811121505|tw1648808232178621621|tw12713739749537873183|tw13360765177769127853|tw2900346725033738854|tw8152818330282372993|tw657710187978646181|tw271577789693049730|tw11708595928417525663|tw9077443448635009379|tw2419258676575755715|tw4030439968905766250|tw10833023323494223469|tw8227290992407660313|tw13237815764845205186|tw11926904464980620671|tw15765803241066996433|tw8609475882656011239|tw10531224273872139977|tw2252718904559754912|tw16119975339597656897|tw2426383628673102732|tw1023056372261788287|tw18166619972541557818|tw8235497306269068953|tw14478792042030069045|tw4473807516957255725|tw460527042092864637|tw2526108669464335042|tw1667223506257003308|tw9175192676250884859|tw2497826037187264118|tw5740969899074831281|tw1085973673233445594|tw15456380530140335020|tw1633174511477590909|tw165279389634593225|tw1470572695163139617|tw15190346372401859291|tw17846222676346729065|tw5619144243386391703|tw7212899567773375169|tw11414414795664496926|tw3054344734621173153|tw3112836283202638787|tw15740713567084853687|tw18445797989548965238|tw9563362200789528834|tw16644892435893079565|tw14048406294214356319|tw13979451420596608275|tw16813749452593194265|tw6261729785145811155|tw2627065666435930501|tw630497555409932693|tw17475198977710963499|tw12966609683456771500|tw2737586297347005938|tw7833883008402490775|tw15062754748963143544|tw5367239862082682095|tw7640685541905193436|tw4467143259998148076|tw3075837130703790556|tw12926134045201955264|tw3190261259254425754|tw843196906162204417|tw9542306138169949590|tw10075458897434077206|tw4428507775558278520|tw17668522745542961728|tw6150205590093921483|tw16193059320575085456|tw5753456101109991474|tw706732332922156400|tw11117915572114672147|tw13873066669409687575|tw11374242959110491529|tw2928539768133860055|tw6371201548726649755|tw9474457869441352548|tw7369374864975280110|tw9928961498764794917|tw7345175864040878546|tw6191789878088818052|tw7246247053286125699|tw5879071774255458315|tw17402700587799850363|tw9938621534730148853|tw8873990328236026842|tw18006003735407179633|tw8771200985043495655|tw8827676871882579434|tw6493641129592154486|tw6841006134541579997|tw7458963527902514010|tw5531472336903761648|tw12302574372941085634|tw6872699922128637956|tw9958021440782226305|tw611434828562665092|tw14870096772977827207|tw446091580412175957|tw16344496817894212022|tw12113959987011469250|tw14675190986872886304|tw13095376853143449905|tw15854671562223823885|tw1436707761870461262|tw4091607306093177006|tw4911383168970429080|tw3335871375520512398|tw14798669249311150970|tw4288239559831414283|tw15744572798976735058|tw12440469133637064504|tw2821503767891105645|tw14326291940408551745|tw5675897398711515629|tw11849120147570920522|tw179181587329957368|tw15563325594949023610|tw1984316334354335160|tw18424680499384766579|tw5128002868067436854|tw18045275415534270577|tw7385626050948847004|tw3040726576227942348|tw1084631423847577093|tw4291594534340019474|tw10522142253753450688|tw17301607578061018914|tw3968952049864829573|tw12865133437819610380|tw10187620839928689695|tw15639006485574462925|tw11525506209738982131|tw9721507601722694310|tw14249010949917980114|tw17976030764313070971|tw8420698299334367340|tw2797314041416867871|tw4329507068457512118|tw9739946942306432838|tw5547794143396379539|tw1280038282499014418|tw6386678057234470648|tw15545402361168711452|tw13369061340635204278|tw9972034517890860851|tw10085079383002321270|tw7341545798618947687|tw15362193777706168332|tw9547081158955526534|tw7776705409325315836|tw17756319277685696153|tw1181052536147821368|tw5071375011669413005|tw5213253781933912312|tw11301376361440569143|tw9000787450790573785|tw12613006095188209153|tw6801365604301407731|tw3851516229861660702|tw17716884617159723251|tw2272617801384359138|tw16620290183282949754|tw14832885995402870259|tw1244170952408499984|tw4895439148764021109|tw10382813860438822984|tw13418218411951771532|tw8889700601907765836|tw14253231645537013747|tw15756951693895496815|tw6979208178213645248|tw5411729756419168477|tw3799266584362635852|tw17183047284204195728|tw15829132116939338043|tw8289518516917286162|tw11985602793447916251|tw2200630435029235301|tw8032746316822232861|tw10722286028761204851|tw4813106713163884730|tw8612832035404683402|tw15331390367466682269|tw8275522340135389915|tw11522209930154334622|tw5839005580370536759|tw9303955444187478561|tw9695956208408731009|tw17860307335327881261|tw5846375426998314278|tw8096385399435087733|tw15034533475220737102|tw17128075336130545888|tw17629222079417673611|tw6024508223291542204|tw9139304182858512242|tw11136414284529759106|tw12190406852186225979|tw17871196727138301696|tw16216915610444139098|tw15561422863326798020|tw7468558534130986818|tw15353752148568010397|tw3199950535441959237|tw1776500829873230975|tw12285470614687133090|tw200124218474182526|tw5544850687668795443|tw17728123404780993745|tw12572546950480765856|tw14611231982617913896|tw7514461146368100352|tw1533969919997039624|tw6169268598251955871|tw6402048217512712643|tw7950223146585241821|tw4240505793565399327|tw3783902637418083074|tw9452479547470071360|tw3030457575823168089|tw6285510010164649254|tw12593799891682542887|tw5464250606172477973|tw12351656784849290682|tw3663411622921892107|tw336047995955916675|tw1121537976132431523|tw11277415078459499710|tw14695207292882448632|tw5858097357246716865|tw7088318056397944424|tw4114827986834607773|tw307090760771471788|tw7261449932008151902|tw18281659418646091416|tw16004756237913440072|tw10851491180266630973|tw6012343479723528942|tw15312858460099179745|tw8256147650196181223|tw1435377835906300636|tw16205337661251610498|tw6243629271559323196|tw13141937539387225033|tw7892576992644531500|tw7720420746426851457|tw397354163524008561|tw6652569770835714590|tw13791006098689412596|tw14094310143908092283|tw12566681072817475166|tw12444089728716666013|tw17313948844330698222|tw16994975761029070763|tw17135390014281437983|tw5499204322961653940|tw15305002439539762734|tw17188791094946524062|tw5496570125631700097|tw5063545438077657989|tw7604534077231539940|tw5298483348290059562|tw113086549519463171|tw12418147079493134116|tw16202612017013347168|tw11548721087645042928|tw17216077877617418444|tw8796380037663451505|tw9797801584214782697|tw7618569046473241898|tw9155526916968112819|tw15278530156940372029|tw6384372973218937271|tw4376964741959710100|tw7768378431612668609|tw16092001391241070742|tw14521951474455922946|tw18178283370980351143|tw18214147058933256043|tw4151916037155505354|tw1957010846857377155|tw11623824554704084836|tw13246063854087211199|tw3300097511713324414|tw8488363959299029434|tw15082780663484679616|tw4351479574986207061|tw8194556114148018346|tw1038166759911262211|tw910535033008182638|tw9387608111163407838|tw226288708015046197|tw14819208403206172024|tw6329749605769237474|tw6495383410458616746|tw8807162750103065570|tw14796833045515511116|tw9804545796513367264|tw10190831516663484015|tw13372480282951332400|tw16282217460574264284|tw4276236296700163157|tw18112454655225667753|tw14902988357024242565|tw4939473319647605933|tw14158149635211700931|tw4644736054519209418|tw2587865420661570530|tw2584001613836310707|tw16491933740453926084|tw2310768764833091849|tw5513943177547529125|tw14300061673102838233|tw9251334146736282529|tw825342545684382038|tw12655874182148417953|tw11027171425834002914|tw16224762175194957777|tw13476968710102659244|tw10782984672198822930|tw3393105822589860427|tw6823795083033313807|tw5828959532670369103|tw7197883704233471794|tw146061951106622851|tw13482277226619033062
set_option maxRecDepth 100000 in
set_option maxHeartbeats 0 in
theorem PySem.Challenge.cw_copyclerk_k43_may_clash_or_be_stuck_holds : PySem.Challenge.rw_copyclerk_k43_may_clash_or_be_stuck.Holds := by
 w_on;o_law;z_head;(case hw=>w_witness2)
 k_fill
 refine IT.toX (λ_=>rfl) (K43.walk (l:=PySem.Challenge.rw_copyclerk_k43_may_clash_or_be_stuck) rfl rfl (λw h Y=>Y) ?F)
 case F=>
  intro w mg fa h KX G hmg
  refine' K43.all_mk KX G hmg ?D1 ?D2 ?D3 ?D4 ?D5 ?D6 ?D7 ?D8 ?D9 ?D10 ?D11 ?D12 ?D13 ?D14 ?D15 ?D16 ?D17 ?D18 ?D19 ?D20 ?D21 ?D22 ?D23 ?D24 ?D25 ?D26 ?D27 ?D28 ?D29 ?D30 ?D31 ?D32 ?D33 ?D34 ?D35 ?D36 ?D37 ?D38 ?D39 ?D40 ?D41 ?D42 ?D43 ?Qs ?Qm ?Qo ?Ql ?Qr ?Qn ?Qq ?Qa ?Qc ?Qd ?Qh ?Qe ?Qb ?Qa1 ?Qv ?Qw ?Qx ?Qu ?Qz ?Qy ?Qj ?Qk ?Qp ?Qi ?Qg ?Qf ?y1 ?x0 ?y2 ?x1 ?x2 ?y3 ?y4 ?x3 ?xd0 ?y5 ?y6 ?y7 ?yd0 ?hd0_0 ?hd0_1 ?hd0_2 ?w21 ?w27 ?w30 ?z1 ?z2 ?z3 ?z4 ?z5 ?z6 ?z7 ?z8 ?z9 ?z10 ?z11 ?z12 ?z13 ?z14 ?z15 ?z16 ?z17
  (case Qs=>k_is)
  (case Qa1=>k_is)
  all_goals (try (apply K43.DI.mk (e:=rfl)<;>k_is))
  all_goals (try (apply K43.MI.mk (e:=rfl)<;>k_is))
  (case Qm=>k_is)
  (case Qo=>k_is)
  (case Ql=>k_is)
  (case Qr=>k_is)
  (case Qn=>k_is)
  (case Qq=>k_is)
  (case Qa=>k_is)
  (case Qc=>k_is)
  (case Qd=>k_is)
  (case Qh=>k_is)
  (case Qe=>k_is)
  (case Qb=>k_is)
  (case Qv=>k_is)
  (case Qw=>k_is)
  (case Qx=>k_is)
  (case Qu=>k_is)
  (case Qz=>k_is)
  (case Qy=>k_is)
  (case Qj=>k_is)
  (case Qk=>k_is)
  (case Qp=>k_is)
  (case Qi=>k_is)
  (case Qg=>k_is)
  (case Qf=>k_is)
  (case x0=>k_is)
  (case y1=>k_is)
  (case x1=>k_is)
  (case y2=>k_is)
  (case x2=>k_is)
  (case x3=>k_is)
  (case y4=>k_is)
  (case y3=>k_is)
  (case xd0=>k_is)
  (case yd0=>k_is)
  (case y5=>k_is)
  (case y6=>k_is)
  (case y7=>k_is)
  (case w21=>k_is)
  (case w27=>k_is)
  (case w30=>k_is)
  (case z1=>k_is)
  (case z2=>k_is)
  (case z3=>k_is)
  (case z4=>k_is)
  (case z5=>k_is)
  (case z6=>k_is)
  (case z7=>k_is)
  (case z8=>k_is)
  (case z9=>k_is)
  (case z10=>k_is)
  (case z11=>k_is)
  (case z12=>k_is)
  (case z13=>k_is)
  (case z14=>k_is)
  (case z15=>k_is)
  (case z16=>k_is)
  (case z17=>k_is)
  (case hd0_0=>rfl)
  (case hd0_1=>rfl)
  (case hd0_2=>rfl)
