import PyProof.Rows.All
import Wide.All
import OpenK.AllK
import Wide.FinOn
import Lean
import PyProof.EqAt
import PyProof.EqKinds
import PyProof.TupleCall
import PyProof.Rows.TupTab
import PyProof.DictRoadsH
import PyProof.DictTable
import KE.KLam
import KE.KNestM
import PyProof.MeetsStr2
import PyProof.StrLawsTight
import PyProof.StrBlockI
import PyProof.ListMulRoad
import PyProof.ListMulAny
import KE.KIntText
import PyProof.StrWalks
import PyProof.EnumMake
import KE.KIsAll
import KE.KRevSl
import PyProof.ListStr
import PyProof.Rows.FactsN_isinstance
import KE.KDictOf
import PyProof.AttrMiss
import PyProof.WalksMore
import PyProof.FactsAll.tuple
import PyProof.ListRange
import PyProof.Rows.SetFrom
import PyProof.DictItems
import KE.KSortTup
import PyProof.DictIter
import PyProof.DictWalks
import KE.KDictList
import PyProof.Rows.SortShell
import KE.KItemsList
import KE.KUnpack
import PyProof.Rows.CallKwBuiltin
import PyProof.RulesAs
import PyProof.StationsW
import PyProof.ExcClass2
import PyProof.RulesTry
import PyProof.PassesOwn
import OpenK.KRaise
import KE.KTryMore
import PyProof.ExcBaseAll.ValueError
import PyProof.ExcArgs
import PyProof.ExcAttrAll.ValueError
import OpenK.KDescr
import PyProof.NsDelKeeps
import PyProof.ExcInit
import PyProof.FString
import PyProof.AssignAttr
import PySem.Challenge.RW_copyclerk_k02_the_first_row_that_is_none
set_option Elab.async false
set_option autoImplicit true
set_option relaxedAutoImplicit true
set_option linter.all false
local macro_rules |`(def $i:declId $s:optDeclSig $v:declVal)=>`(noncomputable def $i:declId $s:optDeclSig $v:declVal)
local macro_rules |`(abbrev $i:declId $s:optDeclSig $v:declVal)=>`(noncomputable abbrev $i:declId $s:optDeclSig $v:declVal)
open Array renaming length_toList->X5
open Bool renaming and_eq_true->Z9,false_eq_true->ZM,not_eq_true'->ZJ,or_eq_true->Za,false_ne_true->Y8,eq_iff_iff->YW,false_and->Yv,true_and->Yl,and_false->XY,and_true->Xk,not_eq_true->WS,false_or->WL,not_true->V7
open False renaming elim->YS
open ForInStep renaming yield->Ys
open LawfulBEq renaming eq_of_beq->ZP
open List renaming getElem?_eq_some_iff->Z3,getElem?_eq_getElem->Z2,length_map->Z1,replicate->Z0,length_append->ZZ,size_toArray->ZV,map_cons->ZL,getElem?_append_left->ZG,mem_cons->ZE,lookup_cons->ZD,mem_append_right->ZA,length_cons->Zz,mem_cons_of_mem->Zx,getElem?_append_right->Zw,getElem?_set_ne->Zv,mem_append->Zu,getElem?_map->Zs,getD_eq_getElem?_getD->Zr,mem_cons_self->Zq,map_append->Zp,getElem?_set_self->Zo,append_assoc->Zn,length_take->Zm,all_eq_true->Zl,range->Zk,isPrefixOf_iff_prefix->Zj,mem_singleton->Zi,append_nil->Zg,replicate_succ->Zb,take_of_length_le->Y7,length_singleton->Y5,contains_iff_mem->Y4,flatten_cons->Y3,cons_append->YV,length_drop->YU,getElem?_eq_none->YQ,getElem?_take_of_lt->YN,map_map->YM,set_append_right->YB,filterMap_cons->Yr,drop_of_length_le->Yo,not_mem_nil->Yk,drop_zero->Yh,drop_eq_getElem_cons->Yd,foldl_cons->Yb,all_cons->X8,getElem_of_mem->X3,length_pos_iff->X2,getElem?_cons_succ->XX,length_eq_zero_iff->XW,getElem_mem->XV,mem_map->XM,mem_of_mem_drop->Xy,map_nil->Xt,sum_cons->Xj,nodup_cons->Xd,length_nil->Xc,isPrefixOf->Xb,mem_filterMap->W9,getElem?_cons_zero->W4,length->WI,mem_of_mem_take->WG,find?_cons->WB,map_congr_left->Wz,take_succ_cons->Wy,drop_drop->Wq,contains_cons->Wi,drop_left->Wg,map_replicate->Wf,any_cons->V6,map_take->V5,take_length->V2,countP_cons->V0,mem_flatten->VX,isEmpty_iff->VW,any_map->VQ,map_set->VP,of_mem_zip->VN,length_set->VM
open Nat renaming le_refl->ZX,ne_of_lt->ZK,lt_of_lt_of_le->ZF,le_trans->Zc,lt_succ_of_lt->Y2,add_sub_cancel_left->Y0,lt_irrefl->YH,ne_of_gt->X9,zero_le->XE,le_succ->Xx,lt_succ_self->Xr,le_add_right->Xq,mul_le_mul->WX,le_of_lt->VV
open Ne renaming symm->YZ
open Option renaming map_eq_some_iff->ZW,map_some->VJ
open Option.some renaming injEq->Z6,inj->ZR
open Prod.mk renaming injEq->ZS
open PyProof.Rows renaming slot_tuple_getitem->Zd,boot_isinstance->XL,callWith_type1->Wv,AllBare->Wc,IntsAre->Vy
open PyProof.Rows.F renaming plain_set_update_loop->W2
open PySem renaming wpAny_bind->Z7,wpAny_pure->ZY,starEach->ZT,mainGlobals->ZQ,Spec->ZN,wpAny_mono->ZI,Program->ZH,assignEach->Zt,Builtin->Zh,compareOp->Zf,compEnvC->YY,wpAny_holding->YX,call_meets->YR,sizeLine_eq->YK,codeAny_call_builtin->YI,attributeBase->YG,codeAny_builtin->YD,binaryOp->YC,Env->Yz,wpAny_truthy_bool->Yu,foldedSetIterable->Yt,Keyword->Yq,behindInMarks->Yn,keywordEach->Ym,wpAny_loadPart'->Yc,mem_of_lookup->X4,NameKind->X0,wpAny_callSpecial?_slot->XZ,bootBuiltins->XU,codeAny_mono->XT,wpAny_Call_Name_kw->XR,typeIs_str->XQ,wpAny_standAt->XJ,codeAny->XH,wpAny_newObj_type->XG,wpAny_loadPart_at->XF,wpAny_rule->XB,wpAny_call_entry->Xv,wpAny_execs_cons->Xu,swapsWithSole->Xo,swappedStores->Xn,backToKw->Xl,plainId_quiet->Xi,UnaryOp->Xg,letOwnedTupleGo->Xf,wpAny_passesOwn->Xe,swapsWith->W7,sliceBounds->W5,strIterType->W3,wpAny_pyIter_list->WW,BoolOp->WU,wpAny_call->WT,checkBuiltinCall->WO,excClassObj->WH,wpAny_execs_nil->WE,codeAny_of_tree->WC,standAt->Ww,wpAny_binaryOp_repeat_ref->We,PassesOwn->V4,Operator->V3,SetTable->VZ,sysModules->VS,typeIs_int->VR,wpAny_specialOf->VO,wpAny_field->VI,wpAny_of_eq->VH,getItem->VG,callerA->VF,noteFrame->VD,setFlight->VC,OwnTail->VB,isInstance->VA,BindsTo->Vz
open PySem.Around renaming under_plainId->YJ
open PySem.Builtin.List renaming listTooLong->Yw
open PySem.Builtin.Slice renaming slicePlaces->Ye,sliceAdjust->Xp,sliceApplied->Wr
open PySem.Builtin.SmallTypes renaming fitsIndex->WA
open PySem.Builtin.Str renaming strKind->YE
open PySem.Builtin.Tuple renaming tupleHashOf->Yf,tupleExact->X7,tupleItemsOf->XC
open PySem.Calls renaming Name_function_global->XA
open PySem.Challenge renaming rw_copyclerk_k02_the_first_row_that_is_none->YA
open PySem.Code renaming quiet_builtin->W8
open PySem.Data renaming dict->VE
open PySem.F renaming called_set->YL,slot_enumerate_next->XI,slot_tuple_mul->Xs,args_tuple_add_2->Xm,entry_tuple_add->W6,slot_tuple_hash->W0,slot_tuple_add->WZ,attr_ValueError->WV,plain_any_loop->WR,plain_all_loop->WQ,slot_int_rmul->WD,args_tuple_mul_2->Wp,args_str_split_2->Wo,called_enumerate->Wn,excBase_ValueError->Wh,entry_tuple_mul->Wa,entry_str_split->V9,slot_str_split->V1
open PySem.Heap renaming get?_push_of_some->Z4,lt_size->ZU,get?_push_size->ZC,get?_update_other->YT,get?_update_self->Yg,size_push->Xw,get?_none_of_le->WJ,SameBut->Wx,MadeExcOf->Wm
open PySem.NameKind renaming free->WM
open PySem.Obj renaming mapSeq->X6
open PySem.Paired renaming length->WN
open PySem.SeqAt renaming EqAt->Yj,RcAt->XN,RcNeAt->WY
open PySem.Str renaming ofString->Z5,ofString->Yx,length_append->V8,empty_append->VY
open PySem.Value renaming ref->Y9,str->Y1,builtin->Yy,type->Yi,none->XD,bool->Xa
open PySem.W renaming Frag->Z8,nsIn->ZO,mg_none_of->ZB,mg_of->Zy,kitOne->Ze,findIn->Y6,keepIn->YO,hideAll_get->YF,fnOf->Yp,kia_one->Ya,codeIn->Xz,hideAll_none->WK,hideAll->WF,of_hideAll->Wu,callWith_K->Wt,exmOne->Wl,typeIn->Wj,methodObj->Wd,hasDictIn->Wb,OpenLaw->VL
open Sum renaming inl->VU,inr->VT
open True renaming intro->WP
set_option genSizeOfSpec false
set_option maxHeartbeats 8000000
set_option maxRecDepth 100000
local macro_rules | `(tactic|ac_rfl)=>`(tactic|conv=>whnf)
local macro_rules | `(tactic|omega)=>`(tactic|with_reducible first|assumption|exact Nat.succ_le_of_lt (by assumption)|exact Nat.le_of_lt (by assumption)|exact Nat.zero_le _|exact Nat.lt_of_lt_of_le (by assumption) (by assumption)|exact Nat.le_trans (by assumption) (by assumption)|exact Nat.succ_le_succ (by assumption)|fail)
namespace IT
open PySem
inductive D where|non|bl (b:Bool)|int (i:Int)|str (x:List Nat)|tup (xs:List D)|lst (xs:List D)
mutual
noncomputable def D.eqb:D->D->Bool
 |.non,y=>match y with | .non=>true | _=>false
 |.bl a,y=>match y with | .bl b=>a==b | .int b=>(if a then 1 else 0)==b | _=>false
 |.int a,y=>match y with | .int b=>a==b | .bl b=>a==(if b then 1 else 0) | _=>false
 |.str a,y=>match y with | .str b=>a==b | _=>false
 |.tup a,y=>match y with | .tup b=>D.eqbs a b | _=>false
 |.lst a,y=>match y with | .lst b=>D.eqbs a b | _=>false
noncomputable def D.eqbs:List D->List D->Bool
 | [],ys=>match ys with | []=>true | _=>false
 |a::r,ys=>match ys with | b::t=>D.eqb a b&&D.eqbs r t | _=>false
end
mutual
noncomputable def D.dep:D->Nat|.tup xs=>D.deps xs+1|.lst xs=>D.deps xs+1|.non | .bl _ | .int _ | .str _=>0
noncomputable def D.deps:List D->Nat| []=>0|x::xs=>max (D.dep x) (D.deps xs)
end
def zeJ(a b:D):Bool:=decide (min a.dep b.dep<=60)
inductive R where|d (x:D)|loc (l:Nat)
inductive Ob where|lst (xs:List D)|fro (xs:List D)|ins (c:Str) (fs:List (Str×R))|ols (ls:List Nat)|dic (kvs:List (D×D))
def Ob.items:Ob->List D|.lst xs=>xs|.fro xs=>xs|.ins _ _=>[]|.ols _=>[]|.dic _=>[]
def Ob.isL:Ob->Bool|.lst _=>true|.fro _=>true|_=>false
inductive Ite where|r (x:R)|en (i:Int) (x:R)
abbrev dI(x:D):Ite:=.r (.d x)
abbrev Sto:=List Ob
abbrev M(α:Type):=Sto->Option (α×Sto)
def ok{α:Type}(a:α):M α:=λh=>some (a,h)
def bnd{α β:Type}(x:M α)(f:α->M β):M β:=λh=>match x h with|some (a,h1)=>f a h1|none=>none
theorem zad{α:Type}{z:α}{P:Prop}(e:none=some z):P:=by cases e
def rd:R->M D
 |.d x=>ok x
 |.loc l=>λh=>match h[l]? with
  |some o=>if o.isL then some (.lst o.items,h) else none|none=>none
def fz:R->M D
 |.d x=>ok x
 |.loc l=>λh=>match h[l]? with
  |some o=>if o.isL then some (.lst o.items,h.set l (.fro o.items)) else none|none=>none
inductive Bo where|add | sub | mul | fdiv | mod
inductive Co where|eq | ne | lt | le | gt | ge | isin | notin | isN | isnotN
inductive Bi where|len | sum | tuple | int | all | any | max | min | str
inductive Me where|append | extend
inductive Ty where|int | str | bool | list | tuple
inductive Tm where|starts | parti | join
inductive Lm where|countT
inductive Tg where|name (i:Nat)|tup (ts:List Tg)
set_option genInjectivity false
mutual
inductive E where|con (d:D)|var (i:Nat)|bin (o:Bo) (a b:E)|neg (a:E)|cmp (o:Co) (a b:E)|and (a b:E)|or (a b:E)|not (a:E)|ife (c:T) (a b:E)|tup (es:List E)|lst (m:Bool) (l:L)|idx (a i:E)|sli (a lo hi:E)|call (f:Nat) (es:List E)|bi (b:Bi) (es:List E)|me (m:Me) (o:E) (es:List E)|glo (d:D)|isi (t:Ty) (e:E)|tm (m:Tm) (o:E) (es:List E)|lm (m:Lm) (o a:E)|lstO (tg:Tg) (it:I) (c:List T) (el:E)|dnew|din (neg:Bool) (k d:E)|lset (e:E)|stuck
inductive T where|val (e:E)|and (a b:T)|or (a b:T)|not (a:T)
inductive L where|disp (es:List E)|comp (tg:Tg) (it:I) (c:List T) (el:E)|of (e:E)|cat (a b:E)|spl (a b:E)
inductive I where|seq (e:E)|rng (e:E)|enk (k:Nat) (e:E)
end
set_option genInjectivity true
def big:Nat:=16777216
def fit(n:Nat):Bool:=decide (n<=big)
def zgV(i:Int):Bool:=Nat.ble i.natAbs 18446744073709551615
theorem zdA{i:Int}:zgV i=true↔-(2^64)<i/\i<2^64:=by unfold zgV;rw[Nat.ble_eq];omega
def wide:Int:=1000000000000000000000000000000000000000000000000000000000000
def bop:Bo->D->D->Option D
 |.add,.int a,.int b=>some (.int (a+b))|.sub,.int a,.int b=>some (.int (a-b))
 |.mul,.int a,.int b=>if zgV a||zgV b then some (.int (a*b)) else none
 |.fdiv,.int a,.int b=>if decide (0<b)&&decide (b<wide) then some (.int (a / b)) else none|.mod,.int a,.int b=>if decide (0<b) then some (.int (a%b)) else none|.add,.str a,.str b=>if fit (a.length+b.length) then some (.str (a++b)) else none|.add,.lst a,.lst b=>if fit (a.length+b.length) then some (.lst (a++b)) else none|.add,.tup a,.tup b=>if fit (a.length+b.length) then some (.tup (a++b)) else none|.mul,.str a,.int b=>if decide (0<=b)&&decide (b<=1000)&&decide (a.length<=1000) then some (.str (Z0 b.toNat a).flatten) else none|.mul,.lst a,.int b=>if decide (0<=b)&&decide (b<=1000)&&decide (a.length<=1000) then some (.lst (Z0 b.toNat a).flatten) else none
 |.mul,.tup a,.int b=>if a.isEmpty||decide (b<0)||decide (2^24<b)||!fit (a.length*b.toNat) then none else some (.tup (Z0 b.toNat a).flatten)
 |_,_,_=>none
def catS(sep:List Nat):List (List Nat)->List Nat| []=>[]|x::xs=>x++(xs.map λy=>sep++y).flatten
def fnd(y:List Nat):List Nat->Option Nat
 | []=>if y.isPrefixOf [] then some 0 else none
 |c::r=>if y.isPrefixOf (c::r) then some 0 else match fnd y r with
  |some i=>some (i+1)|none=>none
def splS(y:List Nat):Nat->List Nat->List (List Nat)
 |0,x=>[x]
 |n+1,x=>match fnd y x with
  |some i=>x.take i::splS y n (x.drop (i+y.length))|none=>[x]
def txts:List D->Option (List (List Nat))
 | []=>some []
 |.str x::r=>match txts r with
  |some l=>some (x::l)|none=>none
 |_::_=>none
def zgw:D->Bool|.non=>true|_=>false
def items:D->Option (List D)|.tup xs=>some xs|.lst xs=>some xs|_=>none
def zdH:D->Option (List D)|.tup xs=>some xs|.lst xs=>some xs|.str x=>if fit x.length then some (x.map λc=>.str [c]) else none|_=>none
def cop:Co->D->D->Option D
 |.eq,a,b=>if zeJ a b then some (.bl (a.eqb b)) else none|.ne,a,b=>if zeJ a b then some (.bl (!a.eqb b)) else none|.lt,.int a,.int b=>some (.bl (decide (a<b)))|.le,.int a,.int b=>some (.bl (decide (a<=b)))|.gt,.int a,.int b=>some (.bl (decide (b<a)))|.ge,.int a,.int b=>some (.bl (decide (b<=a)))
 | .isin,a,b=>match items b with
  |some xs=>if decide (a.dep<=60) then some (.bl (xs.any λy=>y.eqb a)) else none
  |none=>match b,a with
   |.str x,.str y=>some (.bl (fnd y x).isSome)|_,_=>none
 | .notin,a,b=>match items b with
  |some xs=>if decide (a.dep<=60) then some (.bl (!(xs.any λy=>y.eqb a))) else none
  |none=>match b,a with
   |.str x,.str y=>some (.bl (!(fnd y x).isSome))|_,_=>none
 |.isN,a,.non=>some (.bl (zgw a))|.isnotN,a,.non=>some (.bl (!zgw a))|.isN,.bl a,.bl b=>some (.bl (a==b))|.isnotN,.bl a,.bl b=>some (.bl (a != b))|_,_,_=>none
def ixn(n:Nat)(i:Int):Option Nat:=if 0<=i then(if i<n then some i.toNat else none) else if -(n:Int)<=i then some (i+n).toNat else none
def at'{α:Type}(xs:List α)(i:Int):Option α:=match ixn xs.length i with|some j=>xs[j]?|none=>none
def idxD:D->D->Option D
 |.tup xs,.int i=>at' xs i|.lst xs,.int i=>at' xs i
 |.str z,.int i=>if fit z.length then(match at' z i with
  |some c=>some (.str [c])
  |none=>none) else none
 |_,_=>none
def catD:D->D->Option (List D)|.lst a,.lst b=>if fit (a.length+b.length) then some (a++b) else none|_,_=>none
def sIx(n d:Nat):Option Int->Nat|none=>d|some v=>if v<0 then(v+(n:Int)).toNat else min v.toNat n
def cut{α:Type}(xs:List α)(lo hi:Option Int):List α:=(xs.drop (sIx xs.length 0 lo)).take (sIx xs.length xs.length hi-sIx xs.length 0 lo)
def part:D->Option (Option Int)|.non=>some none|.int i=>some (some i)|_=>none
def cutD(x:D)(lo hi:Option Int):Option D:=match x with|.tup xs=>some (.tup (cut xs lo hi))|.lst xs=>some (.lst (cut xs lo hi))|.str xs=>if fit xs.length then some (.str (cut xs lo hi)) else none|_=>none
def sliD(x l u:D):Option D:=match part l,part u with|some lo,some hi=>cutD x lo hi|_,_=>none
def sumI:List D->Option Int
 | []=>some 0
 |.int a::r=>match sumI r with
  |some s=>some (a+s)|none=>none
 |_=>none
def tru:D->Option Bool|.non=>some false|.bl b=>some b|.int i=>some (i != 0)|.str x=>if fit x.length then some (!x.isEmpty) else none|.tup xs=>some (!xs.isEmpty)|.lst xs=>some (!xs.isEmpty)
def zas:List D->Option (List Bool)
 | []=>some []
 | d::r=>match tru d with
  |some b=>match zas r with
   |some s=>some (b::s)|none=>none
  |none=>none
def isiD:Ty->D->Bool|.int,.int _=>true|.int,.bl _=>true|.str,.str _=>true|.bool,.bl _=>true|.list,.lst _=>true|.tuple,.tup _=>true|_,_=>false
def decS(n:Int):List Nat:=if n<0 then 45::(Nat.toDigits 10 n.natAbs).map Char.toNat else(Nat.toDigits 10 n.natAbs).map Char.toNat
def digS(x:List Nat):Bool:=!x.isEmpty&&x.all λc=>decide (48<=c)&&decide (c<=57)
def valS(x:List Nat):Nat:=x.foldl (λacc c=>acc*10+(c-48)) 0
def intS(x:List Nat):Option Int:=match x with| []=>none|c::r=>if c=45 then(if digS r then some (-(valS r:Int)) else none) else if digS (c::r) then some (valS (c::r):Int) else none
def biD:Bi->List D->Option D
 |.len,[.tup xs]=>some (.int xs.length)|.len,[.lst xs]=>some (.int xs.length)|.len,[.str xs]=>if fit xs.length then some (.int xs.length) else none
 |.sum,[.lst xs]=>match sumI xs with
  |some s=>some (.int s)|none=>none
 |.tuple,[.lst xs]=>some (.tup xs)|.tuple,[.tup xs]=>some (.tup xs)|.int,[.bl b]=>some (.int (if b then 1 else 0))|.int,[.int i]=>some (.int i)
 |.all,[.lst xs]=>match zas xs with
  |some bs=>some (.bl (bs.all id))|none=>none
 |.any,[.lst xs]=>match zas xs with
  |some bs=>some (.bl (bs.any id))|none=>none
 |.int,[.str x]=>if decide (x.length<=640) then(match intS x with
  |some i=>some (.int i)
  |none=>none) else none
 |.str,[.str x]=>some (.str x)|.str,[.int i]=>if decide (i.natAbs<2^200) then some (.str (decS i)) else none|.max,[.int i,.int j]=>some (.int (if j>i then j else i))|.min,[.int i,.int j]=>some (.int (if j<i then j else i))|_,_=>none
def tmD:Tm->D->List D->Option D
 |.starts,.str x,[.str y]=>some (.bl (y.isPrefixOf x))
 |.parti,.str x,[.str y]=>if y.isEmpty||!fit x.length then none else some (.tup (match fnd y x with
  |some i=>[.str (x.take i),.str y,.str (x.drop (i+y.length))]
  |none=>[.str x,.str [],.str []]))
 | .join,.str z,[d]=>match items d with
  |some xs=>match txts xs with
   |some l=>if fit (l.map λy=>y.length+z.length).sum then some (.str (catS z l)) else none|none=>none
  |none=>none
 |_,_,_=>none
def ded(ts:List (List Nat)):List (List Nat):=ts.foldl (λacc x=>if acc.contains x then acc else acc++[x]) []
def zec(d:D):Option D:=match d with
 |.tup xs=>match txts xs with
  |some ts=>if decide (ts.length<4000) then some (.int (ded ts).length) else none|none=>none
 |_=>none
def lmD:Lm->D->D->Option D|.countT,.tup xs,d=>if decide (d.dep<=60) then some (.int (xs.countP λy=>y.eqb d)) else none|_,_,_=>none
def splD:D->D->Option (List D)
 |.str x,.str y=>if y.isEmpty||!fit (x.length+1)||!fit (splS y x.length x).length then none else some ((splS y x.length x).map D.str)
 |_,_=>none
abbrev Env:=List (Option R)
mutual
noncomputable def zaF:Tg->R->Env->M Env
 |.name i,r,σ=>ok (σ.set i (some r))
 |.tup ts,r,σ=>bnd (rd r) λd=>match d with
  |.tup xs=>bindTs ts xs σ
  |_=>λ_=>none
noncomputable def bindTs:List Tg->List D->Env->M Env
 | [],xs,σ=>match xs with
  | []=>ok σ
  |_=>λ_=>none
 |t::ts,xs,σ=>match xs with
  |x::xs=>bnd (zaF t (.d x) σ) λσ'=>bindTs ts xs σ'
  |_=>λ_=>none
end
def zan:Tg->Ite->Env->M Env
 |tg,.r x,σ=>zaF tg x σ
 |.tup [a,b],.en i x,σ=>bnd (zaF a (.d (.int i)) σ) λσ'=>zaF b x σ'
 |_,_,_=>λ_=>none
mutual
noncomputable def D.same:D->D->Bool
 |.non,y=>match y with | .non=>true | _=>false
 |.bl a,y=>match y with | .bl b=>a==b | _=>false
 |.int a,y=>match y with | .int b=>a==b | _=>false
 |.str a,y=>match y with | .str b=>a==b | _=>false
 |.tup a,y=>match y with | .tup b=>D.sames a b | _=>false
 |.lst a,y=>match y with | .lst b=>D.sames a b | _=>false
noncomputable def D.sames:List D->List D->Bool
 | [],ys=>match ys with | []=>true | _=>false
 |a::r,ys=>match ys with | b::t=>D.same a b&&D.sames r t | _=>false
end
mutual
theorem D.same_eq:∀x y:D,D.same x y=true->x=y|.non,.non,_=>rfl|.bl a,.bl b,h=>by simp[D.same] at h;rw[h]|.int a,.int b,h=>by simp[D.same] at h;rw[h]|.str a,.str b,h=>by simp[D.same] at h;rw[h]|.tup a,.tup b,h=>by simp[D.same] at h;rw[D.sames_eq a b h]|.lst a,.lst b,h=>by simp[D.same] at h;rw[D.sames_eq a b h]|.non,.bl _,h | .non,.int _,h | .non,.str _,h | .non,.tup _,h | .non,.lst _,h=>by simp[D.same] at h|.bl _,.non,h | .bl _,.int _,h | .bl _,.str _,h | .bl _,.tup _,h | .bl _,.lst _,h=>by simp[D.same] at h|.int _,.non,h | .int _,.bl _,h | .int _,.str _,h | .int _,.tup _,h | .int _,.lst _,h=>by simp[D.same] at h|.str _,.non,h | .str _,.bl _,h | .str _,.int _,h | .str _,.tup _,h | .str _,.lst _,h=>by simp[D.same] at h|.tup _,.non,h | .tup _,.bl _,h | .tup _,.int _,h | .tup _,.str _,h | .tup _,.lst _,h=>by simp[D.same] at h|.lst _,.non,h | .lst _,.bl _,h | .lst _,.int _,h | .lst _,.str _,h | .lst _,.tup _,h=>by simp[D.same] at h
theorem D.sames_eq:∀x y:List D,D.sames x y=true->x=y| [],[],_=>rfl|a::r,b::t,h=>by simp[D.sames] at h;rw[D.same_eq a b h.1,D.sames_eq r t h.2]| [],_::_,h=>by simp[D.sames] at h|_::_,[],h=>by simp[D.sames] at h
end
mutual
theorem D.same_refl:∀x:D,D.same x x=true|.non=>rfl|.bl a=>by simp[D.same]|.int a=>by simp[D.same]|.str a=>by simp[D.same]|.tup a=>by simp[D.same];exact D.sames_refl a|.lst a=>by simp[D.same];exact D.sames_refl a
theorem D.sames_refl:∀x:List D,D.sames x x=true| []=>rfl|a::r=>by simp[D.sames];exact⟨D.same_refl a,D.sames_refl r⟩
end
mutual
noncomputable def D.hk:D->Bool|.int _=>true|.str _=>true|.tup xs=>D.hks xs|.non | .bl _ | .lst _=>false
noncomputable def D.hks:List D->Bool| []=>true|x::r=>D.hk x&&D.hks r
end
def za7:D->Bool|.tup xs=>D.hks xs&&decide (D.deps xs<=6)|_=>false
def dGet(k:D):List (D×D)->Option D| []=>none|p::r=>if p.1.same k then some p.2 else dGet k r
def dPut(k v:D):List (D×D)->List (D×D)| []=>[(k,v)]|p::r=>if p.1.same k then(p.1,v)::r else p::dPut k v r
def zbz:List (D×D)->List (D×D)->Bool
 | [],ys=>ys.isEmpty
 |p::r,ys=>match ys with
  |q::t=>p.1.same q.1&&p.2.same q.2&&zbz r t| []=>false
def Ob.same:Ob->Ob->Bool
 |.dic a,o=>match o with
  |.dic b=>zbz a b|_=>false
 |.ols a,o=>match o with
  |.ols b=>a==b|_=>false
 |.ins _ _,_=>false|.lst a,o=>o.isL&&D.sames a o.items|.fro a,o=>o.isL&&D.sames a o.items
def zaE(l:Option Nat)(h h':Sto):Bool:=match l with
 |none=>true
 |some l=>match h[l]?,h'[l]? with
  |some o,some o'=>o.same o'|_,_=>false
def za1{α:Type}(l:Option Nat)(f:Ite->M (Option α)):List Ite->M (List α)
 | []=>ok []
 |x::xs=>λh=>match f x h with
  |some (o,h1)=>if zaE l h h1 then bnd (za1 l f xs) (λys=>ok (match o with | some y=>y::ys | none=>ys)) h1 else none|none=>none
def zbg(lo:Int):Nat->List D|0=>[]|n+1=>.int lo::zbg (lo+1) n
def opt{α:Type}(o:Option α):M α:=λh=>match o with|some a=>some (a,h)|none=>none
def alloc(xs:List D):M R:=λh=>some (.loc h.length,h++[.lst xs])
structure Wk where
 xs:List Ite
 l:Option Nat
def wkOf(r:R)(d:D):M Wk:=match items d with
 |some xs=>ok ⟨xs.map dI,match r with | .loc l=>some l | .d _=>none⟩
 |none=>match d with
  |.str x=>if fit x.length then ok ⟨(x.map λc=>D.str [c]).map dI,none⟩ else λ_=>none
  |_=>λ_=>none
def zcW(r:R):M (Option (List Nat)):=λh=>match r with
 |.loc l=>match h[l]? with
  |some (.ols ls)=>some (some ls,h)|_=>some (none,h)
 |.d _=>some (none,h)
def zaP(r:R):M Wk:=bnd (zcW r) λo=>match o with
 |some ls=>ok ⟨ls.map λl=>.r (.loc l),match r with | .loc l=>some l | .d _=>none⟩
 |none=>bnd (rd r) λd=>wkOf r d
def zaz(i:Int):List Ite->Option (List Ite)
 | []=>some []
 |.r x::t=>match zaz (i+1) t with
  |some l=>some (.en i x::l)|none=>none
 |.en _ _::_=>none
def isLs:R->Bool|.loc _=>true|.d (.lst _)=>true|_=>false
def zhp(k:Nat)(r:R):M Wk:=if isLs r&&decide (k<1000) then bnd (zaP r) λw=>match zaz k w.xs with
  |some l=>ok ⟨l,w.l⟩
  |none=>λ_=>none
 else λ_=>none
def zft(r:R):M Wk:=match r with
 |.d (.int n)=>if decide (-(2^62)<=n)&&decide (n<=16777216) then ok ⟨(zbg 0 n.toNat).map dI,none⟩ else λ_=>none
 |_=>λ_=>none
mutual
noncomputable def Tg.slots:Tg->List Nat|.name i=>[i]|.tup ts=>Tg.slotss ts
noncomputable def Tg.slotss:List Tg->List Nat| []=>[]|t::ts=>t.slots++Tg.slotss ts
end
def clr:List Nat->Env->Env| [],σ=>σ|i::r,σ=>clr r (σ.set i none)
abbrev Calls:=Nat->List R->M R
def zcX(x:R):M Unit:=λh=>match x with
 |.loc l=>match h[l]? with
  |some o=>if o.isL then some ((),h) else none|none=>none
 |.d _=>none
def dRd(x:R):M (List (D×D)):=λh=>match x with
 |.loc l=>match h[l]? with
  |some (.dic kvs)=>some (kvs,h)|_=>none
 |.d _=>none
def dNew:M R:=λh=>some (.loc h.length,h++[.dic []])
def kRd(x:R):M D:=λh=>match x with|.d k=>if za7 k then some (k,h) else none|.loc _=>none
def dSet(x:R)(k v:D):M Unit:=λh=>match x with
 |.loc l=>match h[l]? with
  |some (.dic kvs)=>if decide (kvs.length<big) then some ((),h.set l (.dic (dPut k v kvs))) else none|_=>none
 |.d _=>none
def zcE(x:R):M Nat:=λh=>match x with
 |.loc l=>match h[l]? with
  |some (.ins _ _)=>some (l,h)|some (.lst _)=>some (l,h)|_=>none
 |.d _=>none
def allocO(ls:List Nat):M R:=λh=>some (.loc h.length,h++[.ols ls])
def meth:Me->R->List R->M R
 |.append,.loc l,[r]=>bnd (fz r) λd h=>match h[l]? with
  |some (.lst xs)=>if decide (xs.length<big) then some (.d .non,h.set l (.lst (xs++[d]))) else none|_=>none
 | .extend,.loc l,[r]=>bnd (rd r) λd h=>match d with
  |.lst ys=>match h[l]? with
   |some (.lst xs)=>if fit (xs.length+ys.length) then some (.d .non,h.set l (.lst (xs++ys))) else none|_=>none
  |_=>none
 |_,_,_=>λ_=>none
mutual
noncomputable def ev(Γ:Calls):E->Env->M R
 |.con d,_=>ok (.d d)
 |.var i,σ=>λh=>match σ[i]? with
  |some (some r)=>some (r,h)|_=>none
 |.bin o a b,σ=>bnd (ev Γ a σ) λx=>bnd (ev Γ b σ) λy=>bnd (rd x) λx=>bnd (rd y) λy=>bnd (opt (bop o x y)) λz=>ok (.d z)
 |.neg a,σ=>bnd (ev Γ a σ) λx=>match x with
  |.d (.int i)=>ok (.d (.int (-i)))
  |_=>λ_=>none
 |.cmp o a b,σ=>bnd (ev Γ a σ) λx=>bnd (ev Γ b σ) λy=>bnd (rd x) λx=>bnd (rd y) λy=>bnd (opt (cop o x y)) λz=>ok (.d z)
 |.and a b,σ=>bnd (ev Γ a σ) λx=>match x with
  |.d (.bl c)=>if c then ev Γ b σ else ok (.d (.bl false))
  |_=>λ_=>none
 |.or a b,σ=>bnd (ev Γ a σ) λx=>match x with
  |.d (.bl c)=>if c then ok (.d (.bl true)) else ev Γ b σ
  |_=>λ_=>none
 |.not a,σ=>bnd (ev Γ a σ) λx=>bnd (rd x) λd=>bnd (opt (tru d)) λt=>ok (.d (.bl (!t)))
 |.ife c a b,σ=>bnd (tv Γ c σ) λt=>if t then ev Γ a σ else ev Γ b σ
 |.tup es,σ=>bnd (evs Γ es σ) λrs=>bnd (fzs rs) λds=>ok (.d (.tup ds))
 |.lst m l,σ=>bnd (evL Γ l σ) λxs=>if m then alloc xs else ok (.d (.lst xs))
 |.idx a i,σ=>bnd (ev Γ a σ) λx=>bnd (ev Γ i σ) λy=>bnd (rd x) λx=>bnd (rd y) λy=>bnd (opt (idxD x y)) λz=>ok (.d z)
 |.sli a lo hi,σ=>bnd (ev Γ a σ) λx=>bnd (ev Γ lo σ) λl=>bnd (ev Γ hi σ) λu=>bnd (rd x) λx=>bnd (rd l) λl=>bnd (rd u) λu=>bnd (opt (sliD x l u)) λz=>ok (.d z)
 |.call f es,σ=>bnd (evs Γ es σ) λrs=>Γ f rs
 |.bi b es,σ=>bnd (evs Γ es σ) λrs=>bnd (rds rs) λds=>bnd (opt (biD b ds)) λz=>ok (.d z)
 |.me m o es,σ=>bnd (ev Γ o σ) λx=>bnd (zcX x) λ_=>bnd (evs Γ es σ) λrs=>meth m x rs
 |.glo d,_=>ok (.d d)
 |.isi t e,σ=>bnd (ev Γ e σ) λr=>bnd (rd r) λd=>ok (.d (.bl (isiD t d)))
 |.lset e,σ=>bnd (ev Γ e σ) λr=>bnd (rd r) λd=>bnd (opt (zec d)) λz=>ok (.d z)
 |.tm m o es,σ=>bnd (ev Γ o σ) λx=>bnd (evs Γ es σ) λrs=>bnd (rd x) λd=>bnd (rds rs) λds=>bnd (opt (tmD m d ds)) λz=>ok (.d z)
 |.lm m o a,σ=>bnd (ev Γ o σ) λx=>bnd (rd x) λ_=>bnd (ev Γ a σ) λy=>bnd (rd x) λx=>bnd (rd y) λy=>bnd (opt (lmD m x y)) λz=>ok (.d z)
 |.lstO tg it c el,σ=>bnd (evI Γ it σ) λw=>bnd (za1 w.l (λx=>bnd (zan tg x (clr tg.slots σ)) λσ'=>bnd (tvs Γ c σ') λt=>if t then bnd (ev Γ el σ') λr=>bnd (zcE r) λd=>ok (some d) else ok none) w.xs) λls=>allocO ls
 |.dnew,_=>dNew
 |.din neg k d,σ=>bnd (ev Γ k σ) λy=>bnd (ev Γ d σ) λx=>bnd (dRd x) λkvs=>bnd (kRd y) λk=>ok (.d (.bl (if neg then !(dGet k kvs).isSome else(dGet k kvs).isSome)))
 |.stuck,_=>λ_=>none
noncomputable def evs(Γ:Calls):List E->Env->M (List R)
 | [],_=>ok []
 |e::es,σ=>bnd (ev Γ e σ) λr=>bnd (evs Γ es σ) λrs=>ok (r::rs)
noncomputable def tv(Γ:Calls):T->Env->M Bool
 |.val e,σ=>bnd (ev Γ e σ) λr=>bnd (rd r) λd=>opt (tru d)
 |.and a b,σ=>bnd (tv Γ a σ) λt=>if t then tv Γ b σ else ok false
 |.or a b,σ=>bnd (tv Γ a σ) λt=>if t then ok true else tv Γ b σ
 |.not a,σ=>bnd (tv Γ a σ) λt=>ok (!t)
noncomputable def tvs(Γ:Calls):List T->Env->M Bool
 | [],_=>ok true
 |c::cs,σ=>bnd (tv Γ c σ) λt=>if t then tvs Γ cs σ else ok false
noncomputable def evL(Γ:Calls):L->Env->M (List D)
 |.disp es,σ=>bnd (evs Γ es σ) λrs=>fzs rs
 |.comp tg it c el,σ=>bnd (evI Γ it σ) λw=>za1 w.l (λx=>bnd (zan tg x (clr tg.slots σ)) λσ'=>bnd (tvs Γ c σ') λt=>if t then bnd (ev Γ el σ') λr=>bnd (fz r) λd=>ok (some d) else ok none) w.xs
 |.of e,σ=>bnd (ev Γ e σ) λr=>bnd (rd r) λd=>opt (zdH d)
 |.spl a b,σ=>bnd (ev Γ a σ) λx=>bnd (ev Γ b σ) λy=>bnd (rd x) λx=>bnd (rd y) λy=>opt (splD x y)
 |.cat a b,σ=>bnd (ev Γ a σ) λx=>bnd (ev Γ b σ) λy=>bnd (rd x) λx=>bnd (rd y) λy=>opt (catD x y)
noncomputable def evI(Γ:Calls):I->Env->M Wk
 |.seq e,σ=>bnd (ev Γ e σ) λr=>zaP r
 |.rng e,σ=>bnd (ev Γ e σ) λr=>zft r
 |.enk k e,σ=>bnd (ev Γ e σ) λr=>zhp k r
noncomputable def fzs:List R->M (List D)
 | []=>ok []
 |r::rs=>bnd (fz r) λd=>bnd (fzs rs) λds=>ok (d::ds)
noncomputable def rds:List R->M (List D)
 | []=>ok []
 |r::rs=>bnd (rd r) λd=>bnd (rds rs) λds=>ok (d::ds)
end
set_option genInjectivity false in
inductive S where|asg (tg:Tg) (e:E)|setI (o i e:E)|exp (e:E)|ife (c:T) (a b:List S)|for (tg:Tg) (it:I) (body:List S)|ret (e:E)|brk|cnt|setD (o k e:E)|unp (is:List Nat) (e:E)|raiN (c:Nat) (e:E)|tryb (e:E) (c j o m:Nat)|stuck
inductive Fl where|nx | ret (r:R) | brk | cnt
def raN(c:Nat)(r:R):M R:=match r with
 |.d (.int k)=>if k.natAbs<2^200 then ok (.d (.tup [.int c,.int k])) else λ_=>none
 |_=>λ_=>none
def numE(c:Nat)(r:R):Option Int:=match r with|.d (.tup [.int x,.int k])=>if x=(c:Int) then some k else none|_=>none
def tryN(c m:Nat)(f g:Env->M R):Env->M (Fl×Env):=λσ h=>match f σ h with
 |some (_,h1)=>some ((.nx,σ),h1)
 | none=>match g σ h with
  | some (r,h1)=>match numE c r with
   |some k=>match σ[m]? with
    |some (some (.d (.int n)))=>some ((.ret (.d (.bl (k==n))),σ),h1)|_=>none
   |none=>none
  |none=>none
def zdU(x:R)(i:D)(d:D):M Unit:=λh=>match x,i with
 | .loc l,.int k=>match h[l]? with
  |some (.lst xs)=>match ixn xs.length k with
   |some j=>some ((),h.set l (.lst (xs.set j d)))|none=>none
  |_=>none
 |_,_=>none
def zdu:List Nat->List D->Env->Option Env
 | [],xs,σ=>match xs with
  | []=>some σ|_=>none
 |i::is,xs,σ=>match xs with
  |x::xs=>zdu is xs (σ.set i (some (.d x)))| []=>none
def lsOf(d:D):Option (List D):=match d with|.lst xs=>some xs|_=>none
def loop(l:Option Nat)(f:Ite->Env->M (Fl×Env)):List Ite->Env->M (Fl×Env)
 | [],σ=>ok (.nx,σ)
 | x::xs,σ=>λh=>match f x σ h with
  |some ((fl,σ1),h1)=>match fl with
   |.ret r=>some ((.ret r,σ1),h1)|.brk=>some ((.nx,σ1),h1)|_=>if zaE l h h1 then loop l f xs σ1 h1 else none
  |none=>none
def xof(f:Nat):Nat:=f+1000
def evC(Γ:Calls)(e:E)(σ:Env):M R:=match e with
 |.call f es=>bnd (evs Γ es σ) λrs=>Γ (xof f) rs
 |_=>λ_=>none
def evX(Γ:Calls)(e:E)(σ:Env):M R:=λh=>match e with
 |.tup es=>match es with
  | [a,b,c]=>bnd (ev Γ a σ) (λ_=>bnd (ev Γ b σ) λ_=>evC Γ c σ) h|_=>none
 |_=>none
mutual
noncomputable def ex(Γ:Calls):S->Env->M (Fl×Env)
 |.asg tg e,σ=>bnd (ev Γ e σ) λr=>bnd (zaF tg r σ) λσ'=>ok (.nx,σ')
 |.setI o i e,σ=>bnd (ev Γ e σ) λr=>bnd (ev Γ o σ) λx=>bnd (ev Γ i σ) λy=>bnd (fz r) λd=>bnd (rd y) λy=>bnd (zdU x y d) λ_=>ok (.nx,σ)
 |.exp e,σ=>bnd (ev Γ e σ) λ_=>ok (.nx,σ)
 |.ife c a b,σ=>bnd (tv Γ c σ) λt=>if t then exs Γ a σ else exs Γ b σ
 |.for tg it body,σ=>bnd (evI Γ it σ) λw=>loop w.l (λx σ=>bnd (zan tg x σ) λσ'=>exs Γ body σ') w.xs σ
 |.ret e,σ=>bnd (ev Γ e σ) λr=>ok (.ret r,σ)
 |.brk,σ=>ok (.brk,σ)|.cnt,σ=>ok (.cnt,σ)
 |.setD o k e,σ=>bnd (ev Γ e σ) λr=>bnd (ev Γ o σ) λx=>bnd (ev Γ k σ) λy=>bnd (fz r) λd=>bnd (kRd y) λk=>bnd (dSet x k d) λ_=>ok (.nx,σ)
 |.unp is e,σ=>bnd (ev Γ e σ) λr=>bnd (rd r) λd=>bnd (opt (lsOf d)) λxs=>bnd (opt (zdu is xs σ)) λσ'=>ok (.nx,σ')
 |.raiN _ _,_=>λ_=>none
 |.tryb e c _ _ m,σ=>tryN c m (ev Γ e) (evC Γ e) σ
 |.stuck,_=>λ_=>none
noncomputable def exs(Γ:Calls):List S->Env->M (Fl×Env)
 | [],σ=>ok (.nx,σ)
 |s::r,σ=>bnd (ex Γ s σ) λp=>match p.1 with
  |.nx=>exs Γ r p.2|_=>ok p
end
def zb9(l:Option Nat)(f:Ite->Env->M (Fl×Env))(g:Ite->Env->M R):List Ite->Env->M R
 | [],_=>λ_=>none
 | x::xs,σ=>λh=>match f x σ h with
  |some ((fl,σ1),h1)=>match fl with
   |.nx=>if zaE l h h1 then zb9 l f g xs σ1 h1 else none|.cnt=>if zaE l h h1 then zb9 l f g xs σ1 h1 else none|_=>none
  |none=>g x σ h
mutual
noncomputable def exX(Γ:Calls):S->Env->M R
 |.asg _ _,_=>λ_=>none
 |.ife c a b,σ=>bnd (tv Γ c σ) λt=>if t then exXs Γ a σ else exXs Γ b σ
 |.for tg it body,σ=>bnd (evI Γ it σ) λw=>zb9 w.l (λx σ=>bnd (zan tg x σ) λσ'=>exs Γ body σ') (λx σ=>bnd (zan tg x σ) λσ'=>exXs Γ body σ') w.xs σ
 |.setI _ _ _,_=>λ_=>none
 |.exp _,_=>λ_=>none
 |.ret e,σ=>evX Γ e σ
 |.brk,_=>λ_=>none
 |.cnt,_=>λ_=>none
 |.setD _ _ _,_=>λ_=>none
 |.unp _ _,_=>λ_=>none
 |.raiN c e,σ=>bnd (ev Γ e σ) λr=>raN c r
 |.tryb _ _ _ _ _,_=>λ_=>none
 |.stuck,_=>λ_=>none
noncomputable def exXs(Γ:Calls):List S->Env->M R
 | [],_=>λ_=>none
 | s::r,σ=>λh=>match ex Γ s σ h with
  |some ((fl,σ1),h1)=>match fl with
   |.nx=>exXs Γ r σ1 h1|_=>none
  |none=>exX Γ s σ h
end
structure F where
 np:Nat
 ns:Nat
 body:List S
 keep:Bool
 dfl:List D
 all:Bool:=false
 lam:Bool:=false
def zar(np:Nat)(dfl:List D)(rs:List R):List R:=if rs.length+dfl.length<np then rs else rs++(dfl.drop (rs.length+dfl.length-np)).map R.d
def R.same:R->R->Bool
 |.d x,y=>match y with
  |.d z=>D.same x z|_=>false
 |.loc l,y=>match y with
  |.loc k=>l==k|_=>false
def zch:List (Str×R)->List (Str×R)->Bool
  | [],ys=>ys.isEmpty
  | (f,x)::r,ys=>match ys with
    |(g,y)::t=>f==g&&x.same y&&zch r t| []=>false
def objs:Sto->Sto->Bool
 | [],_=>true
 | o::h,h1=>match h1 with
  | []=>false
  |o1::t=>(match o,o1 with
   |.ins c fs,.ins c1 fs1=>c==c1&&zch fs fs1|.ols a,.ols b=>a==b|.dic a,.dic b=>zbz a b|.lst _,.lst _=>true|.lst _,.fro _=>true|.fro _,.lst _=>true|.fro _,.fro _=>true
   |_,_=>false)&&objs h t
def fin0(n0:Nat)(keep:Bool)(r:R)(h1:Sto):Option (R×Sto):=match r with
 |.d x=>some (.d x,h1.take n0)
 |.loc l=>if l<n0 then some (.loc l,h1.take n0) else match h1[l]? with
  |some (.lst xs)=>if keep then some (.loc n0,h1.take n0++[.lst xs]) else some (.d (.lst xs),h1.take n0)|some (.fro xs)=>some (.d (.lst xs),h1.take n0)|_=>none
def fin(h:Sto)(all keep:Bool)(r:R)(h1:Sto):Option (R×Sto):=if all then some (r,h1) else if objs h h1 then fin0 h.length keep r h1 else none
def finX(h:Sto)(all keep:Bool)(r:R)(h1:Sto):Option (R×Sto):=match r with
 |.d (.int c)=>fin h all keep (.d (.int c)) h1
 |.d (.tup [.int c,.int k])=>match fin h all keep (.d (.int c)) h1 with
  |some (_,h2)=>some (.d (.tup [.int c,.int k]),h2)|none=>none
 |_=>none
def zaf(P:List F):Nat->Calls
 |0,_,_=>λ_=>none
 | n + 1,f,rs=>λh=>match P[f]? with
  | some F=>if(zar F.np F.dfl rs).length=F.np then match exs (zaf P n) F.body ((zar F.np F.dfl rs).map some++Z0 (F.ns-F.np) none) h with
    |some ((.ret r,_),h1)=>fin h F.all F.keep r h1|some ((.nx,_),h1)=>fin h F.all F.keep (.d .non) h1|_=>none
   else none
  | none=>match P[f-1000]? with
   | some F=>if(zar F.np F.dfl rs).length=F.np then match exXs (zaf P n) F.body ((zar F.np F.dfl rs).map some++Z0 (F.ns-F.np) none) h with
     |some (r,h1)=>finX h F.all F.keep r h1|none=>none
    else none
   |none=>none
theorem zaC(P:List F)(n f:Nat)(rs:List R)(h:Sto):zaf P (n+1) f rs h=match P[f]? with
  | some F=>if(zar F.np F.dfl rs).length=F.np then match exs (zaf P n) F.body ((zar F.np F.dfl rs).map some++Z0 (F.ns-F.np) none) h with
    |some ((.ret r,_),h1)=>fin h F.all F.keep r h1|some ((.nx,_),h1)=>fin h F.all F.keep (.d .non) h1|_=>none
   else none
  | none=>match P[f-1000]? with
   | some F=>if(zar F.np F.dfl rs).length=F.np then match exXs (zaf P n) F.body ((zar F.np F.dfl rs).map some++Z0 (F.ns-F.np) none) h with
     |some (r,h1)=>finX h F.all F.keep r h1|none=>none
    else none
   |none=>none:=rfl
theorem zcB{P:List F}{n f:Nat}{rs:List R}{h:Sto}{F:F}(hP:P.length<=1000)(e:P[f]?=some F):zaf P (n+1) (xof f) rs h=if(zar F.np F.dfl rs).length=F.np then match exXs (zaf P n) F.body ((zar F.np F.dfl rs).map some++Z0 (F.ns-F.np) none) h with|some (r,h1)=>finX h F.all F.keep r h1|none=>none
 else none:=by
 rw[zaC]
 have e1:P[xof f]?=none:=YQ (by unfold xof;omega)
 have e2:xof f-1000=f:=by unfold xof;omega
 simp only[e1,e2,e]
end IT
namespace IT
open PySem
def zaa(x:List Nat):Str:=⟨x.toArray⟩
theorem zag(x:List Nat):(zaa x).length=x.length:=by simp[zaa,Str.length]
theorem zby(h:zaa x=zaa y):x=y:=by
 have:=congrArg (λs:Str=>s.cps.toList) h
 simpa[zaa] using this
theorem zk2(x y:List Nat):zaa x++zaa y=zaa (x++y):=by show Str.append _ _=_;simp[zaa,Str.append]
mutual
noncomputable def KAt(h:Heap):D->Value->Prop|.int i,u=>∃t,u=.int i t|.str x,u=>∃t,u=.str (zaa x) t|.tup xs,u=>∃a its,u=.ref a/\h.IsTuple a its/\KAts h xs its.toList|.non,_=>False|.bl _,_=>False|.lst _,_=>False
noncomputable def KAts(h:Heap):List D->List Value->Prop| [],us=>us=[]|x::xs,us=>∃u r,us=u::r/\KAt h x u/\KAts h xs r
end
mutual
noncomputable def zji(w:World):D->Int|.int i=>hashInt i|.str x=>hashStr w (zaa x)|.tup xs=>reduceHash (Yf (kHashs w xs))|.non=>0|.bl _=>0|.lst _=>0
noncomputable def kHashs(w:World):List D->List Int| []=>[]|x::xs=>zji w x::kHashs w xs
end
mutual
noncomputable def zfM:D->Nat|.tup xs=>kDrawss xs+1|.int _=>1|.str _=>1|.non=>1|.bl _=>1|.lst _=>1
noncomputable def kDrawss:List D->Nat| []=>0|x::xs=>zfM x+kDrawss xs
end
theorem zdv:∀xs ys:List D,kDrawss (xs++ys)=kDrawss xs+kDrawss ys| [],ys=>by simp[kDrawss]|x::xs,ys=>by simp only[YV,kDrawss,zdv xs ys];omega
theorem zep(w:World):∀xs ys:List D,kHashs w (xs++ys)=kHashs w xs++kHashs w ys| [],ys=>rfl|x::xs,ys=>by simp only[YV,kHashs,zep w xs ys]
mutual
theorem KAt.keep(k:∀a its,h.IsTuple a its->h'.IsTuple a its):∀(x:D) (u:Value),KAt h x u->KAt h' x u|.int _,_,q=>by simp only[KAt] at q⊢;exact q|.str _,_,q=>by simp only[KAt] at q⊢;exact q|.tup xs,_,q=>by simp only[KAt] at q⊢;obtain⟨a,its,e,t,r⟩:=q;exact⟨a,its,e,k a its t,KAts.keep k xs _ r⟩|.non,_,q=>by simp only[KAt] at q|.bl _,_,q=>by simp only[KAt] at q|.lst _,_,q=>by simp only[KAt] at q
theorem KAts.keep(k:∀a its,h.IsTuple a its->h'.IsTuple a its):∀(x:List D) (u:List Value),KAts h x u->KAts h' x u| [],_,q=>by simp only[KAts] at q⊢;exact q|x::xs,_,q=>by simp only[KAts] at q⊢;obtain⟨u,r,e,q1,q2⟩:=q;exact⟨u,r,e,KAt.keep k x u q1,KAts.keep k xs r q2⟩
end
theorem zes{h:Heap}(p:h.IsTuple a xs)(q:h.IsTuple a ys):xs=ys:=by
 obtain⟨o,e,_,n,d⟩:=p;obtain⟨o',e',_,n',d'⟩:=q
 rw[e] at e';cases e';rw[d] at d';cases d';rfl
mutual
theorem KAt.inj{h:Heap}:∀(x y:D) (u:Value),KAt h x u->KAt h y u->x=y
 |.int a,y,u,p,q=>by
  simp only[KAt] at p;obtain⟨t,rfl⟩:=p
  cases y<;>simp[KAt] at q
  rw[q]
 |.str a,y,u,p,q=>by
  simp only[KAt] at p;obtain⟨t,rfl⟩:=p
  cases y<;>simp[KAt] at q
  rw[zby q]
 | .tup a,y,u,p,q=>by
  simp only[KAt] at p;obtain⟨c,its,rfl,t,r⟩:=p
  cases y with
  |tup b=>
   simp only[KAt] at q;obtain⟨c',its',e,t',r'⟩:=q;cases e
   have:=zes t t'
   subst this;rw[KAts.inj a b _ r r']
  |_=>simp[KAt] at q
 |.non,_,_,p,_=>by simp only[KAt] at p|.bl _,_,_,p,_=>by simp only[KAt] at p|.lst _,_,_,p,_=>by simp only[KAt] at p
theorem KAts.inj:∀(x y:List D) (u:List Value),KAts h x u->KAts h y u->x=y| [],[],_,_,_=>rfl| [],_::_,_,p,q=>by simp only[KAts] at p q;subst p;obtain⟨_,_,e,_⟩:=q;cases e|_::_,[],_,p,q=>by simp only[KAts] at p q;subst q;obtain⟨_,_,e,_⟩:=p;cases e|x::xs,y::ys,_,p,q=>by simp only[KAts] at p q;obtain⟨u,r,rfl,p1,p2⟩:=p;obtain⟨u',r',e,q1,q2⟩:=q;cases e;rw[KAt.inj x y u p1 q1,KAts.inj xs ys r p2 q2]
end
theorem KAts.length:∀{x:List D} {u:List Value},KAts h x u->x.length=u.length| [],_,q=>by simp only[KAts] at q;subst q;rfl|x::xs,_,q=>by simp only[KAts] at q;obtain⟨u,r,rfl,_,q⟩:=q;simp only[Zz,KAts.length q]
theorem KAts.at:∀{x:List D} {u:List Value},KAts h x u->∀(j:Nat) (d:D),x[j]?=some d->∃v,u[j]?=some v/\KAt h d v
 | [],_,_,j,d,e=>by simp at e
 |x::xs,_,q,j,d,e=>by
  simp only[KAts] at q;obtain⟨u,r,rfl,q1,q2⟩:=q
  cases j with|zero=>simp at e;subst e;exact⟨u,rfl,q1⟩|succ j=>simp at e;simpa using KAts.at q2 j d e
theorem zha:∀{xs:List D} {x:D} {i:Nat},xs[i]?=some x->x.dep<=D.deps xs
 | [],x,i,e=>by simp at e
 |y::xs,x,i,e=>by
  cases i with|zero=>simp at e;subst e;simp only[D.deps];omega|succ i=>simp at e;have:=zha e;simp only[D.deps];omega
def zc9(xs ys:List D)(j:Nat):Bool:=match xs[j]?,ys[j]? with|some x,some y=>x.same y|_,_=>false
theorem zfR:∀xs ys:List D,((Zk (min xs.length ys.length)).all (zc9 xs ys)&&xs.length==ys.length)=D.sames xs ys
 | [],[]=>rfl| [],_::_=>by simp[D.sames]|_::_,[]=>by simp[D.sames]
 |x::xs,y::ys=>by
  have ih:=zfR xs ys
  have e:min (x::xs).length (y::ys).length=min xs.length ys.length+1:=by simp only[Zz];omega
  rw[e,List.range_succ_eq_map,X8,List.all_map,D.sames,<-ih]
  have e2:(zc9 (x::xs) (y::ys)∘Nat.succ)=zc9 xs ys:=by funext j;rfl
  rw[e2];show(x.same y&&_&&_)=_;rw[Bool.and_assoc]
  congr 2
  simp
theorem zmJ{x y:D}(h:x≠y):x.same y=false:=by
 cases e:x.same y
 ·rfl
 ·exact absurd (D.same_eq x y e) h
open SeqAt in
theorem kEq{s:Shared}:∀(n:Nat) (x y:D) (A:Around) (u v:Value),x.dep<=n->KAt s.heap x u->KAt s.heap y v->A.units+n<cLine->EqAt A s u v (x.same y)
 |n,.int a,y,A,u,v,hn,p,q,hu=>by
  simp only[KAt] at p;obtain⟨t,rfl⟩:=p
  cases y with|int b=>simp only[KAt] at q;obtain⟨t',rfl⟩:=q;exact EqAt.int_int a t b t'|str b=>simp only[KAt] at q;obtain⟨t',rfl⟩:=q;exact EqAt.int_str a t _ t'|tup b=>simp only[KAt] at q;obtain⟨c,its,rfl,t',_⟩:=q;exact EqAt.int_tuple a t t' (by omega)|_=>simp[KAt] at q
 | n, .str a,y,A,u,v,hn,p,q,hu=>by
  simp only[KAt] at p;obtain⟨t,rfl⟩:=p
  cases y with
  |int b=>simp only[KAt] at q;obtain⟨t',rfl⟩:=q;exact EqAt.str_int _ t b t'
  | str b=>
   simp only[KAt] at q;obtain⟨t',rfl⟩:=q
   have z:=EqAt.str_str (A:=A) (s:=s) (zaa a) t (zaa b) t'
   have e:(zaa a==zaa b)=(D.str a).same (D.str b):=by
    show _=(a==b)
    by_cases h:a=b
    ·subst h;simp
    ·rw[beq_eq_false_iff_ne.mpr h,beq_eq_false_iff_ne.mpr λz=>h (zby z)]
   rw[e] at z;exact z
  |tup b=>simp only[KAt] at q;obtain⟨c,its,rfl,t',_⟩:=q;exact EqAt.str_tuple _ t t' (by omega)|_=>simp[KAt] at q
 | n, .tup a,y,A,u,v,hn,p,q,hu=>by
  simp only[KAt] at p;obtain⟨c,its,rfl,t,r⟩:=p
  cases y with
  |int b=>simp only[KAt] at q;obtain⟨t',rfl⟩:=q;exact EqAt.tuple_int b t' t (by omega)|str b=>simp only[KAt] at q;obtain⟨t',rfl⟩:=q;exact EqAt.tuple_str _ t' t (by omega)
  | tup b=>
   simp only[KAt] at q;obtain⟨c',its',rfl,t',r'⟩:=q
   by_cases hc:c=c'
   ·subst hc
    have e1:=zes t t';subst e1;have e2:=KAts.inj a b _ r r';subst e2;exact(show D.same (.tup a) (.tup a)=true from D.same_refl _)▸EqAt.same _
   ·refine EqAt.of_refs hc ?_
    match n,hn with
    |0,hn=>simp only[D.dep] at hn;omega
    | n + 1,hn=>
     have l1:=r.length;have l2:=r'.length
     have z:=RcAt.tuples (A:=A) (e:=zc9 a b) t t' (by omega) (λj h1 h2=>by
      have j1:j<a.length:=by rw[l1];simpa using h1
      have j2:j<b.length:=by rw[l2];simpa using h2
      obtain⟨w,e3,k3⟩:=r.at j _ (Z2 j1);obtain⟨w',e4,k4⟩:=r'.at j _ (Z2 j2);have hd:=zha (Z2 j1)
      have ih:=kEq n (a[j]) (b[j]) A.in1 w w' (by simp only[D.dep] at hn;omega) k3 k4 (by show A.units+1+n<cLine;omega)
      have e5:zc9 a b j=(a[j]).same (b[j]):=by simp[zc9,Z2 j1,Z2 j2]
      rw[e5]
      have e6:its[j]=w:=by
       have:=Z3.mp e3
       obtain⟨_,e⟩:=this
       simpa using e
      have e7:its'[j]=w':=by
       obtain⟨_,e⟩:=Z3.mp e4
       simpa using e
      rw[e6,e7]
      exact ih)
     have e8:((Zk (min its.size its'.size)).all (zc9 a b)&&its.size==its'.size)=D.sames a b:=by rw[<-zfR,l1,l2];simp
     rw[e8] at z;exact z
  |_=>simp[KAt] at q
 |_,.non,_,_,_,_,_,p,_,_=>by simp only[KAt] at p|_,.bl _,_,_,_,_,_,p,_,_=>by simp only[KAt] at p|_,.lst _,_,_,_,_,_,p,_,_=>by simp only[KAt] at p
theorem zef{s:Shared}(t:s.heap.IsTuple a its):s.TypeIs (.ref a) "tuple":=let ⟨o,e,c,_⟩:=t;⟨o,e,c⟩
section
variable {prog:ZH}{w:World}{E:Value->Shared->Prop}
theorem zh6:∀(n:Nat) (x:D) (A:Around) (s:Shared) (u:Value) (Q:Int->Shared->Prop),x.dep<=n->KAt s.heap x u->A.units+n<cLine->Q (zji w x) {s with toks:=s.toks+zfM x} →
  wpAny (model prog w) A (pyHash u) Q E s
 |n,.int a,A,s,u,Q,hn,p,hu,q=>by simp only[KAt] at p;obtain⟨t,rfl⟩:=p;exact wpAny_pyHash_int q|n,.str a,A,s,u,Q,hn,p,hu,q=>by simp only[KAt] at p;obtain⟨t,rfl⟩:=p;exact wpAny_pyHash_str q|0,.tup a,A,s,u,Q,hn,p,hu,q=>by simp only[D.dep] at hn;omega
 | n + 1,.tup a,A,s,u,Q,hn,p,hu,q=>by
  simp only[KAt] at p;obtain⟨c,its,rfl,t,r⟩:=p;have T:=zef t;obtain⟨o,ho,_,m,hd⟩:=t
  have hdep:D.deps a<=n:=by simp only[D.dep] at hn;omega
  unfold pyHash
  first | unfold pyHashByItsType | skip
  first | refine Z7 (wpAny_cRoomFor_or (.inr (show A.units<cLine by omega)) ?_) | skip
  refine Z7 (VO T W0.lookup ?_);show wpAny _ _ (if(some (Yy "tuple.__hash__")==some XD)=true then _ else _) Q E _
  rw[if_neg (by rw[beq_builtin_none];exact Y8)]
  refine Z7 (VO T W0.lookup ?_);show wpAny _ _ (callSpecialIfBoundUnlessNone? (.ref c) "__hash__" _ >>= _) Q E _;refine Z7 (wpAny_callSpecialIfBoundUnlessNone?_slot T W0 (Xv W0 T F.entry_tuple_hash ?_ (F.args_tuple_hash_1 _)));show wpAny _ A.in1 (XC (.ref c) >>= _) _ _ _;refine Z7 (wpAny_tupleItemsOf ho hd (Z7 ?_));rw[<-Array.forIn_toList];refine wpAny_forIn_list _ (λrest (b:Array Int) s1=>∃done left,a=done++left/\KAts s.heap left rest/\b.toList=kHashs w done/\s1={s with toks:=s.toks+kDrawss done}) _ ?_ ?_ _ _ ⟨[],a,rfl,r,rfl,rfl⟩
  ·rintro v rest b s1 ⟨done,left,rfl,hl,hb,rfl⟩
   cases left with
   |nil=>simp only[KAts] at hl;cases hl
   | cons k ks=>
    simp only[KAts] at hl;obtain⟨v',rest',ez,k1,k2⟩:=hl;cases ez
    have hk:k.dep<=n:=by
     have:=zha (xs:=done++k::ks) (x:=k) (i:=done.length) (by simp)
     omega
    refine Z7 (zh6 n k A.in1 _ v _ hk k1 (by show A.units+1+n<cLine;omega) ?_)
    have fin:∃d2 l2,done++k::ks=d2++l2/\KAts s.heap l2 rest/\(b.push (zji w k)).toList=kHashs w d2/\({s with toks:=s.toks+kDrawss done+zfM k}:Shared)={s with toks:=s.toks+kDrawss d2}:=⟨done++[k],ks,by simp,k2,by simp[hb,zep,kHashs],by simp[zdv,kDrawss,Nat.add_assoc]⟩
    first | exact ZY fin | exact Z7 (ZY (ZY fin))
  ·rintro b s1 ⟨done,left,rfl,hl,hb,rfl⟩
   cases left with
   |cons k ks=>simp only[KAts] at hl;obtain⟨_,_,ez,_⟩:=hl;cases ez
   | nil=>
    rw[Zg] at q;show wpAny _ _ (retInt (Yf b.toList)) _ _ _;rw[hb];refine wpAny_ret_mkInt ?_
    have q2:Q (reduceHash (Yf (kHashs w done))) {s with toks:=s.toks+(kDrawss done+1)}:=by simp only[zji,zfM] at q;exact q
    clear q;unfold reduceHash at q2;generalize Yf (kHashs w done)=z at q2⊢;show wpAny _ _ (if(decide (-(2:Int)^63<=z)&&decide (z<2^63))=true then _ else _) Q E _
    by_cases hr:(decide (-(2:Int)^63<=z)&&decide (z<2^63))=true
    ·rw [if_pos hr] at q2⊢
     exact ZY (by simpa[Nat.add_assoc] using q2)
    ·rw [if_neg hr] at q2⊢
     exact Z7 (XB (ZY (by simpa[Nat.add_assoc] using q2)))
 |_,.non,_,_,_,_,_,p,_,_=>by simp only[KAt] at p|_,.bl _,_,_,_,_,_,p,_,_=>by simp only[KAt] at p|_,.lst _,_,_,_,_,_,p,_,_=>by simp only[KAt] at p
theorem zni:∀(n:Nat) (x:D) (A:Around) (s:Shared) (u:Value) (Q:Bool->Shared->Prop),x.dep<=n->KAt s.heap x u->Q true s->wpAny (model prog w) A (eqIsQuiet n u) Q E s
 |n,.int a,A,s,u,Q,hn,p,q=>by simp only[KAt] at p;obtain⟨t,rfl⟩:=p;rw[eqIsQuiet_byValue n rfl];exact ZY q|n,.str a,A,s,u,Q,hn,p,q=>by simp only[KAt] at p;obtain⟨t,rfl⟩:=p;rw[eqIsQuiet_byValue n rfl];exact ZY q|0,.tup a,A,s,u,Q,hn,p,q=>by simp only[D.dep] at hn;omega
 | n + 1,.tup a,A,s,u,Q,hn,p,q=>by
  simp only[KAt] at p;obtain⟨c,its,rfl,t,r⟩:=p;have T:=zef t;obtain⟨o,ho,_,m,hd⟩:=t
  have hdep:D.deps a<=n:=by simp only[D.dep] at hn;omega
  unfold eqIsQuiet;refine Z7 (VO T F.slot_tuple_eq.lookup ?_);show wpAny _ _ (VA (.ref c) (.type "tuple") >>= _) _ _ _;refine Z7 (wpAny_isInstance T isSubtype_tuple_tuple ?_);simp only[V7,ZM,if_false];refine Z7 (wpAny_seqItems ho hd (Z7 ?_));show wpAny _ _ (forIn its _ _) _ _ _;rw[<-Array.forIn_toList];refine wpAny_forIn_list _ (λrest r s1=>r.1=none/\s1=s/\∃left,D.deps left<=n/\KAts s.heap left rest) _ ?_ ?_ _ _ ⟨rfl,rfl,a,hdep,r⟩
  ·rintro v rest r s1 ⟨hr,rfl,left,hl,hk⟩
   cases left with|nil=>simp only[KAts] at hk;cases hk|cons k ks=>simp only[KAts] at hk;obtain⟨v',rest',ez,k1,k2⟩:=hk;cases ez;simp only[D.deps] at hl;refine Z7 (zni n k A _ v _ (by omega) k1 ?_);simp only[V7,ZM,if_false];exact ZY ⟨rfl,rfl,ks,by omega,k2⟩
  ·rintro⟨r1,r2⟩ s1 ⟨hr,rfl,_⟩
   simp only at hr;subst hr;exact ZY q
 |_,.non,_,_,_,_,_,p,_=>by simp only[KAt] at p|_,.bl _,_,_,_,_,_,p,_=>by simp only[KAt] at p|_,.lst _,_,_,_,_,_,p,_=>by simp only[KAt] at p
end
noncomputable instance:DecidableEq D:=λx y=>if h:x.same y=true then isTrue (D.same_eq x y h) else isFalse λe=>h (e▸D.same_refl x)
theorem zb2(x y:D):x.same y=decide (x=y):=by
 by_cases h:x=y
 ·subst h;rw[D.same_refl,decide_eq_true rfl]
 ·rw[zmJ h,decide_eq_false h]
theorem zjh(ho:h.get? d=some o)(hd:o.data=.dict es ep)(hs:Wx d h h')(a:Addr)(its:Array Value)(t:h.IsTuple a its):h'.IsTuple a its:=by
 obtain⟨o',e,c,n,dt⟩:=t
 have ne:a≠d:=by
  rintro rfl
  rw[ho] at e;cases e
  rw[hd] at dt;cases dt
 exact⟨o',(hs.2 a ne).trans e,c,n,dt⟩
def dKind(prog:ZH)(w:World):HeapKind prog w D where
 is:=λh x a=>x.dep<=8/\KAt h x (.ref a)
 hash:=zji w
 draws:=zfM
 room:=λA=>A.units+8<cLine
 inj:=λhx hy=>KAt.inj _ _ _ hx.2 hy.2
 keeps:=λx ho hd hs=>⟨x.1,KAt.keep (zjh ho hd hs) _ _ x.2⟩
 pyHash:=λhu hk q=>zh6 8 _ _ _ _ _ hk.1 hk.2 hu q
 eqBool:=λhu hx hy q=>kEq 8 _ _ _ _ _ hx.1 hx.2 hy.2 hu _ _ _ _ (by rw[zb2];exact q)
 quiet:=λhk q=>zni 8 _ _ _ _ _ hk.1 hk.2 q
end IT
namespace L2
open PySem PySem.Spec PyProof.Rows
abbrev Key:=Sum Int Str
def zri:Key->Value->Bool|.inl k,v=>Value.isInt k v|.inr x,v=>Value.isStrOf x v
def keyH(w:World):Key->Int|.inl k=>hashInt k|.inr x=>hashStr w x
theorem zaw:∀{k:Key} {v:Value},zri k v=true->(∃i t,k=VU i/\v=Value.int i t)\/(∃x t,k=VT x/\v=Y1 x t)|.inl i,v,h=>by obtain⟨t,e⟩:=Value.isInt_shape (k:=i) (v:=v) h;exact .inl ⟨i,t,rfl,e⟩|.inr x,v,h=>by obtain⟨t,e⟩:=Value.isStrOf_shape (x:=x) (v:=v) h;exact .inr ⟨x,t,rfl,e⟩
theorem zru(a b:Int):decide ((VU a:Key)=VU b)=(a==b):=by
 by_cases e:a=b
 ·subst e;simp
 ·have h:¬(VU a:Key)=VU b:=λq=>e (VU.inj q)
  rw[decide_eq_false h];exact(beq_eq_false_iff_ne.mpr e).symm
theorem zpL(a b:Str):decide ((VT a:Key)=VT b)=decide (a=b):=by
 by_cases e:a=b
 ·subst e;simp
 ·have h:¬(VT a:Key)=VT b:=λq=>e (VT.inj q)
  rw[decide_eq_false h,decide_eq_false e]
theorem zpK(a:Int)(b:Str):decide ((VU a:Key)=VT b)=false:=decide_eq_false (λq=>nomatch q)
theorem zpX(a:Str)(b:Int):decide ((VT a:Key)=VU b)=false:=decide_eq_false (λq=>nomatch q)
def zjl(prog:ZH)(w:World):PySem.KeyKind prog w Key where
 is:=zri
 hash:=keyH w
 inj:=λv a b ha hb=>by
  rcases zaw ha with⟨i,t,rfl,rfl⟩|⟨x,t,rfl,rfl⟩
  ·rcases zaw hb with⟨j,u,rfl,e⟩|⟨y,u,rfl,e⟩
   ·injection e with e1 _;rw[e1]
   ·exact nomatch e
  ·rcases zaw hb with⟨j,u,rfl,e⟩|⟨y,u,rfl,e⟩
   ·exact nomatch e
   ·injection e with e1 _;rw[e1]
 byValue:=λk v h=>by rcases zaw h with⟨i,t,rfl,rfl⟩|⟨x,t,rfl,rfl⟩<;>rfl
 pyHash:=λhv h=>by
  rcases zaw hv with⟨i,t,rfl,rfl⟩|⟨x,t,rfl,rfl⟩
  ·exact wpAny_pyHash_int h
  ·exact wpAny_pyHash_str h
 eqBool:=λhu hv h=>by
  rcases zaw hu with⟨i,t,rfl,rfl⟩|⟨x,t,rfl,rfl⟩
  ·rcases zaw hv with⟨j,u,rfl,rfl⟩|⟨y,u,rfl,rfl⟩
   ·rw[zru] at h;exact wpAny_eqBool_int h
   ·rw[zpK] at h;exact Yj.int_str i t y u _ _ _ _ h
  ·rcases zaw hv with⟨j,u,rfl,rfl⟩|⟨y,u,rfl,rfl⟩
   ·rw[zpX] at h;exact Yj.str_int x t j u _ _ _ _ h
   ·rw[zpL] at h;exact wpAny_eqBool_str h
 «strs»:=λk x t v h=>by
  rcases zaw h with⟨i,u,rfl,e⟩|⟨y,u,rfl,e⟩
  ·exact nomatch e
  ·injection e with e1 _
   subst e1
   cases v<;>rfl
inductive V where|non | bl (b:Bool) | int (i:Int) | str (x:Str) | byt (b:Array UInt8) | flt (b:UInt64) | ref (a:Addr) | ty (n:String)
 deriving DecidableEq
def RelV:V->Value->Prop|.non,u=>u=XD|.bl b,u=>u=Xa b|.int i,u=>∃t,u=Value.int i t|.str x,u=>∃t,u=Y1 x t|.byt b,u=>∃t,u=Value.bytes b t|.flt b,u=>∃t,u=Value.float b t|.ref a,u=>u=Y9 a|.ty n,u=>u=Yi n
abbrev Vals:List V->List Value->Prop:=Paired RelV
theorem Vals.length{xs:List V}{us:List Value}(r:Vals xs us):xs.length=us.length:=WN r
theorem Vals.get:∀{xs:List V} {us:List Value} {i:Nat} {x:V},Vals xs us->xs[i]?=some x->∃u,us[i]?=some u/\RelV x u|_,_,_,_,.nil,e=>by simp at e|_,_,0,_,.cons r _,e=>by simp at e;subst e;exact⟨_,rfl,r⟩|_,_,i+1,x,.cons _ t,e=>by obtain⟨u,h1,h2⟩:=Vals.get (i:=i) (x:=x) t (by simpa using e);exact⟨u,by simpa using h1,h2⟩
theorem Vals.set{x:V}{u:Value}(r:RelV x u):∀{xs:List V} {us:List Value} (i:Nat),Vals xs us->Vals (xs.set i x) (us.set i u)|_,_,_,.nil=>.nil|_,_,0,.cons _ t=>.cons r t|_,_,i+1,.cons q t=>.cons q (Vals.set r i t)
theorem Vals.append:∀{xs ys:List V} {us ws:List Value},Vals xs us->Vals ys ws->Vals (xs++ys) (us++ws)|_,_,_,_,.nil,s=>s|_,_,_,_,.cons r t,s=>.cons r (Vals.append t s)
theorem Vals.take:∀{xs:List V} {us:List Value} (n:Nat),Vals xs us->Vals (xs.take n) (us.take n)|_,_,0,_=>.nil|_,_,_+1,.nil=>.nil|_,_,n+1,.cons r t=>.cons r (Vals.take n t)
theorem Vals.drop:∀{xs:List V} {us:List Value} (n:Nat),Vals xs us->Vals (xs.drop n) (us.drop n)|_,_,0,r=>r|_,_,_+1,.nil=>.nil|_,_,n+1,.cons _ t=>Vals.drop n t
def RelO:Option V->Option Value->Prop|some v,some u=>RelV v u|none,none=>True|_,_=>False
def KV{κ:Type}:List (κ×V)->List (κ×Value)->Prop:=Paired λ(p:κ×V) (q:κ×Value)=>p.1=q.1/\RelV p.2 q.2
inductive HO where|lst (xs:List V)|tup (xs:List V)|dK (kvs:List (Key×V)) | dT (kvs:List (IT.D×Addr×V))|set (S:Int->Bool) (n:Nat)|ins (C dx:Addr) (fs:List (Str×V))|own (x:Addr)|xd (fs:List (Str×V))|met (f x:Addr)|rng (lo hi:Int)|frz (o:Obj) (u:HO)|tbl (ps:Array Value)|ext (φ:Heap->Prop)
abbrev Hp:=Addr->Option HO
def upd(H:Hp)(a:Addr)(o:HO):Hp:=λb=>if b=a then some o else H b
theorem zai{H:Hp}{a:Addr}{o:HO}:upd H a o a=some o:=by unfold upd;rw[if_pos rfl]
theorem zah{H:Hp}{a b:Addr}{o:HO}(h:b≠a):upd H a o b=H b:=by unfold upd;rw[if_neg h]
theorem zak{H:Hp}{a b:Addr}{o:HO}(h:H a=some o)(h':H b=none):a≠b:=by intro e;subst e;rw[h] at h';cases h'
section
variable (P:ZH)(w:World)
def zbD(h:Heap)(a:Addr)(items:Array Value):Prop:=IsTup h a items/\∀o,h.get? a=some o->o.dict=none
theorem zbD.new(h:Heap)(items:Array Value):zbD (h.push {cls:=.type "tuple",data:=.seq items}) h.objs.size items:=⟨IsTup.new h items,λo e=>by rw[ZC _ rfl] at e;cases e;rfl⟩
def zaI(H:Hp)(h:Heap)(a:Addr):HO->Prop
 |.lst xs=>xs.length<=sizeLine/\∃(its:List Value) (n:Nat),Vals xs its/\h.get? a=some {cls:=.type "list",data:=.seq its.toArray n}|.tup xs=>xs.length<=sizeLine/\∃its:List Value,Vals xs its/\zbD h a its.toArray|.dK kvs=>kvs.length<=sizeLine/\(a==VS)=false/\∃vs,KV kvs vs/\h.DictOf (zjl P w) a vs
 | .dT kvs=>kvs.length<=sizeLine/\(a==VS)=false/\∃xs:List (IT.D×Addr×Value),Paired (λ(p:IT.D×Addr×V) (q:IT.D×Addr×Value)=>p.1=q.1/\p.2.1=q.2.1/\RelV p.2.2 q.2.2) kvs xs ∧
   ∃o es ep,h.get? a=some o/\o.ExactDict/\o.data=.dict es ep/\es.toList=xs.map (entryOfKey (IT.dKind P w))/\(xs.map (·.1)).Nodup
 |.set S n=>h.SetOf (intKind P w) a S n
 | .ins C dx fs=>H dx=some (.own a)/\fs.length<=1000/\dx≠a/\h.get? a=some (PySem.W.instObj C dx) ∧
   ∃mA,h.Ns1 dx mA/\(∀f,RelO (fs.lookup f) (mA f))/\PySem.Within mA (fs.map (·.1))
 |.own _=>∃o,h.get? a=some o|.xd fs=>∃mA,h.Ns1 a mA/\∀f,RelO (fs.lookup f) (mA f)|.rng lo hi=>∃t u v,h.get? a=some {cls:=.type "range",data:=.fields #[.int lo t,.int hi u,.int 1 v]}|.frz o u=>h.get? a=some o/\zaI H h a u|.tbl ps=>h.get? a=some {cls:=.none,data:=.fields ps}|.met f x=>h.get? a=some (Wd (.ref f) (.ref x))|.ext φ=>φ h/\(∃o,h.get? a=some o)/\∀h1 h2:Heap,φ h1->(∀o,h1.get? a=some o->h2.get? a=some o)->φ h2
def HOk(H:Hp)(h:Heap):Prop:=∀a o,H a=some o->zaI P w H h a o
end
section
variable {P:ZH}{w:World}{H H':Hp}{h h':Heap}{a:Addr}{o:HO}
theorem zaI.lt(x:zaI P w H h a o):a<h.objs.size:=by
 cases o with|lst xs=>obtain⟨_,_,_,_,e⟩:=x;exact ZU e|tup xs=>obtain⟨_,_,_,p⟩:=x;exact p.1.lt|dK kvs=>obtain⟨_,_,_,_,o,_,_,e,_⟩:=x;exact ZU e|dT kvs=>obtain⟨_,_,_,_,o,_,_,e,_⟩:=x;exact ZU e|set S n=>obtain⟨o,_,_,_,e,_⟩:=x;exact ZU e|ins C dx fs=>obtain⟨_,_,_,e,_⟩:=x;exact ZU e|own y=>obtain⟨_,e⟩:=x;exact ZU e|xd fs=>obtain⟨_,⟨_,_,_,e,_⟩,_⟩:=x;exact ZU e|rng lo hi=>obtain⟨_,_,_,e⟩:=x;exact ZU e|frz ob u=>obtain⟨e,_⟩:=x;exact ZU e|tbl ps=>exact ZU (show h.get? a=some _ from x)|met f y=>exact ZU (show h.get? a=some _ from x)|ext φ=>obtain⟨_,⟨_,e⟩,_⟩:=x;exact ZU e
theorem Paired.mapP{α β:Type}{F G:α->β->Prop}:∀{l₁:List α} {l₂:List β},Paired F l₁ l₂->(∀a b,F a b->G a b)->Paired G l₁ l₂|_,_,.nil,_=>.nil|_,_,.cons r t,f=>.cons (f _ _ r) (Paired.mapP t f)
theorem zaI.stay(x:zaI P w H h a o)(k:∀b u,(b=a\/H b=some (.own a))->h.get? b=some u->h'.get? b=some u)
  (ho:∀b,H b=some (.own a)->H' b=some (.own a)) (ht:∀b xs,H b=some (.tup xs)->H' b=some (.tup xs)):zaI P w H' h' a o:=by
 induction o with|lst xs=>obtain⟨z,its,n,r,e⟩:=x;exact⟨z,its,n,r,k _ _ (.inl rfl) e⟩|tup xs=>obtain⟨z,its,r,⟨ob,e,c⟩,dd⟩:=x;exact⟨z,its,r,⟨ob,k _ _ (.inl rfl) e,c⟩,λo2 e2=>by rw[k _ _ (.inl rfl) e] at e2;cases e2;exact dd _ e⟩|dK kvs=>obtain⟨z,y,vs,r,ob,es,ep,e,c⟩:=x;exact⟨z,y,vs,r,ob,es,ep,k _ _ (.inl rfl) e,c⟩|dT kvs=>obtain⟨z,y,xs,r,ob,es,ep,e,c⟩:=x;exact⟨z,y,xs,r,ob,es,ep,k _ _ (.inl rfl) e,c⟩|set S n=>obtain⟨ob,es,ep,t,e,c⟩:=x;exact⟨ob,es,ep,t,k _ _ (.inl rfl) e,c⟩|ins C dx fs=>obtain⟨d,z,ne,e,mA,⟨od,es,ep,e2,c⟩,r⟩:=x;exact⟨ho _ d,z,ne,k _ _ (.inl rfl) e,mA,⟨od,es,ep,k _ _ (.inr d) e2,c⟩,r⟩|own y=>obtain⟨ob,e⟩:=x;exact⟨ob,k _ _ (.inl rfl) e⟩|xd fs=>obtain⟨mA,⟨od,es,ep,e,c⟩,r⟩:=x;exact⟨mA,⟨od,es,ep,k _ _ (.inl rfl) e,c⟩,r⟩|rng lo hi=>obtain⟨t,u,v,e⟩:=x;exact⟨t,u,v,k _ _ (.inl rfl) e⟩|frz ob u ih=>obtain⟨e,q⟩:=x;exact⟨k _ _ (.inl rfl) e,ih q⟩|tbl ps=>have e:h.get? a=some {cls:=.none,data:=.fields ps}:=x;show h'.get? a=some {cls:=.none,data:=.fields ps};exact k a _ (.inl rfl) e|met f y=>have e:h.get? a=some (Wd (.ref f) (.ref y)):=x;show h'.get? a=some (Wd (.ref f) (.ref y));exact k a _ (.inl rfl) e|ext φ=>obtain⟨p,⟨o,e⟩,st⟩:=x;exact⟨st _ _ p λo q=>k _ _ (.inl rfl) q,⟨o,k _ _ (.inl rfl) e⟩,st⟩
theorem HOk.lt(x:HOk P w H h)(e:H a=some o):a<h.objs.size:=(x a o e).lt
theorem HOk.fresh(x:HOk P w H h)(e:h.objs.size<=a):H a=none:=by
 cases q:H a with|none=>rfl|some u=>exact absurd (ZF (x.lt q) e) (YH _)
theorem HOk.kept(x:HOk P w H h)(k:∀b u,h.get? b=some u->h'.get? b=some u):HOk P w H h':=λa o e=>(x a o e).stay (λb u _ q=>k b u q) (λ_ q=>q) λ_ _ q=>q
theorem HOk.laid(x:HOk P w H h)(k:∀b u,h.get? b=some u->h'.get? b=some u)(hp:h.objs.size<=a)(new:zaI P w (upd H a o) h' a o):HOk P w (upd H a o) h':=λb u e=>by
 have hn:=x.fresh hp
 by_cases hb:b=a
 ·subst hb;rw[zai] at e;cases e;exact new
 ·rw [zah hb] at e
  exact(x b u e).stay (λc v _ q=>k c v q) (λc q=>by rw[zah (zak q hn)];exact q) λc xs q=>by rw[zah (zak q hn)];exact q
end
def Rd(H:Hp)(a:Addr)(u:HO):Prop:=H a=some u\/∃o,H a=some (.frz o u)
theorem Rd.ok{P:ZH}{w:World}{H:Hp}{h:Heap}{a:Addr}{u:HO}(r:Rd H a u)(x:HOk P w H h):zaI P w H h a u:=by
 rcases r with r|⟨o,r⟩
 ·exact x a u r
 ·obtain ⟨_,q⟩:=x a _ r
  exact q
def Mut:Option HO->Prop|some (.lst _)=>True|some (.dK _)=>True|some (.dT _)=>True|some (.set _ _)=>True|some (.ins _ _ _)=>True|some (.ext _)=>True|_=>False
section
variable {P:ZH}{w:World}{H:Hp}{h h':Heap}{x e:Addr}{o':HO}
theorem HOk.write(ok:HOk P w H h)(mu:Mut (H x))(he:e=x\/H e=some (.own x))(k:∀b u,b≠e->h.get? b=some u->h'.get? b=some u)(heo:∃u,h'.get? e=some u)
  (new:zaI P w (upd H x o') h' x o'):HOk P w (upd H x o') h':=λb u q=>by
 have nown:∀c y,H c=some (.own y)->c≠x:=λc y r z=>by subst z;rw[r] at mu;exact mu
 have ntup:∀c xs,H c=some (.tup xs)->c≠x:=λc xs r z=>by subst z;rw[r] at mu;exact mu
 by_cases hb:b=x
 ·subst hb;rw[zai] at q;cases q;exact new
 ·rw [zah hb] at q
  by_cases hbe:b=e
  ·have q':H b=some (.own x):=by
    rcases he with z | z
    ·exact absurd (hbe.trans z) hb
    ·rw[hbe];exact z
   rw[q] at q';cases q'
   obtain⟨v,hv⟩:=heo
   exact⟨v,by rw[hbe];exact hv⟩
  ·refine (ok b u q).stay (λc v hc r=>k c v ?_ r) (λc r=>by rw[zah (nown c b r)];exact r) λc xs r=>by rw[zah (ntup c xs r)];exact r
   rcases hc with rfl | hc
   ·exact hbe
   ·rintro rfl
    rcases he with z | z
    ·exact nown c b hc z
    ·rw[hc] at z;cases z;exact hb rfl
end
structure Un(fs ex:List Addr)(H H':Hp)(h h':Heap):Prop where
 keep:∀b o,h.get? b=some o->H b=none->b∉fs->b∉ex->h'.get? b=some o
 slot:∀b o,h.get? b=some o->H b=none->b∈fs->b∉ex->∃sl,h'.get? b=some {o with slots:=sl}
 free:∀b o,h.get? b=some o->H b=none->b∉ex->H' b=none
 there:∀b o,h.get? b=some o->b∉ex->∃o',h'.get? b=some o'
 tups:∀b xs,H b=some (.tup xs)->H' b=some (.tup xs)
 frzs:∀b o u,H b=some (.frz o u)->H' b=some (.frz o u)
 tbls:∀b ps,H b=some (.tbl ps)->∃more,H' b=some (.tbl (ps++more))
section
variable {fs fs' ex ex':List Addr}{H H1 H2:Hp}{h h1 h2 h':Heap}{a x e:Addr}{o:HO}
theorem Un.any(u:Un fs ex H H1 h h1){b:Addr}{ob:Obj}(q:h.get? b=some ob)(n:H b=none)(hx:b∉ex):∃sl,h1.get? b=some {ob with slots:=sl}:=by
 by_cases hb:b∈fs
 ·exact u.slot b ob q n hb hx
 ·exact⟨ob.slots,u.keep b ob q n hb hx⟩
theorem Un.kept(k:∀b u,h.get? b=some u->h'.get? b=some u):Un fs ex H H h h':=⟨λb ob q _ _ _=>k b ob q,λb ob q _ _ _=>⟨ob.slots,k b ob q⟩,λ_ _ _ n _=>n,λb ob q _=>⟨ob,k b ob q⟩,λ_ _ q=>q,λ_ _ _ q=>q,λ_ ps q=>⟨#[],by rw[q];simp⟩⟩
theorem Un.refl:Un fs ex H H h h:=Un.kept λ_ _ q=>q
theorem Un.laid(k:∀b u,h.get? b=some u->h'.get? b=some u)(hp:h.objs.size<=a)(hn:H a=none):Un fs ex H (upd H a o) h h' where
 keep:=λb u q _ _ _=>k b u q
 slot:=λb u q _ _ _=>⟨u.slots,k b u q⟩
 free:=λb u q n _=>by rw[zah (ZK (ZF (ZU q) hp))];exact n
 there:=λb u q _=>⟨u,k b u q⟩
 tups:=λb xs q=>by rw[zah (zak q hn)];exact q
 frzs:=λb u xs q=>by rw[zah (zak q hn)];exact q
 tbls:=λb ps q=>⟨#[],by rw[zah (zak q hn),q];simp⟩
theorem Un.write(mu:Mut (H x))(he:e=x\/H e=some (.own x))(k:∀b u,b≠e->h.get? b=some u->h'.get? b=some u)(heo:∃u,h'.get? e=some u):Un fs ex H (upd H x o) h h':=by
 have hx:∀b,H b=none->b≠x:=λb n z=>by subst z;rw[n] at mu;exact mu
 have hb:∀b,H b=none->b≠e:=λb n z=>by
  subst z
  rcases he with r | r
  ·exact hx b n r
  ·rw[n] at r;cases r
 have hm:∀b u,H b=some u->¬Mut (some u)->b≠x:=λb u q nm z=>by subst z;rw[q] at mu;exact nm mu
 refine ⟨λb u q n _ _=>k b u (hb b n) q,λb u q n _ _=>⟨u.slots,k b u (hb b n) q⟩,λb u q n _=>by rw[zah (hx b n)];exact n,λb u q _=>?_,
  fun b xs q=>by rw[zah (hm b _ q λz=>z)];exact q,λb u xs q=>by rw[zah (hm b _ q λz=>z)];exact q,λb ps q=>⟨#[],by rw[zah (hm b _ q λz=>z),q];simp⟩⟩
 by_cases hbe:b=e
 ·subst hbe;exact heo
 ·exact⟨u,k b u hbe q⟩
end
def trk(h:Heap)(H:Hp):List Addr:=(Zk h.objs.size).filter λa=>(H a).isSome
def hidT(h:Heap)(H:Hp):Heap:=WF h (trk h H)
theorem zln(h:Heap)(H:Hp):(hidT h H).objs.size=h.objs.size:=PySem.W.hideAll_size _ _
theorem zlw{h:Heap}{H:Hp}{b:Addr}{o:Obj}(e:h.get? b=some o)(n:H b=none):(hidT h H).get? b=some o:=
 YF _ e λhm=>by
  have q:(H b).isSome=true:=(List.mem_filter.mp hm).2
  rw[n] at q;simp at q
theorem zpq{h:Heap}{H:Hp}{b:Addr}{o:Obj}(e:(hidT h H).get? b=some o):h.get? b=some o/\H b=none:=by
 have e':h.get? b=some o:=Wu (trk h H) e;refine⟨e',?_⟩
 cases q:H b with
 |none=>rfl
 |some x=>
  have hm:b∈trk h H:=List.mem_filter.mpr ⟨List.mem_range.mpr (ZU e'),by simp[q]⟩;have z:(hidT h H).get? b=none:=WK (trk h H) hm
  rw[z] at e;cases e
structure Mod(K:Z8)(mg:Str->Option Value)(base:Heap):Prop where
 kin:K.In base
 glob:base.Ns ZQ mg
 blt:∃mb,base.Ns builtinsNs mb/\∀x:Str,x ≠ "__name__"->mb x=XU x
 nolimit:base.NoLimit
structure Cx where
 prog:ZH
 w:World
 K:Z8
 mg:Str->Option Value
 base:Heap
 A:Around
 N:List Str
 s₀:Shared
 H₀:Hp
 env:Env
 outer:List Env
 stack:List Env
 ex:List Addr
 fn:Str->Bool
 calm:Bool
 pn:List (Addr×Obj)
 xe:Value->Shared->Prop
def frs(l:List Env):List Addr:=l.filterMap (·.frame)
abbrev Cx.fs(X:Cx):List Addr:=frs X.outer
def Vis(sc:Scope)(x:Str):Prop:=sc.names.lookup x=some .local\/sc.names.lookup x=some .cell\/sc.names.lookup x=some .free
def Loc(sc:Scope)(x:Str):Prop:=sc.names.lookup x=some .local\/sc.names.lookup x=some .cell
def Look(env:Env)(h:Heap)(m:Str->Option Value)(x:Str)(u:Value):Prop:=(env.kindOf x=some .local/\m x=some u)\/((env.kindOf x=some .cell\/env.kindOf x=some .free)/\∃c,env.cells.lookup x=some c/\h.IsCell c (some u))
structure Cx.Ok(X:Cx):Prop where
 mod:Mod X.K X.mg X.base
 kind:X.env.scope.kind=.function
 glob:X.env.globals=ZQ
 blt:X.env.builtins=builtinsNs
 above:X.s₀.heap.objs.size<=X.env.locals
 inj:∀x y c,X.env.cells.lookup x=some c->X.env.cells.lookup y=some c->x=y
 has:∀x,(X.env.kindOf x=some .cell\/X.env.kindOf x=some .free)->∃c,X.env.cells.lookup x=some c
 cab:∀x c,X.fn x=true->X.env.cells.lookup x=some c->X.s₀.heap.objs.size<=c
 hd:X.calm=true->X.A.handled=none
 frames:X.A.frames=some X.stack
 stk:X.stack=X.outer\/(X.stack=X.env::X.outer/\X.env.frame=some X.env.locals)
 exf:∀b∈X.ex,b≠X.env.locals/\∀x c,X.env.cells.lookup x=some c->c≠b
 bs:∀b o,X.base.get? b=some o->X.s₀.heap.get? b=some o/\X.H₀ b=none
 bsz:X.base.objs.size<=X.s₀.heap.objs.size
 noex:∀b o,X.base.get? b=some o->b∉X.ex
 exfs:∀b∈X.ex,b∉X.fs
 funs:X.s₀.heap.FunFrames X.base X.outer
 frf:∀b∈X.fs,X.H₀ b=none
structure Inv(X:Cx)(pins:List (Addr×Obj))(σ:List (Option V))(H:Hp)(s:Shared):Prop where
 ok:X.Ok
 os:s.os=X.s₀.os
 bare:Wc s.gens
 base:Un X.fs X.ex X.H₀ H X.s₀.heap s.heap
 loc:∃m,s.heap.Ns X.env.locals m/\∀(i:Nat) (x:Str) (v:V),X.N[i]?=some x->σ[i]?=some (some v)->Vis X.env.scope x->∃u,RelV v u/\Look X.env s.heap m x u
 cell:∀x c,X.env.cells.lookup x=some c->∃v,s.heap.IsCell c v
 free:H X.env.locals=none
 freeC:∀x c,X.env.cells.lookup x=some c->H c=none
 pin:∀p∈X.pn++pins,s.heap.get? p.1=some p.2/\H p.1=none/\p.1≠X.env.locals/\p.1∉X.fs/\∀v,p.2.data≠.cell v
 hok:HOk X.prog X.w H s.heap
 len:σ.length=X.N.length
section
variable {X:Cx}{pins:List (Addr×Obj)}{σ:List (Option V)}{H H':Hp}{s:Shared}{h':Heap}
theorem Cx.Ok.nofr(ok:X.Ok){b:Addr}{o:Obj}(e:X.base.get? b=some o):b∉X.fs:=λhb=>by
 have:=(ok.funs.mem hb).1
 rw[e] at this;cases this
theorem Inv.bs(I:Inv X pins σ H s):∀b o,X.base.get? b=some o->s.heap.get? b=some o/\H b=none:=λb o e=>⟨I.base.keep b o (I.ok.bs b o e).1 (I.ok.bs b o e).2 (I.ok.nofr e) (I.ok.noex b o e),I.base.free b o (I.ok.bs b o e).1 (I.ok.bs b o e).2 (I.ok.noex b o e)⟩
theorem Inv.bk(I:Inv X pins σ H s):∀b o,X.base.get? b=some o->s.heap.get? b=some o:=λb o e=>(I.bs b o e).1
theorem Inv.mod(I:Inv X pins σ H s):Mod X.K X.mg X.base:=I.ok.mod
theorem Inv.kIn(I:Inv X pins σ H s):X.K.In s.heap:=I.ok.mod.kin.keeps I.bk
theorem Inv.lt(I:Inv X pins σ H s):X.env.locals<s.heap.objs.size:=let ⟨_,hn,_⟩:=I.loc;hn.lt
theorem Inv.sz(I:Inv X pins σ H s):X.s₀.heap.objs.size<=s.heap.objs.size:=Zc I.ok.above (VV I.lt)
theorem Inv.nofs(I:Inv X pins σ H s){a:Addr}(h:s.heap.objs.size<=a):a∉X.fs:=λhb=>by obtain⟨_,o,ho,_⟩:=I.ok.funs.mem hb;exact absurd (ZF (ZU ho) (Zc I.sz h)) (YH _)
theorem Inv.cne(I:Inv X pins σ H s):∀x c,X.env.cells.lookup x=some c->c≠X.env.locals:=λx c e z=>by
 obtain⟨v,o,ho,hd⟩:=I.cell x c e;obtain⟨m,⟨o',es,ep,ho',hd',_⟩,_⟩:=I.loc
 rw[z,ho'] at ho;cases ho;rw[hd'] at hd;cases hd
theorem Inv.funs(I:Inv X pins σ H s):s.heap.FunFrames X.base X.outer:=by
 have all:∀(l:List Env),(∀b∈frs l,b∈X.fs)->X.s₀.heap.FunFrames X.base l->s.heap.FunFrames X.base l:=by
  intro l
  induction l with
  |nil=>intro _ _;trivial
  |cons env r ih=>
   intro hs hl;obtain⟨hk,⟨L,o,hf,hn,ho,hd⟩,hr⟩:=hl
   have hL:L∈X.fs:=hs L (by unfold frs;rw[Yr,hf];exact Zq)
   obtain⟨sl,e⟩:=I.base.slot L o ho (I.ok.frf L hL) hL λz=>I.ok.exfs L z hL
   exact⟨hk,⟨L,_,hf,hn,e,hd⟩,ih (λb hb=>hs b (by unfold frs;rw[Yr,hf];exact Zx _ hb)) hr⟩
 exact all X.outer (λ_ hb=>hb) I.ok.funs
theorem Inv.stack(I:Inv X pins σ H s):s.heap.FunFrames X.base X.stack:=by
 rcases I.ok.stk with e|⟨e,hf⟩
 ·rw[e];exact I.funs
 ·rw [e]
  obtain⟨m,hn,_⟩:=I.loc
  refine .cons (by rw[I.ok.kind];decide) hf hn ?_ I.funs
  exact WJ (Zc I.ok.bsz I.ok.above)
theorem Inv.stkSub(I:Inv X pins σ H s):∀b∈frs X.stack,b∈X.env.locals::X.fs:=λb hb=>by
 rcases I.ok.stk with e|⟨e,hf⟩
 ·rw[e] at hb;exact Zx _ hb
 ·rw [e] at hb
  unfold frs at hb;rw[Yr,hf] at hb;exact hb
theorem Inv.stkFree(I:Inv X pins σ H s):∀b∈frs X.stack,H b=none:=λb hb=>by
 rcases ZE.mp (I.stkSub b hb) with e | hb
 ·rw[e];exact I.free
 ·obtain ⟨_,o,ho,_⟩:=I.ok.funs.mem hb
  exact I.base.free b o ho (I.ok.frf b hb) λz=>I.ok.exfs b z hb
theorem Inv.step{g':Array GenState}{t':Nat}{d':Drawn}{ch:List Addr}(I:Inv X pins σ H s)
  (hch:∀b∈ch,(b∈X.ex\/X.s₀.heap.objs.size<=b)/\b≠X.env.locals/\(∀x c,X.env.cells.lookup x=some c->c≠b)/\∀p∈X.pn++pins,p.1≠b)
  (keep:∀b o,b≠X.env.locals->b∉X.fs->b∉ch->s.heap.get? b=some o->H b=none->h'.get? b=some o)
  (slot:∀b o,b≠X.env.locals->b∈X.fs->b∉ch->s.heap.get? b=some o->H b=none->∃sl,h'.get? b=some {o with slots:=sl}) (free:∀b o,b∉ch->s.heap.get? b=some o->H b=none->H' b=none)
  (there:∀b o,b∉ch->s.heap.get? b=some o->∃o',h'.get? b=some o')
  (tups:∀b xs,H b=some (.tup xs)->H' b=some (.tup xs)) (frzs:∀b o u,H b=some (.frz o u)->H' b=some (.frz o u)) (tbls:∀b ps,H b=some (.tbl ps)->∃more,H' b=some (.tbl (ps++more)))
  (ns:∀m,s.heap.Ns X.env.locals m->h'.Ns X.env.locals m) (hok:HOk X.prog X.w H' h') (hg:Wc g'):
  Inv X pins σ H' {s with heap:=h',gens:=g',drawn:=d',toks:=t'}:=by
 have neL:∀b o,X.s₀.heap.get? b=some o->b≠X.env.locals:=λb o e=>ZK (ZF (ZU e) I.ok.above)
 have neC:∀b o,X.s₀.heap.get? b=some o->b∉X.ex->b∉ch:=λb o e hx hb=>by
  rcases(hch b hb).1 with z | z
  ·exact hx z
  ·exact absurd (ZF (ZU e) z) (YH _)
 have cellK:∀x c,X.env.cells.lookup x=some c->∀v,s.heap.IsCell c v->h'.IsCell c v:=λx c e v ⟨o,ho,hd⟩=>by
  have nch:c∉ch:=λz=>(hch c z).2.2.1 x c e rfl
  by_cases hc:c∈X.fs
  ·obtain ⟨sl,q⟩:=slot c o (I.cne x c e) hc nch ho (I.freeC x c e)
   exact⟨_,q,hd⟩
  ·exact⟨o,keep c o (I.cne x c e) hc nch ho (I.freeC x c e),hd⟩
 refine⟨I.ok,I.os,hg,⟨λb o e n hb hx=>?_,λb o e n hb hx=>?_,λb o e n hx=>?_,λb o e hx=>?_,λb xs e=>tups b xs (I.base.tups b xs e),λb o xs e=>frzs b o xs (I.base.frzs b o xs e),λb ps e=>?_⟩,?_,λx c e=>?_,?_,λx c e=>?_,λp hp=>?_,hok,I.len⟩
 ·exact keep b o (neL b o e) hb (neC b o e hx) (I.base.keep b o e n hb hx) (I.base.free b o e n hx)
 ·obtain ⟨sl,e1⟩:=I.base.slot b o e n hb hx
  obtain⟨sl',e2⟩:=slot b _ (neL b o e) hb (neC b o e hx) e1 (I.base.free b o e n hx);exact⟨sl',e2⟩
 ·obtain ⟨o',e1⟩:=I.base.there b o e hx
  exact free b o' (neC b o e hx) e1 (I.base.free b o e n hx)
 ·obtain ⟨o',e1⟩:=I.base.there b o e hx
  exact there b o' (neC b o e hx) e1
 ·obtain ⟨m1,e1⟩:=I.base.tbls b ps e
  obtain⟨m2,e2⟩:=tbls b _ e1;exact⟨m1++m2,by rw[e2,Array.append_assoc]⟩
 ·obtain ⟨m,hn,hl⟩:=I.loc
  refine⟨m,ns m hn,λi x v e1 e2 e3=>?_⟩;obtain⟨u,r,l⟩:=hl i x v e1 e2 e3;refine⟨u,r,?_⟩
  rcases l with l|⟨k,c,e,z⟩
  ·exact .inl l
  ·exact .inr ⟨k,c,e,cellK x c e _ z⟩
 ·obtain ⟨v,z⟩:=I.cell x c e
  exact⟨v,cellK x c e v z⟩
 ·obtain ⟨m,⟨o,_,_,ho,_⟩,_⟩:=I.loc
  exact free _ o (λz=>(hch _ z).2.1 rfl) ho I.free
 ·obtain ⟨v,o,ho,hd⟩:=I.cell x c e
  exact free c o (λz=>(hch c z).2.2.1 x c e rfl) ho (I.freeC x c e)
 ·obtain ⟨e,n,ne,nf,d⟩:=I.pin p hp
  have nch:p.1∉ch:=λz=>(hch p.1 z).2.2.2 p hp rfl;exact⟨keep p.1 p.2 ne nf nch e n,free p.1 p.2 nch e n,ne,nf,d⟩
theorem Inv.un{t':Nat}(I:Inv X pins σ H s)(u:Un X.fs [] H H' s.heap h')(hok:HOk X.prog X.w H' h'):Inv X pins σ H' {s with heap:=h',toks:=t'}:=by
 obtain⟨m,⟨o,es,ep,ho,r⟩,_⟩:=id I.loc;obtain⟨sl,hL⟩:=u.any ho I.free (by simp)
 exact I.step (g':=s.gens) (d':=s.drawn) (ch:=[]) (λ_ z=>nomatch z) (λb o _ hb _ e n=>u.keep b o e n hb (by simp)) (λb o _ hb _ e n=>u.slot b o e n hb (by simp)) (λb o _ e n=>u.free b o e n (by simp)) (λb o _ e=>u.there b o e (by simp)) u.tups u.frzs u.tbls (λm' hm=>by
  obtain⟨o',es',ep',ho',r'⟩:=hm
  rw[ho] at ho';cases ho'
  exact⟨_,es',ep',hL,r'⟩) hok I.bare
theorem Inv.call{g':Array GenState}{t':Nat}{d':Drawn}{ch:List Addr}(I:Inv X pins σ H s)(u:Un (frs X.stack) ch H H' s.heap h')(hok:HOk X.prog X.w H' h')(hg:Wc g')
  (hch:∀b∈ch,(b∈X.ex\/X.s₀.heap.objs.size<=b)/\b≠X.env.locals/\(∀x c,X.env.cells.lookup x=some c->c≠b)/\∀p∈X.pn++pins,p.1≠b):
  Inv X pins σ H' {s with heap:=h',gens:=g',drawn:=d',toks:=t'}:=by
 obtain⟨m,⟨o,es,ep,ho,r⟩,_⟩:=id I.loc;obtain⟨sl,hL⟩:=u.any ho I.free λz=>(hch _ z).2.1 rfl
 exact I.step (ch:=ch) hch (λb o hL hb hc e n=>u.keep b o e n (λz=>(ZE.mp (I.stkSub b z)).elim hL hb) hc) (λb o _ _ hc e n=>u.any e n hc) (λb o hc e n=>u.free b o e n hc) (λb o hc e=>u.there b o e hc) u.tups u.frzs u.tbls (λm' hm=>by
  obtain⟨o',es',ep',ho',r'⟩:=hm
  rw[ho] at ho';cases ho'
  exact⟨_,es',ep',hL,r'⟩) hok hg
theorem Inv.turned{t':Nat}{it:Addr}(I:Inv X pins σ H s)(k:∀b o,b≠it->s.heap.get? b=some o->h'.get? b=some o)(hn:H it=none)(hL:it≠X.env.locals)
  (h1:it∈X.ex\/X.s₀.heap.objs.size<=it) (h2:∀x c,X.env.cells.lookup x=some c->c≠it) (h3:∀p∈X.pn++pins,p.1≠it):Inv X pins σ H {s with heap:=h',toks:=t'}:=by
 have nit:∀b u,H b=some u->b≠it:=λb u e z=>by rw[z,hn] at e;cases e
 refine I.step (g':=s.gens) (d':=s.drawn) (ch:=[it]) (λb hb=>?_) (λb o _ _ hc e _=>k b o (λz=>hc (by simp[z])) e) (λb o _ _ hc e _=>⟨o.slots,k b o (λz=>hc (by simp[z])) e⟩) (λ_ _ _ _ n=>n)
  (λb o hc e=>⟨o,k b o (λz=>hc (by simp[z])) e⟩) (λ_ _ e=>e) (λ_ _ _ e=>e) (λb ps e=>⟨#[],by rw[e];simp⟩) (λm hm=>?_) (λb u e=>?_) I.bare
 ·have e:b=it:=by simpa using hb
  subst e;exact⟨h1,hL,h2,h3⟩
 ·obtain ⟨o,es,ep,ho,r⟩:=hm
  exact⟨o,es,ep,k _ o (YZ hL) ho,r⟩
 ·refine (I.hok b u e).stay (λc v hc q=>k c v ?_ q) (λ_ q=>q) λ_ _ q=>q
  rcases hc with z | z
  ·rw[z];exact nit b u e
  ·exact nit c _ z
theorem Inv.tok(I:Inv X pins σ H s)(t:Nat):Inv X pins σ H {s with toks:=t}:=I.un (h':=s.heap) (t':=t) Un.refl I.hok
theorem Inv.kept{t':Nat}(I:Inv X pins σ H s)(k:∀b u,s.heap.get? b=some u->h'.get? b=some u):Inv X pins σ H {s with heap:=h',toks:=t'}:=I.un (Un.kept k) (I.hok.kept k)
theorem Inv.laid{a:Addr}{o:HO}{t':Nat}(I:Inv X pins σ H s)(k:∀b u,s.heap.get? b=some u->h'.get? b=some u)(hp:s.heap.objs.size<=a)(new:zaI X.prog X.w (upd H a o) h' a o):
  Inv X pins σ (upd H a o) {s with heap:=h',toks:=t'}:=I.un (Un.laid k hp (I.hok.fresh hp)) (I.hok.laid k hp new)
theorem Inv.write{x e:Addr}{o:HO}{t':Nat}(I:Inv X pins σ H s)(mu:Mut (H x))(he:e=x\/H e=some (.own x))(k:∀b u,b≠e->s.heap.get? b=some u->h'.get? b=some u)(heo:∃u,h'.get? e=some u)
  (new:zaI X.prog X.w (upd H x o) h' x o):Inv X pins σ (upd H x o) {s with heap:=h',toks:=t'}:=I.un (Un.write mu he k heo) (I.hok.write mu he k heo new)
theorem Inv.pins_of{pins':List (Addr×Obj)}(I:Inv X pins σ H s)(h:∀p∈pins',s.heap.get? p.1=some p.2/\H p.1=none/\p.1≠X.env.locals/\p.1∉X.fs/\∀v,p.2.data≠.cell v):Inv X pins' σ H s:=⟨I.ok,I.os,I.bare,I.base,I.loc,I.cell,I.free,I.freeC,λp hp=>(Zu.mp hp).elim (λz=>I.pin p (List.mem_append_left _ z)) (h p),I.hok,I.len⟩
theorem zfs{N:List Str}(hN:N.Nodup){i j:Nat}{x:Str}(a:N[i]?=some x)(b:N[j]?=some x):i=j:=by obtain⟨h1,e1⟩:=Z3.mp a;obtain⟨h2,e2⟩:=Z3.mp b;exact(List.getElem_inj hN).mp (e1.trans e2.symm)
theorem zkn{M:Model}{A:Around}{E:Value->Shared->Prop}{i:Nat}{x:Str}{v:V}{u:Value}{Q:Unit->Shared->Prop}(I:Inv X pins σ H s)(hN:X.N.Nodup)(hi:X.N[i]?=some x)(hx:Loc X.env.scope x)(r:RelV v u)
    (h:∀s',Inv X pins (σ.set i (some v)) H s'->(∃a,Wx a s.heap s'.heap/\(a=X.env.locals\/X.env.cells.lookup x=some a))->Q () s') (hf:X.fn x=true\/X.env.scope.names.lookup x=some .local:=by first | exact .inl rfl | exact .inr rfl | assumption):wpAny M A (storeName X.env x u) Q E s:=by
  obtain⟨m,hn,hl⟩:=id I.loc
  have hcls:(X.env.scope.kind==.class||(X.env.scope.kind==.module&&X.env.locals != X.env.globals))=false:=by rw[I.ok.kind];rfl
  have hiσ:i<σ.length:=by rw[I.len];exact(Z3.mp hi).1
  have cne:=I.cne
  have tracked:∀{a:Addr} {h':Heap},(∃o,s.heap.get? a=some o/\H a=none)->Wx a s.heap h'->HOk X.prog X.w H h':=λ{a h'} ha hs b ob e=>by
    obtain⟨_,_,hfree⟩:=ha;refine(I.hok b ob e).stay (λc w' hc q=>(hs.2 c ?_).trans q) (λ_ q=>q) λ_ _ q=>q
    rintro rfl
    rcases hc with rfl | hc
    · rw[hfree] at e;cases e
    · rw[hfree] at hc;cases hc
  rcases hx with hk | hk
  · refine wpAny_storeName_local hk hn (λh' hn' hs=>?_) hcls
    obtain⟨oL,_,_,hoL,_⟩:=id hn;refine h _ ⟨I.ok,I.os,I.bare,⟨λb o e n hb hx=>?_,λb o e n hb hx=>?_,I.base.free,λb o e hx=>?_,I.base.tups,I.base.frzs,I.base.tbls⟩,⟨_,hn',λj y v' e1 e2 e3=>?_⟩,λy c e=>?_,I.free,I.freeC,λp hp=>?_,tracked ⟨oL,hoL,I.free⟩ hs,by simpa using I.len⟩ ⟨_,hs,.inl rfl⟩
    · exact(hs.2 b (ZK (ZF (ZU e) I.ok.above))).trans (I.base.keep b o e n hb hx)
    · obtain ⟨sl,e1⟩:=I.base.slot b o e n hb hx
      exact⟨sl,(hs.2 b (ZK (ZF (ZU e) I.ok.above))).trans e1⟩
    · obtain ⟨o',e1⟩:=I.base.there b o e hx
      exact⟨o',(hs.2 b (ZK (ZF (ZU e) I.ok.above))).trans e1⟩
    · by_cases hj:j=i
      · subst hj
        rw[hi] at e1;cases e1
        rw[Zo hiσ] at e2;cases e2;exact⟨u,r,.inl ⟨hk,by simp⟩⟩
      · rw [Zv (YZ hj)] at e2
        obtain⟨u',r',q⟩:=hl j y v' e1 e2 e3;refine⟨u',r',?_⟩
        rcases q with⟨k,e⟩|⟨k,c,e,z⟩
        · refine .inl ⟨k,?_⟩
          have:y≠x:=λe=>hj (zfs hN e1 (e▸hi))
          simp[this,e]
        · exact .inr ⟨k,c,e,z.sameBut hs (cne y c e)⟩
    · obtain ⟨w',z⟩:=I.cell y c e
      exact⟨w',z.sameBut hs (cne y c e)⟩
    · obtain ⟨e,n,ne,nf,d⟩:=I.pin p hp
      exact⟨(hs.2 p.1 ne).trans e,n,ne,nf,d⟩
  · have hfn:X.fn x=true:=by
      rcases hf with z | z
      · exact z
      · rw[z] at hk;cases hk
    obtain⟨c,hc⟩:=I.ok.has x (.inl hk);obtain⟨w',z⟩:=I.cell x c hc;refine wpAny_storeName_cell I.ok.kind hk hc z (λh' hc' hs=>?_);obtain⟨oc,hoc,hocd⟩:=id z;refine h {s with heap:=h'} ⟨I.ok,I.os,I.bare,⟨λb o e n hb hx=>?_,λb o e n hb hx=>?_,I.base.free,λb o e hx=>?_,I.base.tups,I.base.frzs,I.base.tbls⟩,⟨m,hn.sameBut hs (YZ (cne x c hc)),λj y v' e1 e2 e3=>?_⟩,λy c' e=>?_,I.free,I.freeC,λp hp=>?_,tracked ⟨oc,hoc,I.freeC x c hc⟩ hs,by simpa using I.len⟩ ⟨c,hs,.inr hc⟩
    · exact(hs.2 b (ZK (ZF (ZU e) (I.ok.cab x c hfn hc)))).trans (I.base.keep b o e n hb hx)
    · obtain ⟨sl,e1⟩:=I.base.slot b o e n hb hx
      exact⟨sl,(hs.2 b (ZK (ZF (ZU e) (I.ok.cab x c hfn hc)))).trans e1⟩
    · obtain ⟨o',e1⟩:=I.base.there b o e hx
      exact⟨o',(hs.2 b (ZK (ZF (ZU e) (I.ok.cab x c hfn hc)))).trans e1⟩
    · by_cases hj:j=i
      · subst hj
        rw[hi] at e1;cases e1
        rw[Zo hiσ] at e2;cases e2;exact⟨u,r,.inr ⟨.inl hk,c,hc,hc'⟩⟩
      · rw [Zv (YZ hj)] at e2
        obtain⟨u',r',q⟩:=hl j y v' e1 e2 e3;refine⟨u',r',?_⟩
        rcases q with q|⟨k,c',e,z'⟩
        · exact .inl q
        · refine .inr ⟨k,c',e,z'.sameBut hs ?_⟩
          rintro rfl
          exact hj (zfs hN e1 (I.ok.inj _ _ _ e hc▸hi))
    · by_cases hcc:c'=c
      · subst hcc;exact⟨_,hc'⟩
      · obtain ⟨w2,z2⟩:=I.cell y c' e
        exact⟨w2,z2.sameBut hs hcc⟩
    · obtain ⟨e,n,ne,nf,d⟩:=I.pin p hp
      refine⟨(hs.2 p.1 ?_).trans e,n,ne,nf,d⟩;intro q;rw[q,hoc] at e;have q':oc=p.2:=ZR e
      exact d w' (by rw[<-q'];exact hocd)
theorem zeR{M:Model}{A:Around}{E:Value->Shared->Prop}{i:Nat}{x:Str}{v:V}{u:Value}{Q:Unit->Shared->Prop}(I:Inv X pins σ H s)(hN:X.N.Nodup)(hi:X.N[i]?=some x)(hx:Loc X.env.scope x)(r:RelV v u)
  (h:∀s',Inv X pins (σ.set i (some v)) H s'->Q () s') (hf:X.fn x=true\/X.env.scope.names.lookup x=some .local:=by first | exact .inl rfl | exact .inr rfl | assumption):wpAny M A (storeName X.env x u) Q E s:=
 zkn I hN hi hx r (λs' I' _=>h s' I') hf
theorem Inv.call'{s':Shared}{ch:List Addr}(I:Inv X pins σ H s)(ho:s'.os=s.os)(u:Un (frs X.stack) ch H H' s.heap s'.heap)(hok:HOk X.prog X.w H' s'.heap)(hg:Wc s'.gens)
  (hch:∀b∈ch,(b∈X.ex\/X.s₀.heap.objs.size<=b)/\b≠X.env.locals/\(∀x c,X.env.cells.lookup x=some c->c≠b)/\∀p∈X.pn++pins,p.1≠b):Inv X pins σ H' s':=by
 obtain⟨h',g',d',t',o'⟩:=s';have e:o'=s.os:=ho;subst e;exact I.call (g':=g') (t':=t') (d':=d') u hok hg hch
end
abbrev XK:=Value->Option Addr->Hp->Prop
abbrev St:=List (Option V)
abbrev VK:=V->Hp->Prop
abbrev TE:=St->Hp->VK->Prop
abbrev TT:=St->Hp->(Bool->Hp->Prop)->Prop
abbrev TA:=St->Hp->(List V->Hp->Prop)->Prop
structure Ends where
 nx:St->Hp->Prop
 rt:VK
 bk:St->Hp->Prop:=λ_ _=>False
 ct:St->Hp->Prop:=λ_ _=>False
abbrev TS:=Ends->St->Hp->Prop
inductive EP(X:Cx)(pins:List (Addr×Obj))(σ:St)(Q:VK)(u:Value)(s':Shared):Prop where|mk (v:V) (H':Hp) (I:Inv X pins σ H' s') (r:RelV v u) (q:Q v H')
inductive TP(X:Cx)(pins:List (Addr×Obj))(σ:St)(Q:Bool->Hp->Prop)(b:Bool)(s':Shared):Prop where|mk (H':Hp) (I:Inv X pins σ H' s') (q:Q b H')
inductive AP(X:Cx)(pins:List (Addr×Obj))(σ:St)(Q:List V->Hp->Prop)(us:List Value)(s':Shared):Prop where|mk (vs:List V) (H':Hp) (I:Inv X pins σ H' s') (r:Vals vs us) (q:Q vs H')
def SP(X:Cx)(pins:List (Addr×Obj))(D:Ends)(f:Flow)(s':Shared):Prop:=
 match f with|.next=>∃σ' H',Inv X pins σ' H' s'/\D.nx σ' H'|.brk=>∃σ' H',Inv X pins σ' H' s'/\D.bk σ' H'|.cont=>∃σ' H',Inv X pins σ' H' s'/\D.ct σ' H'|.ret u=>∃v σ' H',Inv X pins σ' H' s'/\RelV v u/\D.rt v H'
def PE(X:Cx)(e:Expr)(t:TE):Prop:=∀(pins:List (Addr×Obj)) (s:Shared) (σ:St) (H:Hp) (Q:VK),Inv X pins σ H s->t σ H Q->wpAny (model X.prog X.w) X.A (eval e X.env) (EP X pins σ Q) X.xe s
def PT(X:Cx)(e:Expr)(t:TT):Prop:=∀(pins:List (Addr×Obj)) (s:Shared) (σ:St) (H:Hp) (Q:Bool->Hp->Prop),Inv X pins σ H s->t σ H Q->wpAny (model X.prog X.w) X.A (isTrue e X.env (eval e X.env)) (TP X pins σ Q) X.xe s
def PW(X:Cx)(e:Expr)(t:TT):Prop:=∀(whole:Sem Value) (pins:List (Addr×Obj)) (s:Shared) (σ:St) (H:Hp) (Q:Bool->Hp->Prop),Inv X pins σ H s->t σ H Q->wpAny (model X.prog X.w) X.A (isTrue e X.env whole) (TP X pins σ Q) X.xe s
theorem PW.pt{X:Cx}{e:Expr}{t:TT}(h:PW X e t):PT X e t:=h _
def PA(X:Cx)(es:List Expr)(t:TA):Prop:=∀(pos:Pos) (pins:List (Addr×Obj)) (s:Shared) (σ:St) (H:Hp) (Q:List V->Hp->Prop),Inv X pins σ H s->t σ H Q->wpAny (model X.prog X.w) X.A (spliced (backTo pos (ZT es X.env))) (AP X pins σ Q) X.xe s
def PS(X:Cx)(st:Stmt)(t:TS):Prop:=∀(pins:List (Addr×Obj)) (s:Shared) (σ:St) (H:Hp) (D:Ends),Inv X pins σ H s->t D σ H->wpAny (model X.prog X.w) X.A (exec st X.env) (SP X pins D) X.xe s
def PSs(X:Cx)(st:List Stmt)(t:TS):Prop:=∀(pins:List (Addr×Obj)) (s:Shared) (σ:St) (H:Hp) (D:Ends),Inv X pins σ H s->t D σ H->wpAny (model X.prog X.w) X.A (execs st X.env) (SP X pins D) X.xe s
theorem thn{α:Type}{t:Sem α}{Q Q':α->Shared->Prop}{M:Model}{A:Around}{E:Value->Shared->Prop}{s:Shared}(h:wpAny M A t Q E s)(hQ:∀a s,Q a s->Q' a s):wpAny M A t Q' E s:=ZI h hQ λ_ _ x=>x
section
variable {X:Cx}
def tVar(i:Nat):TE:=λσ H Q=>∃v,σ[i]?=some (some v)/\Q v H
def tC(v:V):TE:=λ_ H Q=>Q v H
theorem zc5{i:Nat}{x:Str}{pos:Pos}(hN:X.N[i]?=some x)(hv:Vis X.env.scope x)(hd:(x==("__debug__":Str))=false:=by decide)(hcd:(x==("__classdict__":Str))=false:=by decide):PE X (.Name x pos) (tVar i):=by
 intro pins s σ H Q I h;obtain⟨v,e,h⟩:=h;obtain⟨m,hn,hl⟩:=I.loc;obtain⟨u,r,l⟩:=hl i x v hN e hv;have fin:EP X pins σ Q u s:=⟨v,H,I,r,h⟩
 rcases l with⟨hk,hm⟩|⟨hk,c,hc,hcell⟩
 ·exact wpAny_Name (wpAny_loadName_local I.ok.kind hk hn hm fin) hd
 ·rcases hk with hk | hk
  ·exact wpAny_Name (wpAny_loadName_cell I.ok.kind hk hc hcell fin) hd
  ·exact wpAny_Name (wpAny_loadName_free I.ok.kind hk hc hcell fin hcd) hd
theorem zqn{i j pos}:PE X (.Constant (.int i) j pos) (tC (.int i)):=λ_ _ _ H _ I h=>wpAny_Constant_int ⟨.int i,H,I.tok _,⟨_,rfl⟩,h⟩
theorem zqr{b j pos}:PE X (.Constant (.bool b) j pos) (tC (.bl b)):=λ_ _ _ H _ I h=>Constant_bool ⟨.bl b,H,I,rfl,h⟩
theorem zrA{j pos}:PE X (.Constant .none j pos) (tC .non):=λ_ _ _ H _ I h=>Constant_none ⟨.non,H,I,rfl,h⟩
theorem zjg{x j pos}:PE X (.Constant (.str x) j pos) (tC (.str x)):=λ_ _ _ H _ I h=>Calls.Constant_str ⟨.str x,H,I.tok _,⟨_,rfl⟩,h⟩
def Gl(X:Cx)(x:Str):Prop:=X.env.kindOf x=some .globalImplicit
theorem zdL{E:Value->Shared->Prop}{pins:List (Addr×Obj)}{s:Shared}{σ:St}{H:Hp}{x:Str}{u:Value}{pos:Pos}{Q:Value->Shared->Prop}(I:Inv X pins σ H s)(hg:Gl X x)(hm:X.mg x=some u)(h:Q u s)
  (hd:(x==("__debug__":Str))=false:=by decide):wpAny (model X.prog X.w) X.A (eval (.Name x pos) X.env) Q E s:=
 XA I.ok.kind hg (Calls.loadGlobal_global (by rw[I.ok.glob];exact I.mod.glob.keeps I.bk) hm h) hd
theorem zfI{E:Value->Shared->Prop}{pins:List (Addr×Obj)}{s:Shared}{σ:St}{H:Hp}{x:Str}{u:Value}{pos:Pos}{Q:Value->Shared->Prop}(I:Inv X pins σ H s)(hg:Gl X x)(hm:X.mg x=none)(hv:XU x=some u)(h:Q u s)
  (hn:x ≠ "__name__":=by decide) (hd:(x==("__debug__":Str))=false:=by decide):wpAny (model X.prog X.w) X.A (eval (.Name x pos) X.env) Q E s:=by
 obtain⟨mb,h1,h2⟩:=I.mod.blt
 exact XA I.ok.kind hg (Calls.loadGlobal_builtin (by rw[I.ok.glob];exact I.mod.glob.keeps I.bk) hm (by rw[I.ok.blt];exact h1.keeps I.bk) ((h2 x hn).trans hv) h) hd
theorem zjO{x:Str}{v:V}{u:Value}{pos:Pos}(hg:Gl X x)(hm:X.mg x=some u)(r:RelV v u)(hd:(x==("__debug__":Str))=false:=by decide):PE X (.Name x pos) (tC v):=fun _ _ _ H _ I h=>zdL I hg hm ⟨v,H,I,r,h⟩ hd
theorem zgQ{x:Str}{v:V}{u:Value}{pos:Pos}(hg:Gl X x)(hm:X.mg x=none)(hv:XU x=some u)(r:RelV v u)(hn:x ≠ "__name__":=by decide)(hd:(x==("__debug__":Str))=false:=by decide):PE X (.Name x pos) (tC v):=fun _ _ _ H _ I h=>zfI I hg hm hv ⟨v,H,I,r,h⟩ hn hd
variable {a b:Expr}{ta tb:TE}{pos:Pos}
def tB(t:TE):TT:=λσ H Q=>t σ H λx H1=>∃c,x=.bl c/\Q c H1
theorem zkr{e:Expr}{t:TE}(h:PE X e t)(he:∀whole,isTrue e X.env whole=(do let v<-whole;Ww e.pos;holding [v] (truthy v)):=by intro _;rfl):PT X e (tB t):=by intro pins s σ H Q I hw;refine isTrue_plain (thn (h pins s σ H _ I hw) λv s1 q_=>?_) (he _);obtain⟨x,H1,I1,r1,q1⟩:=q_;obtain⟨d,rfl,q⟩:=q1;cases r1;exact Yu ⟨H1,I1,q⟩
variable {tA tB':TT}{rest:List Expr}
def tAnd(t u:TT):TT:=λσ H Q=>t σ H λc H1=>if c=true then u σ H1 Q else Q false H1
def tOr(t u:TT):TT:=λσ H Q=>t σ H λc H1=>if c=true then Q true H1 else u σ H1 Q
def tNot(t:TT):TT:=λσ H Q=>t σ H λc H1=>Q (!c) H1
theorem zoM(ha:PT X a tA):PW X (.BoolOp .And [a] pos) tA:=by
 intro wh pins s σ H Q I h;refine isTrue_and (thn (ha pins s σ H Q I h) λc s1 e=>?_)
 cases c with|true=>exact isTrue_and_nil e|false=>exact e
theorem zm2(ha:PT X a tA):PW X (.BoolOp .Or [a] pos) tA:=by
 intro wh pins s σ H Q I h;refine isTrue_or (thn (ha pins s σ H Q I h) λc s1 e=>?_)
 cases c with|false=>exact isTrue_or_nil e|true=>exact e
theorem zrI(ha:PT X a tA)(hb:PW X (.BoolOp .And (b::rest) pos) tB'):PW X (.BoolOp .And (a::b::rest) pos) (tAnd tA tB'):=by
 intro wh pins s σ H Q I h;refine isTrue_and (thn (ha pins s σ H _ I h) λc s1 q_=>?_);obtain⟨H1,I1,q1⟩:=q_
 cases c with|true=>exact hb wh pins s1 σ H1 Q I1 q1|false=>exact⟨H1,I1,q1⟩
theorem zpB(ha:PT X a tA)(hb:PW X (.BoolOp .Or (b::rest) pos) tB'):PW X (.BoolOp .Or (a::b::rest) pos) (tOr tA tB'):=by
 intro wh pins s σ H Q I h;refine isTrue_or (thn (ha pins s σ H _ I h) λc s1 q_=>?_);obtain⟨H1,I1,q1⟩:=q_
 cases c with|true=>exact⟨H1,I1,q1⟩|false=>exact hb wh pins s1 σ H1 Q I1 q1
theorem zk6(ha:PT X a tA):PT X (.UnaryOp .Not a pos) (tNot tA):=by intro pins s σ H Q I h;exact isTrue_not (thn (ha pins s σ H (λc H1=>Q (!c) H1) I h) λ_ _ ⟨H1,I1,q1⟩=>⟨H1,I1,q1⟩)
def zsb(ta tb:TE):TE:=λσ H Q=>ta σ H λx H1=>∃c,x=.bl c/\if c=true then tb σ H1 Q else Q (.bl false) H1
def tOrV(ta tb:TE):TE:=λσ H Q=>ta σ H λx H1=>∃c,x=.bl c/\if c=true then Q (.bl true) H1 else tb σ H1 Q
def zsz(ta:TE):TE:=λσ H Q=>ta σ H λx H1=>∃c,x=.bl c/\Q (.bl (!c)) H1
theorem zia{op}{t:TE}(h:PE X a t):PE X (.BoolOp op [a] pos) t:=λpins s σ H Q I hw=>BoolOp_one (h pins s σ H Q I hw)
theorem znC(ha:PE X a ta)(hb:PE X (.BoolOp .And (b::rest) pos) tb):PE X (.BoolOp .And (a::b::rest) pos) (zsb ta tb):=by
 intro pins s σ H Q I h;refine BoolOp_and (thn (ha pins s σ H _ I h) λv s1 q_=>?_);obtain⟨x,H1,I1,r1,q1⟩:=q_;obtain⟨c,rfl,q1⟩:=q1;cases r1;refine Yu ?_
 cases c with|true=>exact hb pins s1 σ H1 Q I1 q1|false=>exact⟨.bl false,H1,I1,rfl,q1⟩
theorem zpu(ha:PE X a ta)(hb:PE X (.BoolOp .Or (b::rest) pos) tb):PE X (.BoolOp .Or (a::b::rest) pos) (tOrV ta tb):=by
 intro pins s σ H Q I h;refine BoolOp_or (thn (ha pins s σ H _ I h) λv s1 q_=>?_);obtain⟨x,H1,I1,r1,q1⟩:=q_;obtain⟨c,rfl,q1⟩:=q1;cases r1;refine Yu ?_
 cases c with|false=>exact hb pins s1 σ H1 Q I1 q1|true=>exact⟨.bl true,H1,I1,rfl,q1⟩
theorem zqX(ha:PE X a ta):PE X (.UnaryOp .Not a pos) (zsz ta):=by intro pins s σ H Q I h;refine UnaryOp_ (thn (ha pins s σ H _ I h) λv s1 q_=>?_);obtain⟨x,H1,I1,r1,q1⟩:=q_;obtain⟨c,rfl,q1⟩:=q1;cases r1;exact not_of (Yu ⟨.bl (!c),H1,I1,rfl,q1⟩)
def tIf(t:TT)(ta tb:TE):TE:=λσ H Q=>t σ H λc H1=>if c=true then ta σ H1 Q else tb σ H1 Q
theorem zlM{c:Expr}(hc:PT X c tA)(ha:PE X a ta)(hb:PE X b tb):PE X (.IfExp c a b pos) (tIf tA ta tb):=by
 intro pins s σ H Q I h;refine wpAny_IfExp (thn (hc pins s σ H _ I h) λd s1 q_=>?_);obtain⟨H1,I1,q1⟩:=q_
 cases d with|true=>exact ha pins s1 σ H1 Q I1 q1|false=>exact hb pins s1 σ H1 Q I1 q1
end
def SqL(K:Z8)(H:Hp)(a:Addr)(xs:List V):Prop:=
 Rd H a (.lst xs)\/
  ∃(o:Obj) (its:Array Value) (n:Nat),K.lookup a=some o/\o.cls=.type "list"/\o.dict=none/\o.data=.seq its n/\its.size<=sizeLine/\Vals xs its.toList
def SqT(K:Z8)(H:Hp)(a:Addr)(xs:List V):Prop:=
 Rd H a (.tup xs)\/
  ∃(o:Obj) (its:Array Value) (n:Nat),K.lookup a=some o/\o.cls=.type "tuple"/\o.dict=none/\o.data=.seq its n/\its.size<=sizeLine/\Vals xs its.toList
def absV:Value->Option V|.none=>some .non|.bool b=>some (.bl b)|.int i _=>some (.int i)|.str x _=>some (.str x)|.bytes b _=>some (.byt b)|.float b _=>some (.flt b)|.ref a=>some (.ref a)|.type n=>some (.ty n)|_=>none
theorem RelV.abs{x:V}{u:Value}(r:RelV x u):absV u=some x:=by
 cases x with|non=>cases r;rfl|bl _=>cases r;rfl|int _=>obtain⟨t,rfl⟩:=r;rfl|str _=>obtain⟨t,rfl⟩:=r;rfl|byt _=>obtain⟨t,rfl⟩:=r;rfl|flt _=>obtain⟨t,rfl⟩:=r;rfl|ref _=>cases r;rfl|ty _=>cases r;rfl
theorem RelV.inj{x y:V}{u:Value}(r:RelV x u)(q:RelV y u):x=y:=ZR (r.abs.symm.trans q.abs)
theorem Vals.inj:∀{xs ys:List V} {us:List Value},Vals xs us->Vals ys us->xs=ys|_,_,_,.nil,.nil=>rfl|_,_,_,.cons r t,.cons r' t'=>by rw[r.inj r',Vals.inj t t']
section
variable {X:Cx}{pins:List (Addr×Obj)}{σ:St}{H:Hp}{s:Shared}{a:Addr}{xs ys:List V}
theorem SqT.of{K:Z8}(h:H a=some (.tup xs)):SqT K H a xs:=.inl (.inl h)
theorem Inv.list(I:Inv X pins σ H s)(h:SqL X.K H a xs):∃its:List Value,Vals xs its/\PlainL s.heap a its.toArray/\xs.length<=sizeLine:=by
 rcases h with h|⟨o,its,n,hk,hc,hd,hs,hz,r⟩
 ·obtain ⟨z,its,n,r,e⟩:=h.ok I.hok
  exact⟨its,r,⟨_,n,e,rfl,rfl,rfl⟩,z⟩
 ·refine ⟨its.toList,r,⟨o,n,I.kIn a o hk,hc,hd,by simpa using hs⟩,?_⟩
  have e:=r.length;simp only[X5] at e;omega
theorem Inv.tuple(I:Inv X pins σ H s)(h:SqT X.K H a xs):∃its:List Value,Vals xs its/\IsTup s.heap a its.toArray/\xs.length<=sizeLine:=by
 rcases h with h|⟨o,its,n,hk,hc,_,hs,hz,r⟩
 ·obtain ⟨z,its,r,p⟩:=h.ok I.hok
  exact⟨its,r,p.1,z⟩
 ·refine ⟨its.toList,r,⟨o,I.kIn a o hk,hc,n,by simpa using hs⟩,?_⟩
  have e:=r.length;simp only[X5] at e;omega
theorem Inv.tupleB(I:Inv X pins σ H s)(h:SqT X.K H a xs):∀o,s.heap.get? a=some o->o.dict=none:=by
 rcases h with h|⟨o,its,n,hk,hc,hd,hs,hz,r⟩
 ·obtain ⟨z,its,r,p⟩:=h.ok I.hok
  exact p.2
 ·intro o2 e2
  rw[I.kIn a o hk] at e2;cases e2;exact hd
theorem Inv.list_inj(I:Inv X pins σ H s)(h:SqL X.K H a xs)(h':SqL X.K H a ys):xs=ys:=by
 obtain⟨its,r,⟨o,n,e,_,_,d⟩,_⟩:=I.list h;obtain⟨its',r',⟨o',n',e',_,_,d'⟩,_⟩:=I.list h'
 rw[e] at e';cases e'
 rw[d] at d';injection d' with d1 _
 have:its=its':=by simpa using congrArg Array.toList d1
 subst this;exact r.inj r'
theorem Inv.tuple_inj(I:Inv X pins σ H s)(h:SqT X.K H a xs)(h':SqT X.K H a ys):xs=ys:=by
 obtain⟨its,r,⟨o,e,_,n,d⟩,_⟩:=I.tuple h;obtain⟨its',r',⟨o',e',_,n',d'⟩,_⟩:=I.tuple h'
 rw[e] at e';cases e'
 rw[d] at d';injection d' with d1 _
 have:its=its':=by simpa using congrArg Array.toList d1
 subst this;exact r.inj r'
end
abbrev Cx.wish(X:Cx)(E:Value->Shared->Prop):Cx:={X with xe:=E}
abbrev Cx.nox(X:Cx):Cx:=X.wish λ_ _=>False
theorem Cx.Ok.wish{X:Cx}(ok:X.Ok)(E:Value->Shared->Prop):(X.wish E).Ok:=⟨ok.mod,ok.kind,ok.glob,ok.blt,ok.above,ok.inj,ok.has,ok.cab,ok.hd,ok.frames,ok.stk,ok.exf,ok.bs,ok.bsz,ok.noex,ok.exfs,ok.funs,ok.frf⟩
theorem Cx.Ok.unwish{X:Cx}{E:Value->Shared->Prop}(ok:(X.wish E).Ok):X.Ok:=⟨ok.mod,ok.kind,ok.glob,ok.blt,ok.above,ok.inj,ok.has,ok.cab,ok.hd,ok.frames,ok.stk,ok.exf,ok.bs,ok.bsz,ok.noex,ok.exfs,ok.funs,ok.frf⟩
section
variable {X:Cx}{pins:List (Addr×Obj)}{σ:St}{H:Hp}{s:Shared}{E:Value->Shared->Prop}
theorem Inv.wish(I:Inv X pins σ H s)(E:Value->Shared->Prop):Inv (X.wish E) pins σ H s:=⟨I.ok.wish E,I.os,I.bare,I.base,I.loc,I.cell,I.free,I.freeC,I.pin,I.hok,I.len⟩
theorem Inv.unwish(I:Inv (X.wish E) pins σ H s):Inv X pins σ H s:=⟨I.ok.unwish,I.os,I.bare,I.base,I.loc,I.cell,I.free,I.freeC,I.pin,I.hok,I.len⟩
theorem SP.unwish{D:Ends}{f:Flow}{s':Shared}(h:SP (X.wish E) pins D f s'):SP X pins D f s':=by
 cases f with|next=>obtain⟨σ',H',I,q⟩:=h;exact⟨σ',H',I.unwish,q⟩|brk=>obtain⟨σ',H',I,q⟩:=h;exact⟨σ',H',I.unwish,q⟩|cont=>obtain⟨σ',H',I,q⟩:=h;exact⟨σ',H',I.unwish,q⟩|ret u=>obtain⟨v,σ',H',I,r,q⟩:=h;exact⟨v,σ',H',I.unwish,r,q⟩
theorem PE.nox{e:Expr}{t:TE}(h:PE X.nox e t):PE X e t:=λpins s σ H Q I hw=>ZI (h pins s σ H Q (I.wish _) hw) (λ_ _ ⟨v,H',I',r,q⟩=>⟨v,H',I'.unwish,r,q⟩) λ_ _ z=>YS z
theorem PT.nox{e:Expr}{t:TT}(h:PT X.nox e t):PT X e t:=λpins s σ H Q I hw=>ZI (h pins s σ H Q (I.wish _) hw) (λ_ _ ⟨H',I',q⟩=>⟨H',I'.unwish,q⟩) λ_ _ z=>YS z
theorem PSs.nox{st:List Stmt}{t:TS}(h:PSs X.nox st t):PSs X st t:=λpins s σ H D I hw=>ZI (h pins s σ H D (I.wish _) hw) (λ_ _ q=>q.unwish) λ_ _ z=>YS z
end
section
variable {X:Cx}{st:Stmt}{rest:List Stmt}{t u:TS}{e:Expr}{te:TE}{pos:Pos}
def zr5:TS:=λD σ H=>D.nx σ H
def tSeq(t u:TS):TS:=λD σ H=>t {D with nx:=u D} σ H
theorem zlp:PSs X [] zr5:=λ_ _ σ H _ I h=>WE ⟨σ,H,I,h⟩
theorem zcZ(h1:PS X st t)(h2:PSs X rest u):PSs X (st::rest) (tSeq t u):=by
 intro pins s σ H D I h;refine Xu (thn (h1 pins s σ H {D with nx:=u D} I h) λf s1 q=>?_)
 cases f with|next=>obtain⟨σ',H',I',q⟩:=q;exact h2 pins s1 σ' H' D I' q|ret v=>exact q|brk=>exact q|cont=>exact q
theorem zfa(h1:PS X st t):PSs X [st] t:=by
 intro pins s σ H D I h;refine Xu (thn (h1 pins s σ H D I h) λf s1 q=>?_)
 cases f with|next=>exact WE q|ret v=>exact q|brk=>exact q|cont=>exact q
theorem Inv.quiet{pins:List (Addr×Obj)}{σ:St}{H:Hp}{s:Shared}(I:Inv X pins σ H s):interactive X.env=false:=by simp[interactive,I.ok.kind]
def zr8(te:TE):TS:=λD σ H=>te σ H λ_ H1=>D.nx σ H1
theorem zgS(he:PE X e te)(hs:W7 e none pos.line X.env=pure false:=by rfl):PS X (.Expr e pos) (zr8 te):=by intro pins s σ H D I h;exact wpAny_Expr_any (thn (he pins s σ H _ I h) λv s1 ⟨x,H1,I1,r1,q1⟩=>⟨σ,H1,I1,q1⟩) I.quiet hs
def tRet(te:TE):TS:=λD σ H=>te σ H D.rt
theorem zhX(he:PE X e te):PS X (.Return (some e) pos) (tRet te):=by intro pins s σ H D I h;exact wpAny_Return_some (thn (he pins s σ H _ I h) λv s1 ⟨x,H1,I1,r1,q1⟩=>⟨x,σ,H1,I1,r1,q1⟩)
def tIfS(c:TT)(t u:TS):TS:=λD σ H=>c σ H λb H1=>if b=true then t D σ H1 else u D σ H1
theorem zq0{c:Expr}{a b:List Stmt}{tc:TT}(hc:PT X c tc)(ha:PSs X a t)(hb:PSs X b u):PS X (.If c a b pos) (tIfS tc t u):=by
 intro pins s σ H D I h;refine wpAny_If (thn (hc pins s σ H _ I h) λd s1 q_=>?_);obtain⟨H1,I1,q1⟩:=q_
 cases d with|true=>exact ha pins s1 σ H1 D I1 q1|false=>exact hb pins s1 σ H1 D I1 q1
end
abbrev TG:=V->St->Hp->(St->Hp->Prop)->Prop
abbrev TGs:=List V->St->Hp->(St->Hp->Prop)->Prop
def PG(X:Cx)(target:Expr)(t:TG):Prop:=
 ∀ (pins:List (Addr×Obj)) (s:Shared) (σ:St) (H:Hp) (v:V) (u:Value) (Q:St->Hp->Prop),Inv X pins σ H s->RelV v u->t v σ H Q →
  wpAny (model X.prog X.w) X.A (assign target X.env u) (λ_ s'=>∃σ' H',Inv X pins σ' H' s'/\Q σ' H') X.xe s
def PGs(X:Cx)(ts:List Expr)(t:TGs):Prop:=
 ∀ (pins:List (Addr×Obj)) (s:Shared) (σ:St) (H:Hp) (vs:List V) (us:List Value) (Q:St->Hp->Prop),Inv X pins σ H s->Vals vs us->t vs σ H Q →
  wpAny (model X.prog X.w) X.A (assignInOrder ((Zt ts X.env).map (·.2)) us) (λ_ s'=>∃σ' H',Inv X pins σ' H' s'/\Q σ' H') X.xe s
abbrev TSet:=V->V->V->Hp->(Hp->Prop)->Prop
def PSet(X:Cx)(t:TSet):Prop:=
 ∀ (pins:List (Addr×Obj)) (s:Shared) (σ:St) (H:Hp) (o i v:V) (ov iv u:Value) (Q:Hp->Prop),Inv X pins σ H s->RelV o ov->RelV i iv->RelV v u->t o i v H Q →
  wpAny (model X.prog X.w) X.A (setItem ov iv u) (λ_ s'=>∃H',Inv X pins σ H' s'/\Q H') X.xe s
section
variable {X:Cx}{pos:Pos}
def zjv(i:Nat):TG:=λv σ H Q=>Q (σ.set i (some v)) H
theorem zhg{i:Nat}{x:Str}(hN:X.N.Nodup)(hi:X.N[i]?=some x)(hx:Loc X.env.scope x)(hf:X.fn x=true\/X.env.scope.names.lookup x=some .local:=by first | exact .inl rfl | exact .inr rfl | assumption):PG X (.Name x pos) (zjv i):=by intro pins s σ H v u Q I r h;exact wpAny_assign_Name (zeR I hN hi hx r (λs' I'=>⟨_,H,I',h⟩) hf)
def gNil:TGs:=λvs σ H Q=>vs=[]/\Q σ H
def zsN(t:TG)(u:TGs):TGs:=λvs σ H Q=>∃v r,vs=v::r/\t v σ H λσ' H'=>u r σ' H' Q
theorem zjZ:PGs X [] gNil:=by intro pins s σ H vs us Q I r h;obtain⟨e,h⟩:=h;subst e;cases r;exact assignInOrder_nil ⟨σ,H,I,h⟩
theorem zfh{e:Expr}{es:List Expr}{t:TG}{u:TGs}(h1:PG X e t)(h2:PGs X es u)
  (hs:(Zt (e::es) X.env).map (·.2)=assign e X.env::(Zt es X.env).map (·.2):=by rfl):PGs X (e::es) (zsN t u):=by
 intro pins s σ H vs us Q I r h;obtain⟨v,vr,e1,h⟩:=h;subst e1
 cases r with|cons r rr=>rw[hs];refine assignInOrder_cons (thn (h1 pins s σ H _ _ _ I r h) λ_ s1 q_=>?_);obtain⟨σ1,H1,I1,q1⟩:=q_;exact h2 pins s1 σ1 H1 _ _ Q I1 rr q1
def gTup(K:Z8)(n:Nat)(t:TGs):TG:=λv σ H Q=>∃a xs,v=.ref a/\SqT K H a xs/\xs.length=n/\t xs σ H Q
theorem znd{es:List Expr}{k:Nat}{t:TGs}{n:Nat}(hc:X.calm=true)(h:PGs X es t)
  (hn:(Zt es X.env).length=n:=by rfl) (hst:(Zt es X.env).findIdx? (·.1)=none:=by rfl):PG X (.Tuple es k pos) (gTup X.K n t):=by
 intro pins s σ H v u Q I r hw;obtain⟨a,xs,e1,hq,hl,hw⟩:=hw;subst e1;cases r;obtain⟨its,rv,ht,hz⟩:=I.tuple hq;refine assign_Tuple_tuple (I.ok.hd hc) ht (by simp[hn,<-hl,rv.length]) hst λh' hx=>?_;have I1:Inv X pins σ H {s with heap:=h'}:=I.kept (t':=s.toks) λb o e=>hx b o (ZK (ZU e)) e;exact h pins _ σ H xs _ Q I1 (by simpa using rv) hw
def gSub(to ti:TE)(t:TSet):TG:=λv σ H Q=>to σ H λo H1=>ti σ H1 λi H2=>t o i v H2 λH3=>Q σ H3
theorem znl{o i:Expr}{to ti:TE}{t:TSet}(ho:PE X o to)(hi:PE X i ti)(hs:PSet X t)
  (ha:∀v,assign (.Subscript o i pos) X.env v=(do
   let ov<-holding [v] (eval o X.env)
   let iv<-holding [v,ov] (eval i X.env)
   Ww pos
   holding [v,ov,iv] (setItem ov iv v)
   release [v,ov,iv] []):=by intro _;rfl):PG X (.Subscript o i pos) (gSub to ti t):=by
 intro pins s σ H v u Q I r h;rw[ha];refine Z7 (YX (thn (ho pins s σ H _ I h) λov s1 q_=>?_));obtain⟨x,H1,I1,r1,q1⟩:=q_;refine Z7 (YX (thn (hi pins s1 σ H1 _ I1 q1) λiv s2 q_=>?_));obtain⟨y,H2,I2,r2,q2⟩:=q_;refine Z7 (XJ (Z7 (YX (thn (hs pins s2 σ H2 x y v ov iv u _ I2 r1 r2 r q2) λ_ s3 q_=>?_))));obtain⟨H3,I3,q3⟩:=q_;exact wpAny_release ⟨σ,H3,I3,q3⟩
def tAsg(te:TE)(g:TG):TS:=λD σ H=>te σ H λx H1=>g x σ H1 D.nx
theorem zhH{tg e:Expr}{te:TE}{g:TG}(he:PE X e te)(hg:PG X tg g)(hs:Xo [tg] e pos.line X.env=pure false:=by rfl)(hw:Xn [tg] e X.env=pure none:=by rfl)
  (h1:(Zt [tg] X.env).map (·.2)=[assign tg X.env]:=by rfl):PS X (.Assign [tg] e pos) (tAsg te g):=by
 intro pins s σ H D I h;refine wpAny_Assign_stores (thn (he pins s σ H _ I h) λv s1 q_=>?_) hs hw;obtain⟨x,H1,I1,r1,q1⟩:=q_;rw[h1];exact thn (hg pins s1 σ H1 x v _ I1 r1 q1) λ_ s2 q=>q
theorem zqk{i:Nat}{x:Str}{e:Expr}{te:TE}{pos':Pos}(hN:X.N.Nodup)(hi:X.N[i]?=some x)(hx:Loc X.env.scope x)(he:PE X e te)(hs:W7 e (some (.Name x pos')) pos.line X.env=pure false:=by rfl)(hf:X.fn x=true\/X.env.scope.names.lookup x=some .local:=by first | exact .inl rfl | exact .inr rfl | assumption):
  PS X (.Assign [.Name x pos'] e pos) (tAsg te (zjv i)):=by
 intro pins s σ H D I h;refine wpAny_Assign_Name (thn (he pins s σ H _ I h) λv s1 q_=>?_) hs;obtain⟨y,H1,I1,r1,q1⟩:=q_;exact zeR I1 hN hi hx r1 (λs2 I2=>⟨_,H1,I2,q1⟩) hf
end
section
variable {X:Cx}{pos:Pos}
end
structure It where
 go:Nat->Hp->Prop
 yld:Nat->Hp->V->Hp->Prop
 stop:Nat->Hp->Prop
def FpOk(X:Cx)(pins:List (Addr×Obj))(H:Hp)(b:Addr):Prop:=H b=none/\b≠X.env.locals/\b∉X.fs/\(b∈X.ex\/X.s₀.heap.objs.size<=b)/\(∀x c,X.env.cells.lookup x=some c->c≠b)/\∀p∈X.pn++pins,p.1≠b
theorem Inv.fpOk{X:Cx}{pins:List (Addr×Obj)}{σ:St}{H H':Hp}{s:Shared}{b:Addr}(I:Inv X pins σ H s)(hb:s.heap.objs.size<=b)(hn:H' b=none):FpOk X pins H' b:=by
 refine⟨hn,X9 (ZF I.lt hb),I.nofs hb,.inr (Zc I.sz hb),λx c e z=>?_,λp hp z=>?_⟩
 ·obtain ⟨v,q⟩:=I.cell x c e
  exact absurd (ZF q.lt (by rw[z];exact hb)) (YH _)
 ·exact absurd (ZF (ZU (I.pin p hp).1) (by rw[z];exact hb)) (YH _)
structure Turn(P:ZH)(w:World)(K:Z8)(tg:Expr)(J:It)(fp:List Addr)(it:Addr)(tn:Nat->Heap->Prop):Prop where
 mem:it∈fp
 obj:∀i h,tn i h->∀b∈fp,∃o,h.get? b=some o/\∀v,o.data≠.cell v
 keep:∀i h h',tn i h->(∀b∈fp,∀o,h.get? b=some o->h'.get? b=some o)->tn i h'
 item:∀(X:Cx),X.prog=P->X.w=w->X.K=K->X.calm=true->∀(i:Nat) (pins:List (Addr×Obj)) (s:Shared) (σ:St) (H:Hp) (E:Value->Shared->Prop),Inv X pins σ H s->(∀b∈fp,FpOk X pins H b)->tn i s.heap->J.go i H →
  wpAny (model P w) X.A (pyNext (.ref it)) (λr s1=>∃u,r=some u ∧
   wpAny (model P w) X.A (Xf tg (.ref it) u) (λ_ s2=>∃x H',Inv X pins σ H' s2/\RelV x u/\J.yld i H x H'/\tn (i+1) s2.heap/\∀b∈fp,H' b=none) E s1) E s
 done:∀(X:Cx),X.prog=P->X.w=w->X.K=K->X.calm=true->∀(i:Nat) (pins:List (Addr×Obj)) (s:Shared) (σ:St) (H:Hp) (E:Value->Shared->Prop),Inv X pins σ H s->(∀b∈fp,FpOk X pins H b)->tn i s.heap->J.stop i H →
  wpAny (model P w) X.A (pyNext (.ref it)) (λr s1=>r=none/\Inv X pins σ H s1) E s
 self:∀(A:Around) (i:Nat) (s:Shared) (Q:Value->Shared->Prop) (E:Value->Shared->Prop),tn i s.heap->Q (.ref it) s->wpAny (model P w) A (pyIter (.ref it)) Q E s
abbrev TI:=St->Hp->(It->Hp->Prop)->Prop
def PIE(X:Cx)(pins:List (Addr×Obj))(σ:St)(tg:Expr)(R:It->Hp->Prop)(itv:Value)(s2:Shared):Prop:=∃(it:Addr) (fp:List Addr) (tn:Nat->Heap->Prop) (J:It) (H':Hp),itv=.ref it/\Inv X pins σ H' s2/\Turn X.prog X.w X.K tg J fp it tn/\tn 0 s2.heap/\(∀b∈fp,FpOk X pins H' b)/\R J H'
def PI(X:Cx)(tg iter:Expr)(wi:TI):Prop:=
 ∀ (pins:List (Addr×Obj)) (s:Shared) (σ:St) (H:Hp) (R:It->Hp->Prop),Inv X pins σ H s->wi σ H R →
  wpAny (model X.prog X.w) X.A (eval iter X.env) (λv s1=>wpAny (model X.prog X.w) X.A (pyIter v) (PIE X pins σ tg R) X.xe s1) X.xe s
theorem zmt{M:Model}{A:Around}{E:Value->Shared->Prop}{s:Shared}{tg:Expr}{it:Addr}{u:Value}{o:Obj}{n:String}{vs:Array Value}{Q:Unit->Shared->Prop}(ho:s.heap.get? it=some o)(hc:o.cls=.type n)(hd:o.data=.fields vs)
    (hn:["enumerate", "zip", "dict_itemiterator", "dict_reverseitemiterator", "odict_iterator", "itertools.zip_longest", "itertools.pairwise"].contains n=false) (hQ:Q () s):wpAny M A (Xf tg (.ref it) u) Q E s:=by
  unfold Xf
  cases tg <;> first
    |exact ZY hQ
    | (cases u<;>first
        |exact ZY hQ
        | (refine Z7 (wpAny_load ho ?_)
           rw[hc,hd];show wpAny M A (if(["enumerate", "zip", "dict_itemiterator", "dict_reverseitemiterator", "odict_iterator", "itertools.zip_longest", "itertools.pairwise"].contains n&&vs[0]?==some (rawInt _))=true then _ else _) Q E s
           rw[if_neg (by intro h;rw[hn,Yv] at h;cases h)]
           exact ZY hQ))
def Itl(K:Z8)(a:Addr):It:=⟨λi H=>∃xs x,SqL K H a xs/\xs[i]?=some x,λi H x H'=>H'=H/\∀xs,SqL K H a xs->xs[i]?=some x,λi H=>∃xs,SqL K H a xs/\xs.length<=i⟩
def Itt(K:Z8)(a:Addr):It:=⟨λi H=>∃xs x,SqT K H a xs/\xs[i]?=some x,λi H x H'=>H'=H/\∀xs,SqT K H a xs->xs[i]?=some x,λi H=>∃xs,SqT K H a xs/\xs.length<=i⟩
def Itr(lo:Int)(n:Nat):It:=⟨λi _=>i<n,λi H x H'=>H'=H/\x=.int (lo+i),λi _=>n<=i⟩
theorem zjA{P:ZH}{w:World}{K:Z8}{tg:Expr}(a it:Addr):Turn P w K tg (Itl K a) [it] it (λi h=>h.IsListIter it a i) where
 mem:=by simp
 obj:=λi h st b hb=>by
  have e:b=it:=by simpa using hb
  subst e;obtain⟨o,e,c,d⟩:=st
  exact⟨o,e,λv z=>by rw[d] at z;cases z⟩
 keep:=λi h h' st k=>st.at λo e=>k it (by simp) o e
 item:=by
  intro X hP hw hK hc i pins s σ H E I hf st hg;subst hP hw hK;obtain⟨xs,x,hq,hx⟩:=hg;obtain⟨its,rv,p,hz⟩:=I.list hq;obtain⟨u,hu,ru⟩:=rv.get hx;obtain⟨f0,f1,f2,f3,f4,f5⟩:=hf it (by simp);refine wpAny_pyNext_list_item st p.isList (x:=u) (by simpa using hu) λh' st' sb=>?_;have I1:Inv X pins σ H {s with heap:=h'}:=I.turned (t':=s.toks) (λb o hb e=>(sb.2 b hb).trans e) f0 f1 f3 f4 f5;obtain⟨o,e,c,d⟩:=id st'
  exact⟨u,rfl,zmt (s:={s with heap:=h'}) e c d (by decide) ⟨x,H,I1,ru,⟨rfl,λys hy=>by rw[I.list_inj hy hq];exact hx⟩,st',λb hb=>(hf b hb).1⟩⟩
 done:=by
  intro X hP hw hK hc i pins s σ H E I hf st hg;subst hP hw hK;obtain⟨xs,hq,hx⟩:=hg;obtain⟨its,rv,p,hz⟩:=I.list hq;obtain⟨f0,f1,f2,f3,f4,f5⟩:=hf it (by simp);have hl:=rv.length
  exact wpAny_pyNext_list_end (I.ok.hd hc) st p.isList (by simp;omega) λh' eb=>⟨rfl,I.turned (t':=s.toks) (λb o hb e=>eb b o hb e) f0 f1 f3 f4 f5⟩
 self:=λ_ _ _ _ _ st h=>wpAny_pyIter_listiter st h
theorem ziW{P:ZH}{w:World}{K:Z8}{tg:Expr}(a it:Addr):Turn P w K tg (Itt K a) [it] it (λi h=>h.IsTupleIter it a i) where
 mem:=by simp
 obj:=λi h st b hb=>by
  have e:b=it:=by simpa using hb
  subst e;obtain⟨o,e,c,d⟩:=st
  exact⟨o,e,λv z=>by rw[d] at z;cases z⟩
 keep:=λi h h' st k=>st.at λo e=>k it (by simp) o e
 item:=by
  intro X hP hw hK hc i pins s σ H E I hf st hg;subst hP hw hK;obtain⟨xs,x,hq,hx⟩:=hg;obtain⟨its,rv,p,hz⟩:=I.tuple hq;obtain⟨u,hu,ru⟩:=rv.get hx;obtain⟨f0,f1,f2,f3,f4,f5⟩:=hf it (by simp);refine wpAny_pyNext_tuple_item st (show s.heap.IsTuple a its.toArray from p) (x:=u) (by simpa using hu) λh' st' sb=>?_;have I1:Inv X pins σ H {s with heap:=h'}:=I.turned (t':=s.toks) (λb o hb e=>(sb.2 b hb).trans e) f0 f1 f3 f4 f5;obtain⟨o,e,c,d⟩:=id st'
  exact⟨u,rfl,zmt (s:={s with heap:=h'}) e c d (by decide) ⟨x,H,I1,ru,⟨rfl,λys hy=>by rw[I.tuple_inj hy hq];exact hx⟩,st',λb hb=>(hf b hb).1⟩⟩
 done:=by
  intro X hP hw hK hc i pins s σ H E I hf st hg;subst hP hw hK;obtain⟨xs,hq,hx⟩:=hg;obtain⟨its,rv,p,hz⟩:=I.tuple hq;obtain⟨f0,f1,f2,f3,f4,f5⟩:=hf it (by simp);have hl:=rv.length
  exact wpAny_pyNext_tuple_end (I.ok.hd hc) st (show s.heap.IsTuple a its.toArray from p) (by simp;omega) λh' eb=>⟨rfl,I.turned (t':=s.toks) (λb o hb e=>eb b o hb e) f0 f1 f3 f4 f5⟩
 self:=λ_ _ _ _ _ st h=>wpAny_pyIter_tupleiter st h
theorem ziQ{P:ZH}{w:World}{K:Z8}{tg:Expr}(it:Addr)(lo:Int)(n:Nat):Turn P w K tg (Itr lo n) [it] it (λi h=>IsRangeIter h it (lo+(i:Nat)*1) ((n:Int)-(i:Nat)) 1) where
 mem:=by simp
 obj:=λi h st b hb=>by
  have e:b=it:=by simpa using hb
  subst e
  exact ⟨_,st,λv z=>by
   have z':Data.fields _=Data.cell v:=z
   cases z'⟩
 keep:=λi h h' st k=>k it (by simp) _ st
 item:=by intro X hP hw hK hc i pins s σ H E I hf st hg;subst hP hw hK;obtain⟨f0,f1,f2,f3,f4,f5⟩:=hf it (by simp);have W:=Walks.range (prog:=X.prog) (w:=X.w) (I.ok.hd hc) it lo 1 n;refine W.item i s _ _ hg st λv h' tk hv st' kk=>?_;obtain⟨t,rfl⟩:=hv;have I1:Inv X pins σ H {s with heap:=h',toks:=tk}:=I.turned (λb o hb e=>kk b o (by simpa using hb) e) f0 f1 f3 f4 f5;refine⟨_,rfl,zmt (s:={s with heap:=h',toks:=tk}) (n:="range_iterator") st' rfl rfl (by decide) ⟨.int (lo+i),H,I1,⟨t,?_⟩,⟨rfl,rfl⟩,st',λb hb=>(hf b hb).1⟩⟩;rw[Int.mul_one]
 done:=by
  intro X hP hw hK hc i pins s σ H E I hf st hg;subst hP hw hK;obtain⟨f0,f1,f2,f3,f4,f5⟩:=hf it (by simp)
  exact wpAny_pyNext_range_end (I.ok.hd hc) st (by have:n<=i:=hg;omega) λh' eb=>⟨rfl,I.turned (t':=s.toks) (λb o hb e=>eb b o hb e) f0 f1 f3 f4 f5⟩
 self:=λ_ _ _ _ _ st h=>wpAny_pyIter_rangeiter st h
section
variable {X:Cx}{tg:Expr}
theorem zmi{pins:List (Addr×Obj)}{σ:St}{H:Hp}{s:Shared}{R:It->Hp->Prop}{E:Value->Shared->Prop}{lo hi:Int}{t u v:Tok}{tk:Nat}(I:Inv X pins σ H s)(h1:-(2^62)<=lo)(h2:lo<2^62)(h3:-(2^62)<=hi)(h4:hi<2^62)
  (q:R (Itr lo (hi-lo).toNat) H):wpAny (model X.prog X.w) X.A (pyIter (.ref s.heap.objs.size)) (PIE X pins σ tg R) E {s with heap:=s.heap.push {cls:=.type "range",data:=.fields #[.int lo t,.int hi u,.int 1 v]},toks:=tk}:=by
 refine wpAny_pyIter_range (IsRange.new ..) (small_one h1 h2 h3 h4) ?_;have I1:Inv X pins σ H {s with heap:=s.heap.push {cls:=.type "range",data:=.fields #[.int lo t,.int hi u,.int 1 v]},toks:=tk}:=I.kept λb o e=>Z4 _ e
 refine ⟨(s.heap.push {cls:=.type "range",data:=.fields #[.int lo t,.int hi u,.int 1 v]}).objs.size,[(s.heap.push {cls:=.type "range",data:=.fields #[.int lo t,.int hi u,.int 1 v]}).objs.size],_,_,H,rfl,
  I1.kept (t':=tk) λb o e=>Z4 _ e,ziQ _ lo (hi-lo).toNat,?_,λb hb=>?_,q⟩
 ·have e1:lo+((0:Nat):Int)*1=lo:=by simp
  have e2:(((hi-lo).toNat:Nat):Int)-((0:Nat):Int)=Zh.Range.rangeSize lo hi 1:=by rw[rangeSize_one];split<;>omega
  show IsRangeIter _ _ (lo+((0:Nat):Int)*1) ((((hi-lo).toNat:Nat):Int)-((0:Nat):Int)) 1;rw[e1,e2];exact ZC _ rfl
 ·have e:b=(s.heap.push {cls:=.type "range",data:=.fields #[.int lo t,.int hi u,.int 1 v]}).objs.size:=by simpa using hb
  subst e;exact I1.fpOk (ZX _) (I1.hok.fresh (ZX _))
def zst(ta:TA):TI:=λσ H R=>ta σ H λvs H1=>∃j:Int,vs=[.int j]/\-(2^62)<=j/\j<2^62/\R (Itr 0 j.toNat) H1
theorem zk4{a:Expr}{ta:TA}{p pos:Pos}(hg:Gl X "range")(hm:X.mg "range"=none)(ha:PA X [a] ta)(hs:ZT [a] X.env=[(false,eval a X.env)]:=by rfl):PI X tg (.Call (.Name "range" p) [a] [] pos) (zst ta):=by
 intro pins s σ H R I h;refine Call_ (zfI I hg hm boot_range (Wv (thn (ha pos pins s σ H _ I h) λus s1 q_=>?_) hs rfl));obtain⟨vs,H1,I1,r1,q1⟩:=q_;obtain⟨j,e,q1,q2,q⟩:=q1;subst e
 cases r1 with|cons r rr=>cases rr;obtain⟨t,rfl⟩:=r;exact call_range_1 (zmi I1 (by omega) (by omega) q1 q2 (by simpa using q))
def tFor(wi:TI)(g:TG)(tb:TS):TS:=λD σ H=>wi σ H λJ H1=>∃W:Nat->Nat->St->Hp->Prop,(∃m,W 0 m σ H1)/\∀i m σ H,W i m σ H →
 (J.stop i H/\D.nx σ H)\/(J.go i H/\∃N:St->Hp->Prop,(∀σ' H',N σ' H'->∃m',m'<m/\W (i+1) m' σ' H')/\∀x H',J.yld i H x H'->g x σ H' λσ2 H2=>tb {D with nx:=N,ct:=N,bk:=D.nx} σ2 H2)
def zgk(fp:List Addr)(h:Heap):List (Addr×Obj):=fp.filterMap λb=>(h.get? b).map λo=>(b,o)
theorem zbE{fp:List Addr}{h:Heap}{b:Addr}{o:Obj}(hb:b∈fp)(e:h.get? b=some o):(b,o)∈zgk fp h:=W9.mpr ⟨b,hb,by rw[e];rfl⟩
theorem zkC{fp:List Addr}{h:Heap}{p:Addr×Obj}(hp:p∈zgk fp h):p.1∈fp/\h.get? p.1=some p.2:=by
 obtain⟨b,hb,e⟩:=W9.mp hp
 cases q:h.get? b with|none=>rw[q] at e;cases e|some o=>rw[q] at e;have e':(b,o)=p:=ZR e;subst e';exact⟨hb,q⟩
theorem Inv.pinned{pins:List (Addr×Obj)}{σ:St}{H:Hp}{s:Shared}{fp:List Addr}(I:Inv X pins σ H s)(hf:∀b∈fp,FpOk X pins H b)(ho:∀b∈fp,∃o,s.heap.get? b=some o/\∀v,o.data≠.cell v):Inv X (pins++zgk fp s.heap) σ H s:=
 I.pins_of λp hp=>(Zu.mp hp).elim (λz=>I.pin p (ZA _ z)) λz=>by
  obtain⟨hb,e⟩:=zkC z;obtain⟨f0,f1,f2,_⟩:=hf p.1 hb;obtain⟨o,e',d⟩:=ho p.1 hb
  rw[e] at e';cases e'
  exact⟨e,f0,f1,f2,d⟩
theorem Inv.unpinned{pins pl:List (Addr×Obj)}{σ:St}{H:Hp}{s:Shared}(I:Inv X (pins++pl) σ H s):Inv X pins σ H s:=I.pins_of λp hp=>I.pin p (ZA _ (List.mem_append_left _ hp))
theorem zm8{iter:Expr}{body:List Stmt}{wi:TI}{g:TG}{tb:TS}{pos:Pos}(hp:V4 (model X.prog X.w) X.A X.env X.xe)(hc:X.calm=true)(hi:PI X tg iter wi)(hg:PG X tg g)(hb:PSs X body tb)
  (hs:∀x,Yt iter X.env x=pure x:=by intro _;rfl):PS X (.For tg iter body [] pos) (tFor wi g tb):=by
 intro pins s σ H D I h;refine wpAny_For (thn (hi pins s σ H _ I h) λv s1 h1=>thn h1 λitv s2 h2=>?_) hs;obtain⟨it,fp,tn,J,H2,e,I2,T,st2,f2,W,⟨m0,w0⟩,turn⟩:=h2;subst e;have stat:∀{H':Hp},(∀b∈fp,H' b=none)->∀b∈fp,FpOk X pins H' b:=λhn b hb=>⟨hn b hb,(f2 b hb).2⟩;refine codeAny_forLoop_any (λn s'=>∃i σ' H',Inv X pins σ' H' s'/\tn i s'.heap/\(∀b∈fp,H' b=none)/\W i n σ' H') ?_ m0 ⟨0,σ,H2,I2,st2,λb hb=>(f2 b hb).1,w0⟩
 rintro n s3 ⟨i,σ3,H3,I3,st3,fr3,w3⟩
 rcases turn i n σ3 H3 w3 with⟨stop,qn⟩|⟨go,N,hN,step⟩
 ·refine Xe hp (thn (T.done X rfl rfl rfl hc i pins s3 σ3 H3 X.xe I3 (stat fr3) st3 stop) λr s4 q_=>?_)
  obtain⟨hr,I4⟩:=q_;subst hr;exact WE ⟨σ3,H3,I4,qn⟩
 ·refine Xe hp (thn (T.item X rfl rfl rfl hc i pins s3 σ3 H3 X.xe I3 (stat fr3) st3 go) λr s4 q_=>?_)
  obtain⟨u,hr,h4⟩:=q_;subst hr;refine Xe hp (thn h4 λ_ s5 q_=>?_);obtain⟨x,H5,I5,r5,y5,st5,fr5⟩:=q_;have I5':=I5.pinned (stat fr5) (T.obj _ _ st5);refine Xe hp (thn (hg _ s5 σ3 H5 x u _ I5' r5 (step x H5 y5)) λ_ s6 q_=>?_);obtain⟨σ6,H6,I6,q6⟩:=q_;refine Xe hp (thn (hb _ s6 σ6 H6 _ I6 q6) λf s7 q7=>?_)
  have again:∀{σ7:St} {H7:Hp},Inv X (pins++zgk fp s5.heap) σ7 H7 s7->N σ7 H7->∃m,m<n/\∃i σ' H',Inv X pins σ' H' s7/\tn i s7.heap/\(∀b∈fp,H' b=none)/\W i m σ' H':=λ{σ7 H7} I7 n7=>by obtain⟨m',hm,w7⟩:=hN σ7 H7 n7;refine⟨m',hm,i+1,σ7,H7,I7.unpinned,T.keep _ _ _ st5 λb hb o e=>(I7.pin (b,o) (ZA _ (ZA _ (zbE hb e)))).1,λb hb=>?_,w7⟩;obtain⟨o,e,d⟩:=T.obj _ _ st5 b hb;exact(I7.pin (b,o) (ZA _ (ZA _ (zbE hb e)))).2.1
  cases f with|next=>obtain⟨σ7,H7,I7,n7⟩:=q7;exact again I7 n7|cont=>obtain⟨σ7,H7,I7,n7⟩:=q7;exact again I7 n7|brk=>obtain⟨σ7,H7,I7,q7⟩:=q7;exact⟨σ7,H7,I7.unpinned,q7⟩|ret v=>obtain⟨x7,σ7,H7,I7,r7,q7⟩:=q7;exact⟨x7,σ7,H7,I7.unpinned,r7,q7⟩
end
abbrev R2:=V->V->Hp->VK->Prop
def OpR(X:Cx)(f:Value->Value->Sem Value)(r:R2):Prop:=
 ∀ (pins:List (Addr×Obj)) (s:Shared) (σ:St) (H:Hp) (x y:V) (v u:Value) (Q:VK),Inv X pins σ H s->RelV x v->RelV y u->r x y H Q →
  wpAny (model X.prog X.w) X.A (f v u) (EP X pins σ Q) X.xe s
def UnR(X:Cx)(f:Value->Sem Value)(r:V->Hp->VK->Prop):Prop:=
 ∀ (pins:List (Addr×Obj)) (s:Shared) (σ:St) (H:Hp) (x:V) (v:Value) (Q:VK),Inv X pins σ H s->RelV x v->r x H Q →
  wpAny (model X.prog X.w) X.A (f v) (EP X pins σ Q) X.xe s
def zdr(X:Cx)(f:Value)(r:List V->Hp->VK->Prop):Prop:=
 ∀ (pins:List (Addr×Obj)) (s:Shared) (σ:St) (H:Hp) (xs:List V) (us:List Value) (Q:VK),Inv X pins σ H s->Vals xs us->r xs H Q →
  wpAny (model X.prog X.w) X.A (call f us) (EP X pins σ Q) X.xe s
def TruR(X:Cx)(r:V->Hp->(Bool->Hp->Prop)->Prop):Prop:=
 ∀ (pins:List (Addr×Obj)) (s:Shared) (σ:St) (H:Hp) (x:V) (v:Value) (Q:Bool->Hp->Prop),Inv X pins σ H s->RelV x v->r x H Q →
  wpAny (model X.prog X.w) X.A (truthy v) (TP X pins σ Q) X.xe s
def tOp(r:R2)(ta tb:TE):TE:=λσ H Q=>ta σ H λx H1=>tb σ H1 λy H2=>r x y H2 Q
def tUn(r:V->Hp->VK->Prop)(ta:TE):TE:=λσ H Q=>ta σ H λx H1=>r x H1 Q
def rI(C:Int->Int->Prop)(g:Int->Int->V):R2:=λx y H Q=>∃i j,x=.int i/\y=.int j/\C i j/\Q (g i j) H
def rI0(g:Int->Int->V):R2:=λx y H Q=>∃i j,x=.int i/\y=.int j/\Q (g i j) H
def rU(g:Int->V):V->Hp->VK->Prop:=λx H Q=>∃i,x=.int i/\Q (g i) H
section
variable {X:Cx}{a b c:Expr}{ta tb tc:TE}{pos:Pos}
theorem binT(ha:PE X a ta)(hb:PE X b tb){pins:List (Addr×Obj)}{s:Shared}{σ:St}{H:Hp}{R:V->V->Hp->Prop}(I:Inv X pins σ H s)
  (h:ta σ H λx H1=>tb σ H1 λy H2=>R x y H2) {Q:Value->Shared->Prop} {f:Value->Value->Sem Value}
  (hf:∀v u s2 x y H2,Inv X pins σ H2 s2->RelV x v->RelV y u->R x y H2->wpAny (model X.prog X.w) X.A (f v u) Q X.xe s2):
  wpAny (model X.prog X.w) X.A (eval a X.env) (λv s₁=>wpAny (model X.prog X.w) X.A (eval b X.env) (λu s₂=>wpAny (model X.prog X.w) X.A (f v u) Q X.xe s₂) X.xe s₁) X.xe s:=by
 refine thn (ha pins s σ H _ I h) λv s1 q_=>?_;obtain⟨x,H1,I1,r1,q1⟩:=q_;refine thn (hb pins s1 σ H1 _ I1 q1) λu s2 q_=>?_;obtain⟨y,H2,I2,r2,q2⟩:=q_;exact hf v u s2 x y H2 I2 r1 r2 q2
theorem zrR{op:V3}{r:R2}(ho:OpR X (YC op) r)(ha:PE X a ta)(hb:PE X b tb):PE X (.BinOp a op b pos) (tOp r ta tb):=by intro pins s σ H Q I h;exact wpAny_BinOp (binT ha hb I h λv u s2 x y H2 I2 rx ry q=>ho pins s2 σ H2 x y v u Q I2 rx ry q)
theorem zsM{op:UnaryOp}{r:V->Hp->VK->Prop}(ho:UnR X (unaryOp op) r)(ha:PE X a ta):PE X (.UnaryOp op a pos) (tUn r ta):=by intro pins s σ H Q I h;exact UnaryOp_ (thn (ha pins s σ H _ I h) λv s1 ⟨x,H1,I1,r1,q1⟩=>ho pins s1 σ H1 x v Q I1 r1 q1)
theorem opI{f:Value->Value->Sem Value}{C:Int->Int->Prop}{g:Int->Int->Int}
  (rule:∀(i j:Int) (t u:Tok) (s:Shared) (Q:Value->Shared->Prop) (E:Value->Shared->Prop),C i j->Q (.int (g i j) s.toks) {s with toks:=s.toks+1}->wpAny (model X.prog X.w) X.A (f (.int i t) (.int j u)) Q E s):
  OpR X f (rI C λi j=>.int (g i j)):=by
 intro pins s σ H x y v u Q I rx ry h;obtain⟨i,j,rfl,rfl,hc,q⟩:=h;obtain⟨t,rfl⟩:=rx;obtain⟨t',rfl⟩:=ry;exact rule i j t t' s _ _ hc ⟨.int (g i j),H,I.tok _,⟨_,rfl⟩,q⟩
theorem opI0{f:Value->Value->Sem Value}{g:Int->Int->Int}
  (rule:∀(i j:Int) (t u:Tok) (s:Shared) (Q:Value->Shared->Prop) (E:Value->Shared->Prop),Q (.int (g i j) s.toks) {s with toks:=s.toks+1}->wpAny (model X.prog X.w) X.A (f (.int i t) (.int j u)) Q E s):
  OpR X f (rI0 λi j=>.int (g i j)):=by
 intro pins s σ H x y v u Q I rx ry h;obtain⟨i,j,rfl,rfl,q⟩:=h;obtain⟨t,rfl⟩:=rx;obtain⟨t',rfl⟩:=ry;exact rule i j t t' s _ _ ⟨.int (g i j),H,I.tok _,⟨_,rfl⟩,q⟩
theorem opB0{f:Value->Value->Sem Value}{g:Int->Int->Bool}
  (rule:∀(i j:Int) (t u:Tok) (s:Shared) (Q:Value->Shared->Prop) (E:Value->Shared->Prop),Q (.bool (g i j)) s->wpAny (model X.prog X.w) X.A (f (.int i t) (.int j u)) Q E s):
  OpR X f (rI0 λi j=>.bl (g i j)):=by
 intro pins s σ H x y v u Q I rx ry h;obtain⟨i,j,rfl,rfl,q⟩:=h;obtain⟨t,rfl⟩:=rx;obtain⟨t',rfl⟩:=ry;exact rule i j t t' s _ _ ⟨.bl (g i j),H,I,rfl,q⟩
def CMul(i j:Int):Prop:=(-(2^64)<i/\i<2^64)\/(-(2^64)<j/\j<2^64)
theorem CMul.ok{i j:Int}(h:CMul i j):IntMulOk i j:=by
 rcases h with⟨h1,h2⟩|⟨h1,h2⟩
 ·exact .of_left (intBits_le_64 h1 h2)
 ·exact .of_right (intBits_le_64 h1 h2)
theorem zrD:OpR X (YC .Add) (rI0 λi j=>.int (i+j)):=opI0 λ_ _ _ _ _ _ _ q=>add_int q
theorem zrv:OpR X (YC .Sub) (rI0 λi j=>.int (i-j)):=opI0 λ_ _ _ _ _ _ _ q=>sub_int q
theorem zqq:OpR X (YC .Mult) (rI CMul λi j=>.int (i*j)):=opI λ_ _ _ _ _ _ _ hc q=>mul_int q hc.ok
theorem zqC:OpR X (YC .Mod) (rI (λ_ j=>0<j) λi j=>.int (i%j)):=opI λi j _ _ _ _ _ hc q=>by
 have h1:(0:Int)<j:=hc
 exact mod_int' (by omega) (by rw[Int.fmod_eq_emod_of_nonneg i (by omega)];exact q)
theorem unI{f:Value->Sem Value}{g:Int->Int}
  (rule:∀(i:Int) (t:Tok) (s:Shared) (Q:Value->Shared->Prop) (E:Value->Shared->Prop),Q (.int (g i) s.toks) {s with toks:=s.toks+1}->wpAny (model X.prog X.w) X.A (f (.int i t)) Q E s):
  UnR X f (rU λi=>.int (g i)):=by
 intro pins s σ H x v Q I rx h;obtain⟨i,rfl,q⟩:=h;obtain⟨t,rfl⟩:=rx;exact rule i t s _ _ ⟨.int (g i),H,I.tok _,⟨_,rfl⟩,q⟩
theorem zp6:UnR X (unaryOp .USub) (rU λi=>.int (-i)):=unI λ_ _ _ _ _ q=>neg_int q
end
def scal:V->V->Bool
 |.non,.non=>true | .non,.int _=>true | .int _,.non=>true | .non,.bl _=>true | .bl _,.non=>true | .non,.str _=>true | .str _,.non=>true
 |.int _,.int _=>true | .bl _,.bl _=>true | .str _,.str _=>true | .byt _,.byt _=>true
 |.int _,.str _=>true | .str _,.int _=>true | .bl _,.str _=>true | .str _,.bl _=>true
 |_,_=>false
def rEq:R2:=λx y H Q=>scal x y=true/\Q (.bl (decide (x=y))) H
theorem zkD{i j:Int}:decide (V.int i=V.int j)=(i==j):=by rw[YW];simp
theorem zp8{i j:Bool}:decide (V.bl i=V.bl j)=(i==j):=by rw[YW];simp
theorem zoo{i j:Str}:decide (V.str i=V.str j)=(i==j):=by rw[YW];simp
theorem zoz{i j:Array UInt8}:decide (V.byt i=V.byt j)=(i.toList==j.toList):=by rw[YW];cases i;cases j;simp
section
variable {X:Cx}{a b c:Expr}{ta tb tc:TE}{pos:Pos}
theorem zaD{pins:List (Addr×Obj)}{σ:St}{H:Hp}{s:Shared}{Q:VK}{k k':Bool}(I:Inv X pins σ H s)(q:Q (.bl k) H)(e:k=k'):EP X pins σ Q (.bool k') s:=by subst e;exact⟨.bl k,H,I,rfl,q⟩
theorem zsO:OpR X (Zf .Eq) rEq:=by
 intro pins s σ H x y v u Q I rx ry h;obtain⟨hs,q⟩:=h
 cases x with
 |non=>
  cases rx
  cases y with|non=>cases ry;exact PySem.EqNone.eq_none_none (zaD I q (by simp))|bl j=>cases ry;exact PySem.EqNone.eq_none_bool (zaD I q (by simp))|int j=>obtain⟨t',rfl⟩:=ry;exact PySem.EqNone.eq_none_int (zaD I q (by simp))|str j=>obtain⟨t',rfl⟩:=ry;exact PySem.EqNone.eq_none_str (zaD I q (by simp))|_=>exact absurd (show false=true from hs) Y8
 |bl i=>
  cases rx
  cases y with|non=>cases ry;exact PySem.EqNone.eq_bool_none (zaD I q (by simp))|bl j=>cases ry;exact eq_bool (zaD I q zp8)|str j=>obtain⟨t',rfl⟩:=ry;exact PySem.EqMixed.eq_bool_str (zaD I q (by simp))|_=>exact absurd (show false=true from hs) Y8
 |int i=>
  obtain⟨t,rfl⟩:=rx
  cases y with|non=>cases ry;exact PySem.EqNone.eq_int_none (zaD I q (by simp))|int j=>obtain⟨t',rfl⟩:=ry;exact eq_int (zaD I q zkD)|str j=>obtain⟨t',rfl⟩:=ry;exact PySem.EqMixed.eq_int_str (zaD I q (by simp))|_=>exact absurd (show false=true from hs) Y8
 |str i=>
  obtain⟨t,rfl⟩:=rx
  cases y with|non=>cases ry;exact PySem.EqNone.eq_str_none (zaD I q (by simp))|bl j=>cases ry;exact PySem.EqMixed.eq_str_bool (zaD I q (by simp))|int j=>obtain⟨t',rfl⟩:=ry;exact PySem.EqMixed.eq_str_int (zaD I q (by simp))|str j=>obtain⟨t',rfl⟩:=ry;exact eq_str (zaD I q zoo)|_=>exact absurd (show false=true from hs) Y8
 |byt i=>
  obtain⟨t,rfl⟩:=rx
  cases y with|byt j=>obtain⟨t',rfl⟩:=ry;exact PySem.W.eq_bytes (zaD I q zoz)|_=>exact absurd (show false=true from hs) Y8
 |_=>cases y<;>exact absurd (show false=true from hs) Y8
theorem zsl:OpR X (Zf .Lt) (rI0 λi j=>.bl (decide (i<j))):=opB0 λ_ _ _ _ _ _ _ q=>lt_int q
theorem zsJ:OpR X (Zf .LtE) (rI0 λi j=>.bl (decide (i<=j))):=opB0 λ_ _ _ _ _ _ _ q=>le_int q
theorem zrW:OpR X (Zf .Gt) (rI0 λi j=>.bl (decide (j<i))):=opB0 λ_ _ _ _ _ _ _ q=>gt_int q
theorem zsq:OpR X (Zf .GtE) (rI0 λi j=>.bl (decide (j<=i))):=opB0 λ_ _ _ _ _ _ _ q=>ge_int q
theorem zkQ:OpR X (Zf .In) (λx y H Q=>∃i j,x=.str i/\y=.str j/\Q (.bl (!(Zh.Str.occurrences j i 0 j.length 1).isEmpty)) H):=by intro pins s σ H x y v u Q I rx ry h;obtain⟨i,j,rfl,rfl,q⟩:=h;obtain⟨t,rfl⟩:=rx;obtain⟨t',rfl⟩:=ry;exact in_str (zaD I q rfl)
theorem zqI:OpR X (Zf .Is) (λx y H Q=>y=.non/\Q (.bl (decide (x=.non))) H):=by
 intro pins s σ H x y v u Q I rx ry h;obtain⟨rfl,q⟩:=h;cases ry;refine is_none_gen (zaD I q ?_)
 cases x<;>first|(cases rx;rfl)|(obtain⟨t,rfl⟩:=rx;rfl)
theorem znN:OpR X (Zf .IsNot) (λx y H Q=>y=.non/\Q (.bl (!decide (x=.non))) H):=by
 intro pins s σ H x y v u Q I rx ry h;obtain⟨rfl,q⟩:=h;cases ry;refine isnot_none_gen (zaD I q ?_)
 cases x<;>first|(cases rx;rfl)|(obtain⟨t,rfl⟩:=rx;rfl)
theorem zfz:OpR X (Zf .NotIn) (λx y H Q=>∃i j,x=.str i/\y=.str j/\Q (.bl (!(!(Zh.Str.occurrences j i 0 j.length 1).isEmpty))) H):=by intro pins s σ H x y v u Q I rx ry h;obtain⟨i,j,rfl,rfl,q⟩:=h;obtain⟨t,rfl⟩:=rx;obtain⟨t',rfl⟩:=ry;exact notIn_str (zaD I q rfl)
theorem zqV(b:Expr){op:CmpOp}(h:op≠.In:=by decide)(h2:op≠.NotIn:=by decide):Yn op b=false:=by
 have e1:(op==CmpOp.In)=false:=by cases op<;>first | rfl | exact absurd rfl h
 have e2:(op==CmpOp.NotIn)=false:=by cases op<;>first | rfl | exact absurd rfl h2
 cases b<;>simp[Yn,e1,e2]
theorem zjC{op:CmpOp}{r:R2}(ho:OpR X (Zf op) r)(ha:PE X a ta)(hb:PE X b tb)(hm:Yn op b=false):PE X (.Compare a [op] [b] pos) (tOp r ta tb):=by intro pins s σ H Q I h;exact wpAny_Compare1 (binT ha hb I h λv u s2 x y H2 I2 rx ry q=>ho pins s2 σ H2 x y v u Q I2 rx ry q) hm
def zsx(t:TE):TT:=λσ H Q=>t σ H λx H'=>∃k,x=.bl k/\Q k H'
theorem zo2{op:CmpOp}{r:R2}(ho:OpR X (Zf op) r)(ha:PE X a ta)(hb:PE X b tb)(hm:Yn op b=false):PT X (.Compare a [op] [b] pos) (zsx (tOp r ta tb)):=by
 intro pins s σ H Q I h
 refine wpAny_isTrue_Compare1 (thn (ha pins s σ H _ I h) λv s1 ⟨x,H1,I1,r1,q1⟩=>thn (hb pins s1 σ H1 _ I1 q1) λu s2 ⟨y,H2,I2,r2,q2⟩=>thn (ho pins s2 σ H2 x y v u _ I2 r1 r2 q2) λc s3 ⟨z,H3,I3,r3,k,e,q3⟩=>?_) hm
 subst e;cases r3;exact Yu ⟨H3,I3,q3⟩
def TruV(K:Z8)(x:V)(H:Hp)(k:Bool):Prop:=
 match x with|.non=>k=false|.bl b=>k=b|.int i=>k=(i != 0)|.str y=>y.length<=sizeLine/\k=((y.length:Int) != 0)|.byt y=>y.size<=sizeLine/\k=((y.size:Int) != 0)|.ref p=>(∃xs,SqL K H p xs/\k=!xs.isEmpty)\/(∃xs,SqT K H p xs/\k=!xs.isEmpty)\/∃kvs,H p=some (.dK kvs)/\k=!kvs.isEmpty|_=>False
theorem ziD{κ:Type}{kvs:List (κ×V)}{vs:List (κ×Value)}(r:KV kvs vs):(!vs.isEmpty)=!kvs.isEmpty:=by cases r<;>rfl
theorem zbF{xs:List V}{its:List Value}(r:Vals xs its):(!its.toArray.isEmpty)=!xs.isEmpty:=by cases r<;>simp
theorem zdq:(sizeLine:Nat)<2^63:=by rw[YK];decide
theorem zqB:TruR X (λx H Q=>∃k,TruV X.K x H k/\Q k H):=by
 intro pins s σ H x v Q I rx h;obtain⟨k,e,q⟩:=h;have hl:=zdq;have hs:sizeLine=16777216:=YK
 cases x with
 |non=>cases rx;have e':k=false:=e;subst e';exact truthy_none ⟨H,I,q⟩|bl b=>cases rx;have e':k=b:=e;subst e';exact Yu ⟨H,I,q⟩|int i=>obtain⟨t,rfl⟩:=rx;have e':k=(i != 0):=e;subst e';exact PySem.P.truthy_int ⟨H,I,q⟩|str y=>obtain⟨t,rfl⟩:=rx;obtain⟨hy,e'⟩:y.length<=sizeLine/\k=((y.length:Int) != 0):=e;subst e';exact PySem.P.truthy_str (by omega) ⟨H,I.tok _,q⟩|byt y=>obtain⟨t,rfl⟩:=rx;obtain⟨hy,e'⟩:y.size<=sizeLine/\k=((y.size:Int) != 0):=e;subst e';exact PySem.W.truthy_bytes (by omega) ⟨H,I.tok _,q⟩
 | ref p=>
  cases rx;have e':(∃xs,SqL X.K H p xs/\k=!xs.isEmpty)\/(∃xs,SqT X.K H p xs/\k=!xs.isEmpty)\/∃kvs,H p=some (.dK kvs)/\k=!kvs.isEmpty:=e
  rcases e' with⟨xs,hx,e'⟩|⟨xs,hx,e'⟩|⟨kvs,hx,e'⟩
  ·subst e'
   obtain⟨its,r,pl,hz⟩:=I.list hx;have hlen:=r.length
   exact wpAny_truthy_list pl.isList (by simp only[ZV];omega) ⟨H,I.tok _,by rw[zbF r];exact q⟩
  ·subst e'
   obtain⟨its,r,pl,hz⟩:=I.tuple hx;have hlen:=r.length
   exact truthy_tuple pl (by simp only[ZV];omega) ⟨H,I.tok _,by rw[zbF r];exact q⟩
  ·subst e'
   obtain⟨hz,hS,vs,r,m⟩:kvs.length<=sizeLine/\(p==VS)=false/\∃vs,KV kvs vs/\s.heap.DictOf (zjl X.prog X.w) p vs:=I.hok p _ hx;have hlen:kvs.length=vs.length:=WN r
   exact wpAny_truthy_dict hS m (by omega) ⟨H,I.tok _,by rw[ziD r];exact q⟩
 |_=>exact(show False from e).elim
theorem zmD(ha:PE X a ta)(he:∀whole,isTrue a X.env whole=(do let v<-whole;Ww a.pos;holding [v] (truthy v))):
  PT X a (λσ H Q=>ta σ H λx H'=>∃k,TruV X.K x H' k/\Q k H'):=by
 intro pins s σ H Q I h;exact isTrue_plain (thn (ha pins s σ H _ I h) λv s1 ⟨x,H1,I1,r1,q1⟩=>zqB pins s1 σ H1 x v Q I1 r1 q1) (he _)
theorem zix:OpR X (YC .Add) (λx y H Q=>∃i j,x=.str i/\y=.str j/\i.length+j.length<=sizeLine/\Q (.str (i++j)) H):=by intro pins s σ H x y v u Q I rx ry h;obtain⟨i,j,rfl,rfl,hz,q⟩:=h;obtain⟨t,rfl⟩:=rx;obtain⟨t',rfl⟩:=ry;exact add_str (λt' tk=>⟨.str (i++j),H,I.tok _,⟨_,rfl⟩,q⟩) hz
theorem zgT{x:V}{us:List Value}(r:Vals [x] us):∃u,us=[u]/\RelV x u:=by
 cases r with|cons r1 r2=>cases r2;exact⟨_,rfl,r1⟩
def LenV(K:Z8)(x:V)(H:Hp)(n:Nat):Prop:=
 match x with|.str y=>y.length<=sizeLine/\n=y.length|.byt y=>y.size<=sizeLine/\n=y.size|.ref p=>(∃xs,SqL K H p xs/\n=xs.length)\/∃xs,SqT K H p xs/\n=xs.length|_=>False
theorem zfv:zdr X (.builtin "len") (λxs H Q=>∃x n,xs=[x]/\LenV X.K x H n/\Q (.int n) H):=by
 intro pins s σ H xs us Q I r h;obtain⟨x,n,rfl,e,q⟩:=h;obtain⟨u,rfl,rx⟩:=zgT r;have hl:=zdq;have hs:sizeLine=16777216:=YK
 cases x with
 |str y=>obtain⟨t,rfl⟩:=rx;obtain⟨hy,e'⟩:y.length<=sizeLine/\n=y.length:=e;subst e';exact len_str (by omega) ⟨.int _,H,I.tok _,⟨_,rfl⟩,q⟩|byt y=>obtain⟨t,rfl⟩:=rx;obtain⟨hy,e'⟩:y.size<=sizeLine/\n=y.size:=e;subst e';exact PySem.W.len_bytes (by omega) ⟨.int _,H,I.tok _,⟨_,rfl⟩,q⟩
 | ref p=>
  cases rx;have e':(∃xs,SqL X.K H p xs/\n=xs.length)\/∃xs,SqT X.K H p xs/\n=xs.length:=e
  rcases e' with⟨xs,hx,e'⟩|⟨xs,hx,e'⟩
  ·subst e'
   obtain⟨its,r',pl,hz⟩:=I.list hx;have hlen:=r'.length
   exact Calls.call_len_list pl.isList (by simp only[ZV];omega) ⟨.int xs.length,H,I.tok _,⟨_,by simp only[ZV];rw[hlen]⟩,q⟩
  ·subst e'
   obtain⟨its,r',pl,hz⟩:=I.tuple hx;have hlen:=r'.length
   exact len_tuple pl (by simp only[ZV];omega) ⟨.int xs.length,H,I.tok _,⟨_,by simp only[ZV];rw[hlen]⟩,q⟩
 |_=>exact(show False from e).elim
end
section
variable {prog:ZH}{w:World}{A:Around}{E:Value->Shared->Prop}{s:Shared}{K:Z8}{x dx C f:Addr}{mA:Str->Option Value}{name:Str}{v:Value}
end
theorem RelO.some_of{v:V}{o:Option Value}(r:RelO (some v) o):∃u,o=some u/\RelV v u:=by
 cases o with|none=>exact(show False from r).elim|some u=>exact⟨u,rfl,r⟩
theorem zkP{v:V}{u:Value}(r:RelV v u):PySem.W.handedIn u=true:=by
 cases v with|non=>cases (show u=XD from r);rfl|bl b=>cases (show u=Xa b from r);rfl|int i=>obtain⟨t,e⟩:=(show ∃t,u=Value.int i t from r);cases e;rfl|str x=>obtain⟨t,e⟩:=(show ∃t,u=Y1 x t from r);cases e;rfl|byt b=>obtain⟨t,e⟩:=(show ∃t,u=Value.bytes b t from r);cases e;rfl|flt b=>obtain⟨t,e⟩:=(show ∃t,u=Value.float b t from r);cases e;rfl|ref a=>cases (show u=Y9 a from r);rfl|ty n=>cases (show u=Yi n from r);rfl
section
variable {P:ZH}{w:World}{H H':Hp}{h h':Heap}{a C dx:Addr}{fs fs':List (Str×V)}
end
structure Cls(K:Z8)(C:Addr):Prop where
 pg:PySem.W.plainGet K C Str.empty=true
 hd:Wb K C=true
 po:PySem.W.plainOver K C=true
 sa:Y6 K (.ref C) "__setattr__"=some (some (.builtin "object.__setattr__"))
def zpT(K:Z8)(C:Addr)(f:Str):Prop:=Y6 K (.ref C) f=some none
section
variable {X:Cx}{pins:List (Addr×Obj)}{σ:St}{H:Hp}{s:Shared}{a C dx:Addr}{fs:List (Str×V)}{f:Str}{v:V}{A:Around}{E:Value->Shared->Prop}
theorem zpg{prog:ZH}{w:World}{env:Env}{e:Expr}{f:Str}{pos:Pos}{s:Shared}{Q:Value->Shared->Prop}(hb:YG e f env (eval e env)=eval e env)
  (h:wpAny (model prog w) A (eval e env) (λo s₁=>wpAny (model prog w) A (getAttr o f true) Q E s₁) E s):wpAny (model prog w) A (eval (.Attribute e f pos) env) Q E s:=
 Attribute_any_ h (by rw[arm_eval_Attribute,hb])
end
section
variable {X:Cx}{o e value:Expr}{f:Str}{pos pos' tpos:Pos}{ta tv:TE}
end
section
variable {X:Cx}{pins:List (Addr×Obj)}{σ:St}{H:Hp}{s:Shared}{A:Around}{E:Value->Shared->Prop}{Q:Value->Shared->Prop}{c:Value}{b:Bool}
end
structure Room(k:Nat)(A:Around):Prop where
 hd:A.handled=none
 dp:A.depth+3*k+5<recursionLimit
 un:A.units+16*k+200<cLine
theorem Room.mono{j k:Nat}{A:Around}(r:Room k A)(h:j<=k):Room j A:=⟨r.hd,by have:=r.dp;omega,by have:=r.un;omega⟩
theorem Room.deeper{k:Nat}{A:Around}(r:Room (k+1) A)(env:Env):Room k (A.deeper env):=⟨r.hd,by have:=r.dp;show A.depth+1+3*k+5<_;omega,by have:=r.un;show A.units+3+16*k+200<_;omega⟩
theorem zi3{A:Around}{C:Addr}{us:List Value}{kw:List (Str×Value)}:(A.under (.builtin "type.__call__" ⟨.ref C::us,kw⟩)).depth=A.depth+1:=by first | rfl | simp[Around.under,Code.weight,Code.isCreation,Code.isGuard,Code.isCaller,Code.frames,Code.isFrame,guardIds]
theorem ziT{A:Around}{C:Addr}{us:List Value}{kw:List (Str×Value)}:(A.under (.builtin "type.__call__" ⟨.ref C::us,kw⟩)).units=A.units+1:=by first | rfl | simp[Around.under,Code.cUnits,Code.frames,Code.isFrame]
theorem Room.make{k:Nat}{A:Around}(r:Room (k+1) A)(C:Addr)(us:List Value)(kw:List (Str×Value)):Room k (A.under (.builtin "type.__call__" ⟨.ref C::us,kw⟩)):=⟨r.hd,by have:=r.dp;rw[zi3];omega,by have:=r.un;rw[ziT];omega⟩
theorem Room.depth{k:Nat}{A:Around}(r:Room k A):A.depth<recursionLimit:=by have:=r.dp;omega
theorem Room.units{k:Nat}{A:Around}(r:Room k A):A.units+64<cLine:=by have:=r.un;omega
def tNil:TA:=λ_ H Q=>Q [] H
def zsp(ta:TE)(tr:TA):TA:=λσ H Q=>ta σ H λx H1=>tr σ H1 λxs H2=>Q (x::xs) H2
section
variable {X:Cx}{e:Expr}{es:List Expr}{te:TE}{t:TA}{pos:Pos}
theorem zaW:PA X [] tNil:=λ_ _ _ _ H Q I h=>Calls.spliced_nil ⟨[],H,I,.nil,h⟩
theorem zat(ha:PE X e te)(hr:PA X es t)(hs:ZT (e::es) X.env=(false,eval e X.env)::ZT es X.env:=by rfl):PA X (e::es) (zsp te t):=by intro pos pins s σ H Q I h;rw[hs];show wpAny _ _ (spliced ((false,eval e X.env)::backTo pos (ZT es X.env))) _ _ s;refine Calls.spliced_cons (thn (ha pins s σ H _ I h) λu s1 q_=>?_);obtain⟨x,H1,I1,r1,q1⟩:=q_;exact thn (hr pos pins s1 σ H1 _ I1 q1) λus s2 ⟨xs,H2,I2,r2,q2⟩=>⟨x::xs,H2,I2,.cons r1 r2,q2⟩
def tTup(t:TA):TE:=λσ H Q=>t σ H λxs H1=>xs.length<=sizeLine/\∀p,H1 p=none->Q (.ref p) (upd H1 p (.tup xs))
def tLst(t:TA):TE:=λσ H Q=>t σ H λxs H1=>xs.length<=sizeLine/\∀p,H1 p=none->Q (.ref p) (upd H1 p (.lst xs))
theorem znf{x1}(h:PA X es t):PE X (.Tuple es x1 pos) (tTup t):=by
 intro pins s σ H Q I hq
 refine wpAny_Tuple_spliced (thn (h pos pins s σ H _ I hq) λus s1 ⟨xs,H1,I1,r,z,q⟩=>⟨by rw[<-r.length];exact z,?_⟩)
 have hf:H1 s1.heap.objs.size=none:=I1.hok.fresh (ZX _);refine⟨.ref s1.heap.objs.size,upd H1 s1.heap.objs.size (.tup xs),I1.laid (t':=s1.toks) (λb u e=>Z4 _ e) (ZX _) ?_,rfl,q _ hf⟩;exact⟨z,us,r,zbD.new _ _⟩
theorem zrk(h:PA X es t):PE X (.List es pos) (tLst t):=by
 intro pins s σ H Q I hq
 refine wpAny_List_spliced (thn (h pos pins s σ H _ I hq) λus s1 ⟨xs,H1,I1,r,z,q⟩=>⟨by rw[<-r.length];exact z,?_⟩)
 have hf:H1 s1.heap.objs.size=none:=I1.hok.fresh (ZX _);refine⟨.ref s1.heap.objs.size,upd H1 s1.heap.objs.size (.lst xs),I1.laid (t':=s1.toks) (λb u e=>Z4 _ e) (ZX _) ?_,rfl,q _ hf⟩;exact⟨z,us,0,r,ZC _ rfl⟩
end
abbrev Sp:=List V->Hp->VK->XK->Prop
abbrev CXT:=List Env->Hp->Shared->XK->Value->Shared->Prop
structure Env0(P:ZH)(w:World)(K:Z8)(mg:Str->Option Value)(base:Heap)(A:Around)(outer:List Env)(s:Shared)(H:Hp):Prop where
 frames:A.frames=some outer
 mod:Mod K mg base
 bs:∀b o,base.get? b=some o->s.heap.get? b=some o/\H b=none
 bsz:base.objs.size<=s.heap.objs.size
 funs:s.heap.FunFrames base outer
 frf:∀b∈frs outer,H b=none
 hok:HOk P w H s.heap
 bare:Wc s.gens
def CE(outer:List Env)(P:ZH)(w:World)(H:Hp)(s:Shared)(Q:VK)(u:Value)(s':Shared):Prop:=∃v H',s'.os=s.os/\Wc s'.gens/\Un (frs outer) [] H H' s.heap s'.heap/\HOk P w H' s'.heap/\RelV v u/\Q v H'
def CR(CX:CXT)(outer:List Env)(P:ZH)(w:World)(H:Hp)(s:Shared)(Q:VK)(E:XK)(r:Result)(s':Shared):Prop:=
 match r with|.ok (.ret u)=>CE outer P w H s Q u s'|.ok _=>False|.error e=>CX outer H s E e s'
structure FnOk(P:ZH)(w:World)(K:Z8)(mg:Str->Option Value)(base:Heap)(CX:CXT)(k:Nat)(f:Addr)(fd:FuncData)(ps:List Str)(sp:Sp):Prop where
 len:∀vs H Q E,sp vs H Q E->vs.length=ps.length
 run:∀(A:Around) (outer:List Env) (s:Shared) (H:Hp) (args:Args) (us:List Value) (vs:List V) (Q:VK) (E:XK),Room k A->Env0 P w K mg base A outer s H->Vz s fd args (ps.zip us)->Vals vs us->sp vs H Q E →
  XH (model P w) A (.call (.ref f) args) (CR CX outer P w H s Q E) s
theorem FnOk.mono{P:ZH}{w:World}{K:Z8}{mg:Str->Option Value}{base:Heap}{CX:CXT}{j k:Nat}{f:Addr}{fd:FuncData}{ps:List Str}{sp:Sp}(F:FnOk P w K mg base CX j f fd ps sp)(h:j<=k):
  FnOk P w K mg base CX k f fd ps sp:=⟨F.len,λA outer s H args us vs Q E hr=>F.run A outer s H args us vs Q E (hr.mono h)⟩
theorem Env0.make{P:ZH}{w:World}{K:Z8}{mg:Str->Option Value}{base:Heap}{A:Around}{outer:List Env}{s:Shared}{H:Hp}(e:Env0 P w K mg base A outer s H)(C:Addr)(us:List Value)(kw:List (Str×Value)):
    Env0 P w K mg base (A.under (.builtin "type.__call__" ⟨.ref C::us,kw⟩)) outer s H:=⟨by first | exact e.frames | (simpa[Around.under,Code.envs,Code.isFrame,pushEnvs] using e.frames),e.mod,e.bs,e.bsz,e.funs,e.frf,e.hok,e.bare⟩
section
variable {X:Cx}{pins:List (Addr×Obj)}{σ:St}{H:Hp}{s s':Shared}
theorem Inv.env0(I:Inv X pins σ H s):Env0 X.prog X.w X.K X.mg X.base X.A X.stack s H:=⟨I.ok.frames,I.ok.mod,I.bs,Zc I.ok.bsz I.sz,I.stack,I.stkFree,I.hok,I.bare⟩
theorem Inv.after{Q:VK}{u:Value}(I:Inv X pins σ H s)(h:CE X.stack X.prog X.w H s Q u s'):EP X pins σ Q u s':=by obtain⟨v,H',os,bare,un,hok,r,q⟩:=h;obtain⟨hh,g,d,t,os'⟩:=s';obtain rfl:os'=s.os:=os;exact⟨v,H',I.call (h':=hh) (g':=g) (d':=d) (t':=t) (ch:=[]) un hok bare (λb z=>absurd z (by simp)),r,q⟩
end
def zr9(sp:Sp)(dvs:List V)(E:XK)(t:TA):TE:=λσ H Q=>t σ H λvs H1=>sp (vs++dvs) H1 Q E
def zdk(K:Z8)(fd:FuncData)(ps:List Str)(ds:List Value):Prop:=∀(s:Shared) (us:List Value),K.In s.heap->(us++ds).length=ps.length->Vz s fd ⟨us,[]⟩ (ps.zip (us++ds))
theorem zdk.all{K:Z8}{fd:FuncData}{ps:List Str}(h:∀us:List Value,us.length=ps.length->bindArgs fd ⟨us,[]⟩=pure (ps.zip us)):zdk K fd ps []:=λs us _ hl=>by rw[Zg] at hl⊢;exact .of_eq (h us hl)
def zfP(CX:CXT)(X:Cx)(E:XK):Prop:=∀(pins:List (Addr×Obj)) (σ:St) (H:Hp) (s:Shared) (e:Value) (s':Shared),Inv X pins σ H s->CX X.stack H s E e s'->X.xe e s'
section
variable {X:Cx}{CX:CXT}{k:Nat}{f C:Addr}{fd:FuncData}{ps:List Str}{sp:Sp}{dvs:List V}{ds:List Value}{E:XK}{x m:Str}{p pos apos:Pos}{e o:Expr}{es:List Expr}{ta:TE}{t:TA}
theorem zrd{pins:List (Addr×Obj)}{σ:St}{H:Hp}{s:Shared}{Q:VK}{us:List Value}{vs:List V}(F:FnOk X.prog X.w X.K X.mg X.base CX k f fd ps sp)(hr:Room k X.A)(hb:zdk X.K fd ps ds)(hd:Vals dvs ds)(hx:zfP CX X E)
  (I:Inv X pins σ H s) (r:Vals vs us) (h:sp (vs++dvs) H Q E):wpAny (model X.prog X.w) X.A (call (.ref f) us) (EP X pins σ Q) X.xe s:=by
 have r2:Vals (vs++dvs) (us++ds):=r.append hd
 have hl:(us++ds).length=ps.length:=by rw[<-r2.length];exact F.len _ _ _ _ h
 refine WT (XT (F.run X.A X.stack s H ⟨us,[]⟩ (us++ds) (vs++dvs) Q E hr I.env0 (hb s us I.kIn hl) r2 h) λr s' hq=>?_)
 cases r with
 |error e=>exact hx pins σ H s e s' I hq
 |ok fl=>
  cases fl with|ret u=>exact I.after hq|next=>exact YS hq|brk=>exact YS hq|cont=>exact YS hq
theorem zg5(F:FnOk X.prog X.w X.K X.mg X.base CX k f fd ps sp)(hr:Room k X.A)(hg:Gl X x)(hm:X.mg x=some (.ref f))(hk:YO X.K (.ref f)=true)(hb:zdk X.K fd ps ds)(hd:Vals dvs ds)(hx:zfP CX X E)
  (ha:PA X (e::es) t) (hdb:(x==("__debug__":Str))=false:=by decide) (he:ZT (e::es) X.env=(false,eval e X.env)::ZT es X.env:=by rfl) (hpl:(backTo pos (ZT es X.env)).any (·.1)=false:=by rfl):
  PE X (.Call (.Name x p) (e::es) [] pos) (zr9 sp dvs E t):=by
 intro pins s σ H Q I h;refine XR (zdL I hg hm ?_ hdb);refine Wt (h₀:=X.base) I.ok.mod.kin hk (thn (ha pos pins s σ H _ I h) λus s1 ⟨vs,H1,I1,r,q⟩=>⟨I1.kIn,?_⟩) he hpl;exact zrd F hr hb hd hx I1 r q
end
section
variable {X:Cx}{CX:CXT}{k:Nat}{f C:Addr}{fd:FuncData}{ps ks:List Str}{sp:Sp}{E:XK}{x m:Str}{p pos apos kpos:Pos}{e o:Expr}{es:List Expr}{kws:List Yq}{te ta:TE}{t tk:TA}{nm:Option Str}
variable {g:List Value->List Value->List Value}{gV:List V->List V->List V}
end
structure za9(N P:List Str)(sc:Scope):Prop where
 kind:sc.kind=.function
 co:sc.isCoroutine=false
 gen:sc.isGenerator=false
 nd:N.Nodup
 pre:N.take P.length=P
 par:∀x∈P,sc.names.lookup x=some .local\/sc.names.lookup x=some .cell
 nofree:∀y∈sc.names,y.2≠.free
theorem zfB{kindOf:Str->Option X0}{x:Str}:∀{binds:List (Str×Value)} {m:Str->Option Value},(∀v,(x,v)∉binds)->bindL kindOf binds m x=m x
  | [],_,_=>rfl
  | (n, v)::r,m,h=>by
    unfold bindL;rw[zfB λw hw=>h w (Zx _ hw)]
    split
    · have:x≠n:=by rintro rfl;exact h v Zq
      simp[this]
    · rfl
theorem zgr{kindOf:Str->Option X0}{x:Str}:∀{binds:List (Str×Value)} {m:Str->Option Value},(∀v,(x,v)∉binds)->bindC kindOf binds m x=m x
  | [],_,_=>rfl
  | (n, v)::r,m,h=>by
    unfold bindC;rw[zgr λw hw=>h w (Zx _ hw)]
    split
    · rfl
    · have:x≠n:=by rintro rfl;exact h v Zq
      simp[this]
theorem zgv{kindOf:Str->Option X0}{x:Str}{v:Value}:∀{P:List Str} {vs:List Value} {i:Nat} {m:Str->Option Value},P.Nodup->P[i]?=some x->vs[i]?=some v->kindOf x=some .local →
  bindL kindOf (P.zip vs) m x=some v
 | [],_,_,_,_,h,_,_=>by simp at h|_::_,[],_,_,_,_,h,_=>by simp at h
 |p::P,w::vs,0,m,nd,h1,h2,hk=>by
  simp at h1 h2;subst h1;subst h2
  show bindL kindOf ((p,w)::P.zip vs) m p=_;unfold bindL;rw[zfB λv hv=>(Xd.mp nd).1 (VN hv).1,if_pos hk];simp
 |p::P,w::vs,i+1,m,nd,h1,h2,hk=>by show bindL kindOf ((p,w)::P.zip vs) m x=_;unfold bindL;exact zgv (i:=i) (Xd.mp nd).2 (by simpa using h1) (by simpa using h2) hk
theorem zge{kindOf:Str->Option X0}{x:Str}{v:Value}:∀{P:List Str} {vs:List Value} {i:Nat} {m:Str->Option Value},P.Nodup->P[i]?=some x->vs[i]?=some v->kindOf x≠some .local →
  bindC kindOf (P.zip vs) m x=some v
 | [],_,_,_,_,h,_,_=>by simp at h|_::_,[],_,_,_,_,h,_=>by simp at h
 |p::P,w::vs,0,m,nd,h1,h2,hk=>by
  simp at h1 h2;subst h1;subst h2
  show bindC kindOf ((p,w)::P.zip vs) m p=_;unfold bindC;rw[zgr λv hv=>(Xd.mp nd).1 (VN hv).1,if_neg hk];simp
 |p::P,w::vs,i+1,m,nd,h1,h2,hk=>by show bindC kindOf ((p,w)::P.zip vs) m x=_;unfold bindC;exact zge (i:=i) (Xd.mp nd).2 (by simpa using h1) (by simpa using h2) hk
def start(N:List Str)(vs:List V):St:=vs.map some++Z0 (N.length-vs.length) none
def cxOf(CX:CXT)(P:ZH)(w:World)(K:Z8)(mg:Str->Option Value)(base:Heap)(N:List Str)(qual:Str)(scope:Scope)(f:Addr)(cd:Value)(A:Around)(outer:List Env)(s:Shared)(H:Hp)(E:XK):Cx where
 prog:=P
 w:=w
 K:=K
 mg:=mg
 base:=base
 A:=A.deeper (envOfC qual scope s.heap.objs.size f cd)
 N:=N
 s₀:=s
 H₀:=H
 env:=envOfC qual scope s.heap.objs.size f cd
 outer:=outer
 stack:=envOfC qual scope s.heap.objs.size f cd::outer
 ex:=[]
 calm:=true
 fn:=λ_=>true
 pn:=[]
 xe:=λe s'=>wpAny (model P w) (A.deeper (envOfC qual scope s.heap.objs.size f cd)) (leaving (envOfC qual scope s.heap.objs.size f cd) e) (λ_ s''=>CX outer H s E e s'') (λe' s''=>CX outer H s E e' s'') s'
theorem zhN{sc:Scope}{n:Nat}{x:Str}(h:sc.names.lookup x=some .cell):∃c,(cellsFrom n sc.names []).lookup x=some c:=by have q:=PySem.W.cellsFrom_some sc.names n [] (.inl h);exact Option.isSome_iff_exists.mp q
theorem zkH{CX:CXT}{P:ZH}{w:World}{K:Z8}{mg:Str->Option Value}{base:Heap}{N ps:List Str}{qual:Str}{scope:Scope}{f:Addr}{cd:Value}{A:Around}{outer:List Env}{s s1:Shared}{H:Hp}{E:XK}{us:List Value}{vs:List V}
  (S:za9 N ps scope) (hd:A.handled=none) (e0:Env0 P w K mg base A outer s H) (hl:vs.length=ps.length) (r:Vals vs us)
  (x:InCallC s s.heap.objs.size (bindL (envOfC qual scope s.heap.objs.size f cd).kindOf (ps.zip us) λ_=>none) (cellsFrom (s.heap.objs.size+1) scope.names []) (bindC (envOfC qual scope s.heap.objs.size f cd).kindOf (ps.zip us) λ_=>none) s1):
  Inv (cxOf CX P w K mg base N qual scope f cd A outer s H E) [] (start N vs) H s1:=by
 have hpl:ps.length<=N.length:=by have:=congrArg WI S.pre;rw[Zm] at this;omega
 obtain⟨h1,tk,rfl,hk⟩:=x.done;have noA:∀b:Addr,b∉(cxOf CX P w K mg base N qual scope f cd A outer s H E).ex:=λb z=>absurd (show b∈([]:List Addr) from z) (by simp)
 refine ⟨⟨e0.mod,S.kind,rfl,rfl,ZX _,λy z c h1 h2=>?_,λy hy=>?_,λy c _ h=>?_,λ_=>hd,Around.frames_deeper e0.frames,.inr ⟨rfl,rfl⟩,λb z=>absurd z (noA b),e0.bs,e0.bsz,λb _ _=>noA b,λb z=>absurd z (noA b),e0.funs,e0.frf⟩,
  rfl,e0.bare,Un.kept hk,⟨_,x.toInCall.ns,λi y v h1 h2 h3=>?_⟩,λy c h=>⟨_,x.cell y c h⟩,e0.hok.fresh (ZX _),λy c h=>?_,λp hp=>absurd (show p∈([]:List (Addr×Obj)) from hp) (by simp),e0.hok.kept hk,?_⟩
 ·exact name_of_addr x.apart (X4 h1) (X4 h2)
 ·have hy:scope.names.lookup y=some .cell\/scope.names.lookup y=some .free:=hy
  rcases hy with hy | hy
  ·exact zhN hy
  ·exact absurd rfl (S.nofree _ (X4 hy))
 ·exact VV (x.above y c (X4 h))
 ·have hi:i<vs.length:=by
   unfold start at h2
   by_cases hi:i<vs.length
   ·exact hi
   ·rw [Zw (by simpa using hi)] at h2
    rw[List.getElem?_replicate] at h2
    split at h2<;>cases h2
  have ha:vs[i]?=some v:=by
   unfold start at h2;rw[ZG (by simpa using hi),Zs] at h2
   cases e:vs[i]? with|none=>rw[e] at h2;cases h2|some a=>rw[e] at h2;cases h2;rfl
  obtain⟨u,hu,rv⟩:=r.get ha
  have hp:ps[i]?=some y:=by rw[<-S.pre,YN (by omega)];exact h1
  have ndP:ps.Nodup:=by rw[<-S.pre];exact S.nd.sublist (List.take_sublist _ _)
  refine⟨u,rv,?_⟩
  rcases S.par y (List.mem_of_getElem? hp) with k | k
  ·exact .inl ⟨k,zgv ndP hp hu k⟩
  ·obtain ⟨c,e⟩:=zhN (n:=s.heap.objs.size+1) k
   refine .inr ⟨.inl k,c,e,?_⟩;have q:=x.cell y c e
   rw[zge ndP hp hu (by show scope.names.lookup y≠_;rw[k];decide)] at q
   exact q
 ·exact e0.hok.fresh (VV (x.above y c (X4 h)))
 ·unfold start
  show _=N.length;rw[ZZ,Z1,List.length_replicate];omega
theorem znO{CX:CXT}{P:ZH}{w:World}{K:Z8}{mg:Str->Option Value}{base:Heap}{k:Nat}{f:Addr}{name qual:Str}{params:Arguments}{body:List Stmt}{scope:Scope}{dV kV doc pm cdv ct oc:Value}{an od:Option Addr}
  {osl:Array (Option Value)} {N ps:List Str} {sp:Sp} (lk:K.lookup f=some ⟨oc,od,.func (Yp name qual params body scope dV kV doc pm an cdv ct),osl⟩) (hcd:Xz K cdv qual=true) (S:za9 N ps scope)
  (len:∀vs H Q E,sp vs H Q E->vs.length=ps.length)
  (hbody:∀(A:Around) (outer:List Env) (s:Shared) (H:Hp) (vs:List V) (Q:VK) (E:XK),Room k (A.deeper (envOfC qual scope s.heap.objs.size f cdv))->sp vs H Q E →
   ∃t,PSs (cxOf CX P w K mg base N qual scope f cdv A outer s H E) body t/\t {nx:=λ_ H'=>Q .non H',rt:=Q} (start N vs) H):
  FnOk P w K mg base CX (k+1) f (Yp name qual params body scope dV kV doc pm an cdv ct) ps sp:=by
 refine⟨len,λA outer s H args us vs Q E hr e0 hb r hsp=>?_⟩;have hl:=len _ _ _ _ hsp;have KX:K.In s.heap:=e0.mod.kin.keeps λb o e=>(e0.bs b o e).1;have lim:s.heap.NoLimit:=e0.mod.nolimit.keeps λb o e=>(e0.bs b o e).1
 have hkind:∀y∈ps.zip us,scope.names.lookup y.1=some .local\/(scope.names.lookup y.1=some .cell/\((cellsFrom (s.heap.objs.size+1) scope.names []).lookup y.1).isSome=true):=λ⟨n,v⟩ hy=>by
  rcases S.par n (VN hy).1 with q | q
  ·exact .inl q
  ·exact .inr ⟨q,PySem.W.cellsFrom_some _ _ _ (.inl q)⟩
 refine codeAny_call_function hr.depth (KX _ _ lk) rfl S.co S.gen rfl (PySem.W.codeRec_of KX hcd) (hb _ _ _ _ ?_);refine wpAny_newFunctionEnv_cells S.kind hkind λenv he s1 x=>?_;subst he;refine⟨lim.keeps x.toInCall.keep,codeAny_func ?_⟩;obtain⟨t,ht,hq⟩:=hbody A outer s H vs Q E (hr.deeper _) hsp;have I:Inv (cxOf CX P w K mg base N qual scope f cdv A outer s H E) [] (start N vs) H s1:=zkH S hr.hd e0 hl r x;refine ZI (ht [] s1 (start N vs) H _ I hq) (λfl s' hs=>?_) λe s' hs=>hs
 have fin:∀{σ':St} {H':Hp} {v:V} {u:Value},Inv (cxOf CX P w K mg base N qual scope f cdv A outer s H E) [] σ' H' s'->RelV v u->Q v H'->CE outer P w H s Q u s':=fun {σ' H' v u} J rv q=>⟨v,H',J.os,J.bare,J.base,J.hok,rv,q⟩
 cases fl with|ret u=>obtain⟨v,σ',H',J,rv,q⟩:=hs;exact fin J rv q|next=>obtain⟨σ',H',J,q⟩:=hs;exact fin (v:=V.non) (u:=XD) J rfl q|brk=>obtain⟨_,_,_,q⟩:=hs;exact YS q|cont=>obtain⟨_,_,_,q⟩:=hs;exact YS q
section
variable {X:Cx}{x:Str}{p pos:Pos}{e:Expr}{es:List Expr}{t:TA}{id T:String}{r:List V->Hp->VK->Prop}
def tCB(r:List V->Hp->VK->Prop)(t:TA):TE:=λσ H Q=>t σ H λvs H1=>r vs H1 Q
theorem zaY(hc:zdr X (.builtin id) r)(hg:Gl X x)(hm:X.mg x=none)(hv:XU x=some (.builtin id))(ha:PA X (e::es) t)(hn:x ≠ "__name__":=by decide)(hdb:(x==("__debug__":Str))=false:=by decide)
  (he:ZT (e::es) X.env=(false,eval e X.env)::ZT es X.env:=by rfl) (hpl:(backTo pos (ZT es X.env)).any (·.1)=false:=by rfl):PE X (.Call (.Name x p) (e::es) [] pos) (tCB r t):=by
 intro pins s σ H Q I h;refine XR (zfI I hg hm hv ?_ hn hdb);exact PyProof.Rows.callWith_builtin1 (thn (ha pos pins s σ H _ I h) λus s1 ⟨vs,H1,I1,r1,q1⟩=>hc pins s1 σ H1 vs us Q I1 r1 q1) he hpl
theorem zc7(hc:zdr X (.type T) r)(hg:Gl X x)(hm:X.mg x=none)(hv:XU x=some (.type T))(ha:PA X (e::es) t)(hn:x ≠ "__name__":=by decide)(hdb:(x==("__debug__":Str))=false:=by decide)
  (he:ZT (e::es) X.env=(false,eval e X.env)::ZT es X.env:=by rfl) (hpl:(backTo pos (ZT es X.env)).any (·.1)=false:=by rfl):PE X (.Call (.Name x p) (e::es) [] pos) (tCB r t):=by
 intro pins s σ H Q I h;refine XR (zfI I hg hm hv ?_ hn hdb);exact Wv (thn (ha pos pins s σ H _ I h) λus s1 ⟨vs,H1,I1,r1,q1⟩=>hc pins s1 σ H1 vs us Q I1 r1 q1) he hpl
end
end L2
namespace HT
open PySem PyProof.Rows
section
open PySem.SeqAt
open PySem.AutoSeq1 (wpAny_loadPart')
open PySem.MeetsSeq PySem.MeetsSeq2 PySem.MeetsSeq3
end
section
variable {prog:ZH}{w:World}{A:Around}{E:Value->Shared->Prop}{s:Shared}
theorem cat_tup{t b:Addr}{vs ws:List Value}{Q:Value->Shared->Prop}(ht:IsTup s.heap t vs.toArray)(hb:IsTup s.heap b ws.toArray)(hv:vs≠[])
  (h1:ws=[]->Q (.ref t) s) (h2:ws≠[]->Q (.ref s.heap.objs.size) {s with heap:=s.heap.push {cls:=.type "tuple",data:=.seq (vs++ws).toArray}})
  (hsz:vs.length+ws.length<=sizeLine):wpAny (model prog w) A (YC .Add (.ref t) (.ref b)) Q E s:=by
 obtain⟨⟨cls,dd,data,sl⟩,ho,hc,n,hd⟩:=id ht;obtain⟨⟨cls2,dd2,data2,sl2⟩,ho2,hc2,n2,hd2⟩:=id hb;simp only at hc hd hc2 hd2;subst hc hd hc2 hd2
 have e:vs.toArray++ws.toArray=(vs++ws).toArray:=by simp
 by_cases hw:ws=[]
 ·exact concat_meets ⟨_,ho,rfl⟩ ⟨_,ho2,rfl⟩ noFill_tuple_add seq_tuple_add WZ W6 (Xm _ _)
   (tuple_addW1 t b vs.toArray ws.toArray n n2 dd dd2 sl sl2 (by simpa using hv) (by simp[hw])) ⟨ho,ho2,h1 hw⟩
 ·refine concat_meets ⟨_,ho,rfl⟩ ⟨_,ho2,rfl⟩ noFill_tuple_add seq_tuple_add WZ W6 (Xm _ _)
   (tuple_addW2 t b vs.toArray ws.toArray n n2 dd dd2 sl sl2 (by simpa using hv) (by simpa using hw) (by rw[ZV,ZV];exact hsz)) ⟨ho,ho2,?_⟩
  rw[e];exact h2 hw
def sIx(n d:Nat):Option Int->Nat|none=>d|some v=>if v<0 then(v+(n:Int)).toNat else min v.toNat n
theorem sIx_le(n d:Nat)(hd:d<=n)(o:Option Int):sIx n d o<=n:=by
 cases o with
 |none=>exact hd
 |some v=>
  show(if v<0 then(v+(n:Int)).toNat else min v.toNat n)<=n
  by_cases hv:v<0
  ·rw[if_pos hv];omega
  ·rw[if_neg hv];exact Nat.min_le_right _ _
theorem zj1(v:Int)(n d:Nat):(if v<0 then max (v+(n:Int)) 0 else min v (n:Int))=((sIx n d (some v):Nat):Int):=by
 show(if v<0 then max (v+(n:Int)) 0 else min v (n:Int))=(((if v<0 then(v+(n:Int)).toNat else min v.toNat n):Nat):Int)
 by_cases hv:v<0
 ·simp only[if_pos hv];omega
 ·simp only[if_neg hv];omega
theorem zi6(lo hi:Option Int)(n:Nat):Xp lo hi 1 (n:Int)=(((sIx n 0 lo:Nat):Int),((sIx n n hi:Nat):Int)):=by
 have h1:¬((1:Int)<0):=by omega
 unfold Xp;simp only[h1,if_false];refine Prod.ext ?_ ?_
 ·cases lo with|none=>rfl|some v=>exact zj1 v n 0
 ·cases hi with|none=>rfl|some v=>exact zj1 v n n
theorem ziB(i j:Nat):Ye (i:Int) (j:Int) 1=j-i:=by
 unfold Ye
 have h1:(1:Int)>0:=by omega
 simp only[h1,if_true,Int.ediv_one]
 split<;>omega
theorem zeg{v:Value}{o:Option Int}{Q:Option Int->Shared->Prop}(p:IsPart v o)(h:Q o s):wpAny (model prog w) A (Zh.Slice.slicePartIndex v) Q E s:=by
 cases p with|none=>exact slicePart_none h|int i t=>exact slicePart_int h
theorem zbo{sl:Addr}{vl vu:Value}{lo hi:Option Int}{n:Nat}{Q:Int×Int×Nat->Shared->Prop}(hs:s.heap.IsSliceOf sl vl vu .none)(pl:IsPart vl lo)(pu:IsPart vu hi)
    (h:Q (((sIx n 0 lo:Nat):Int),1,sIx n n hi-sIx n 0 lo) s):wpAny (model prog w) A (Wr (.ref sl) (pure (n:Int))) Q E s:=by
  obtain⟨os,hos,hcs,hds⟩:=id hs;unfold Wr Zh.Slice.sliceFields;refine Z7 (Z7 (VI hos hds (x:=vl) rfl (Z7 (VI hos hds (x:=vu) rfl (Z7 (VI hos hds (x:=.none) rfl (ZY ?_)))))));refine Z7 (slicePart_none ?_);show wpAny _ _ (if((1:Int)==0)=true then _ else _) _ _ s;rw[if_neg (by decide)];refine Z7 (zeg pl (Z7 (zeg pu (Z7 (ZY ?_)))));show wpAny _ _ (match Xp lo hi 1 (n:Int) with | (lo,hi)=>pure (lo,(1:Int),Ye lo hi 1)) _ _ s;rw[zi6 lo hi n];show wpAny _ _ (pure (((sIx n 0 lo:Nat):Int),(1:Int),Ye ((sIx n 0 lo:Nat):Int) ((sIx n n hi:Nat):Int) 1)) _ _ s;rw[ziB];exact ZY h
theorem zmb(xs:Array Value)(i k:Nat):((Zk k).filterMap λ(m:Nat)=>xs[((i:Int)+(m:Int)*1).toNat]?).toArray=((xs.toList.drop i).take k).toArray:=by
 have e:(λ(m:Nat)=>xs[((i:Int)+(m:Int)*1).toNat]?)=λm=>xs[i+m]?:=by
  funext m
  have:((i:Int)+(m:Int)*1).toNat=i+m:=by omega
  rw[this]
 rw[e]
 have:=pick_run xs i k
 rw[List.filterMap_map] at this;have e2:((λx=>xs[x]?)∘λx=>i+x)=λm=>xs[i+m]?:=rfl;rw[e2] at this;rw[this]
theorem getItem_tuple_cut{t sl:Addr}{items:Array Value}{vl vu:Value}{lo hi:Option Int}{Q:Value->Shared->Prop}(ht:IsTup s.heap t items)(hs:s.heap.IsSliceOf sl vl vu .none)(pl:IsPart vl lo)(pu:IsPart vu hi)
  (hw:¬(sIx items.size 0 lo=0/\sIx items.size items.size hi=items.size))
  (h:Q (.ref s.heap.objs.size) {s with heap:=s.heap.push {cls:=.type "tuple",data:=.seq ((items.toList.drop (sIx items.size 0 lo)).take (sIx items.size items.size hi-sIx items.size 0 lo)).toArray}})
  (hsz:items.size<=sizeLine):wpAny (model prog w) A (VG (.ref t) (.ref sl)) Q E s:=by
 have htake:sizeOk (.seq ((items.toList.drop (sIx items.size 0 lo)).take (sIx items.size items.size hi-sIx items.size 0 lo)).toArray):=by show((items.toList.drop (sIx items.size 0 lo)).take (sIx items.size items.size hi-sIx items.size 0 lo)).toArray.size<=sizeLine;rw[ZV,Zm,YU,X5];omega
 have hj:sIx items.size items.size hi<=items.size:=sIx_le _ _ (ZX _) hi;obtain⟨os,hos,hcs,hds⟩:=id hs;have hTs:s.TypeIs (.ref sl) "slice":=⟨os,hos,hcs⟩;unfold VG
 try with_reducible refine YX ?_
 first | refine Z7 (ZY ?_) | skip
 refine Z7 (wpAny_sequenceKey ht.typeIs (by decide) ?_)
 refine Z7 (XZ (name:=Yx "__getitem__") ht.typeIs Zd
  (Xv Zd ht.typeIs entry_tuple_getitem ?_ (args_tuple_getitem _ _)))
 show wpAny _ _ (XC (.ref t) >>= _) _ _ s;refine Z7 (tupleItemsOf_ ht ?_);refine Z7 (wpAny_typeOf hTs ?_);rw[if_pos (by decide)];refine Z7 (zbo hs pl pu ?_)
 have hno:¬((((sIx items.size 0 lo:Nat):Int)==0&&(1:Int)==1&&(sIx items.size items.size hi-sIx items.size 0 lo)==items.size)=true):=by intro q;rw[Z9,Z9] at q;have q1:((sIx items.size 0 lo:Nat):Int)=0:=ZP q.1.1;have q2:sIx items.size items.size hi-sIx items.size 0 lo=items.size:=ZP q.2;exact hw ⟨by omega,by omega⟩
 show wpAny _ _ (if(((sIx items.size 0 lo:Nat):Int)==0&&(1:Int)==1&&(sIx items.size items.size hi-sIx items.size 0 lo)==items.size)=true then _ else _) _ _ s;rw[if_neg hno,zmb]
 first|exact Z7 (m:=X7 _) (XG (ZY ⟨_,rfl,ZY h⟩) htake)|exact Z7 (m:=X7 _) (XG (Z7 (ZY (ZY ⟨_,rfl,ZY h⟩))) htake)|exact Z7 (Z7 (m:=X7 _) (XG (ZY (ZY ⟨_,rfl,ZY h⟩)) htake))|exact Z7 (Z7 (m:=X7 _) (XG (ZY ⟨_,rfl,ZY h⟩) htake))
end
end HT
namespace L2
open PySem PySem.Spec PyProof.Rows
abbrev TO:=St->Hp->(Option Int->Hp->Prop)->Prop
def PO(X:Cx)(e:Option Expr)(t:TO):Prop:=
 ∀ (pins:List (Addr×Obj)) (s:Shared) (σ:St) (H:Hp) (Q:Option Int->Hp->Prop),Inv X pins σ H s->t σ H Q →
  wpAny (model X.prog X.w) X.A (evalPart e X.env) (λu s'=>∃o H',Inv X pins σ H' s'/\IsPart u o/\Q o H') X.xe s
def zpi:TO:=λ_ H Q=>Q none H
theorem ziV{ns:List Int}:∀{us:List Value},Vals (ns.map V.int) us->Vy us ns:=by
 induction ns with
 |nil=>intro us r;rw[Xt] at r;cases r;exact .nil
 | cons n ns ih=>
  intro us r;rw[ZL] at r
  cases r with|cons r1 r2=>obtain⟨t,e⟩:=r1;subst e;exact .cons n t (ih r2)
section
variable {X:Cx}{e:Expr}{te:TE}{lo hi:Option Expr}{tl th:TO}{pos p2:Pos}
theorem zoG:PO X none zpi:=by intro pins s σ H Q I h;rw[evalPart_none];exact ZY ⟨none,H,I,.none,h⟩
def SlR(X:Cx)(r:V->Option Int->Option Int->Hp->VK->Prop):Prop:=
 ∀ (pins:List (Addr×Obj)) (s:Shared) (σ:St) (H:Hp) (x:V) (v vl vu:Value) (lo hi:Option Int) (sl:Addr) (Q:VK),Inv X pins σ H s->RelV x v->s.heap.IsSliceOf sl vl vu .none->IsPart vl lo->IsPart vu hi->r x lo hi H Q →
  ∃T id,typeLookup (.type T) "__getitem__"=pure (some (.builtin id))/\s.TypeIs v T/\wpAny (model X.prog X.w) X.A (VG v (.ref sl)) (EP X pins σ Q) X.xe s
def tSl(r:V->Option Int->Option Int->Hp->VK->Prop)(te:TE)(tl th:TO):TE:=λσ H Q=>te σ H λx H1=>tl σ H1 λl H2=>th σ H2 λu H3=>r x l u H3 Q
theorem zlX{r:V->Option Int->Option Int->Hp->VK->Prop}(hr:SlR X r)(he:PE X e te)(hl:PO X lo tl)(hu:PO X hi th):PE X (.Subscript e (.Slice lo hi none p2) pos) (tSl r te tl th):=by intro pins s σ H Q I h;refine Subscript_ (thn (he pins s σ H _ I h) λv s1 q_=>?_);obtain⟨x,H1,I1,r1,q1⟩:=q_;refine wpAny_Slice (thn (hl pins s1 σ H1 _ I1 q1) λvl s2 ⟨l,H2,I2,pl,q2⟩=>thn (hu pins s2 σ H2 _ I2 q2) λvu s3 q_=>?_);obtain⟨u,H3,I3,pu,q3⟩:=q_;rw[evalPart_none];refine ZY ?_;have I4:Inv X pins σ H3 {s3 with heap:=s3.heap.push {cls:=.type "slice",data:=.fields #[vl,vu,.none]}}:=I3.kept (t':=s3.toks) λb ob q=>Z4 _ q;obtain⟨T,id,hT,ht,hg⟩:=hr pins {s3 with heap:=s3.heap.push {cls:=.type "slice",data:=.fields #[vl,vu,.none]}} σ H3 x v vl vu l u s3.heap.objs.size Q I4 r1 (Heap.IsSliceOf.new ..) pl pu q3;show wpAny (model X.prog X.w) X.A (subscriptTail e (.Slice lo hi none p2) v (.ref s3.heap.objs.size)) (EP X pins σ Q) X.xe {s3 with heap:=s3.heap.push {cls:=.type "slice",data:=.fields #[vl,vu,.none]}};exact tail_any (ops:=[.ref s3.heap.objs.size,v]) ht hT hg (by with_unfolding_all rfl)
def cutV(xs:List V)(lo hi:Option Int):List V:=(xs.drop (HT.sIx xs.length 0 lo)).take (HT.sIx xs.length xs.length hi-HT.sIx xs.length 0 lo)
theorem zdM(xs:List V)(lo hi:Option Int):(cutV xs lo hi).length<=xs.length:=by unfold cutV;rw[Zm,YU];omega
def rSlT(K:Z8):V->Option Int->Option Int->Hp->VK->Prop:=λx lo hi H Q=>∃a xs,x=.ref a/\SqT K H a xs ∧
 ¬(HT.sIx xs.length 0 lo=0/\HT.sIx xs.length xs.length hi=xs.length)/\∀p,H p=none->Q (.ref p) (upd H p (.tup (cutV xs lo hi)))
theorem zqf:SlR X (rSlT X.K):=by
 intro pins s σ H x v vl vu lo hi sl Q I rx hs pl pu h;obtain⟨a,xs,rfl,hx,hw,q⟩:=h;cases rx;obtain⟨its,r,ht,hz⟩:=I.tuple hx
 have hlen:its.toArray.size=xs.length:=by rw[ZV];exact r.length.symm
 refine⟨"tuple",_,Zd.lookup,ht.typeIs,?_⟩
 refine HT.getItem_tuple_cut ht hs pl pu (by rw[hlen];exact hw) ?_ (by rw[hlen];exact hz)
 rw[hlen];refine⟨.ref s.heap.objs.size,_,I.laid (t':=s.toks) (o:=.tup (cutV xs lo hi)) (λb ob q=>Z4 _ q) (ZX _) ?_,rfl,q _ (I.hok.fresh (ZX _))⟩;exact⟨Zc (zdM xs lo hi) hz,_,(r.drop (HT.sIx xs.length 0 lo)).take (HT.sIx xs.length xs.length hi-HT.sIx xs.length 0 lo),zbD.new _ _⟩
def zsK(K:Z8):R2:=λx y H Q=>∃a b xs ys,x=.ref a/\y=.ref b/\SqT K H a xs/\SqT K H b ys/\xs≠[]/\xs.length+ys.length<=sizeLine ∧
 (ys=[]->Q (.ref a) H)/\(ys≠[]->∀p,H p=none->Q (.ref p) (upd H p (.tup (xs++ys))))
theorem Vals.nil_iff{xs:List V}{us:List Value}(r:Vals xs us):us=[]↔xs=[]:=by
 cases r with|nil=>simp|cons _ _=>simp
theorem zn9:OpR X (YC .Add) (zsK X.K):=by
 intro pins s σ H x y v u Q I rx ry h;obtain⟨a,b,xs,ys,rfl,rfl,ha,hb,hx,hz,q1,q2⟩:=h;cases rx;cases ry;obtain⟨its,r1,p1,_⟩:=I.tuple ha;obtain⟨its2,r2,p2,_⟩:=I.tuple hb
 refine HT.cat_tup p1 p2 (λz=>hx (r1.nil_iff.mp z)) (λz=>⟨.ref a,H,I,rfl,q1 (r2.nil_iff.mp z)⟩) (λz=>?_) (by rw[<-r1.length,<-r2.length];exact hz)
 refine⟨.ref s.heap.objs.size,_,I.laid (t':=s.toks) (o:=.tup (xs++ys)) (λb ob q=>Z4 _ q) (ZX _) ?_,rfl,q2 (λw=>z (r2.nil_iff.mpr w)) _ (I.hok.fresh (ZX _))⟩
 exact⟨by rw[ZZ];exact hz,_,r1.append r2,zbD.new _ _⟩
end
def ixN(n:Nat)(i:Int):Option Nat:=if 0<=i then(if i<n then some i.toNat else none) else if -(n:Int)<=i then some (i+n).toNat else none
def atI{α:Type}(xs:List α)(i:Int):Option α:=(ixN xs.length i).bind λj=>xs[j]?
theorem zkJ{n:Nat}{i:Int}{j:Nat}(h:ixN n i=some j):seqIndex? i n=some j/\j<n/\-(n:Int)<=i/\i<n:=by
 unfold ixN at h
 by_cases h0:0<=i
 ·rw [if_pos h0] at h
  by_cases h1:i<n
  ·rw [if_pos h1] at h
   have e:i.toNat=j:=ZR h;exact⟨by rw[seqIndex_of h0 h1,e],by omega,by omega,h1⟩
  ·rw[if_neg h1] at h;cases h
 ·rw [if_neg h0] at h
  by_cases h1:-(n:Int)<=i
  ·rw [if_pos h1] at h
   have e:(i+n).toNat=j:=ZR h;exact⟨by rw[seqIndex_neg (by omega) h1,e],by omega,h1,by omega⟩
  ·rw[if_neg h1] at h;cases h
theorem zhf{α:Type}{xs:List α}{i:Int}{v:α}(h:atI xs i=some v):∃j,seqIndex? i xs.length=some j/\xs[j]?=some v/\j<xs.length/\-(xs.length:Int)<=i/\i<xs.length:=by
 unfold atI at h
 cases e:ixN xs.length i with|none=>rw[e] at h;cases h|some j=>rw[e] at h;obtain⟨h1,h2,h3,h4⟩:=zkJ e;exact⟨j,h1,h,h2,h3,h4⟩
def zhe(b:Expr):Prop:=∀o i,subscripted b false o i=operate [o,i] (VG o i)
def IxR(X:Cx)(r:R2):Prop:=
 ∀ (value slice:Expr) (pins:List (Addr×Obj)) (s:Shared) (σ:St) (H:Hp) (x y:V) (v u:Value) (Q:VK),Inv X pins σ H s->RelV x v->RelV y u->r x y H Q →
  subscripted slice false v u=operate [v,u] (VG v u)->wpAny (model X.prog X.w) X.A (subscriptTail value slice v u) (EP X pins σ Q) X.xe s
def MtR(X:Cx)(id:String)(r:V->List V->Hp->VK->Prop):Prop:=
 ∀ (pins:List (Addr×Obj)) (s:Shared) (σ:St) (H:Hp) (x:V) (xs:List V) (v:Value) (us:List Value) (Q:VK),Inv X pins σ H s->RelV x v->Vals xs us->r x xs H Q →
  wpAny (model X.prog X.w) X.A (call (.builtin id) (v::us)) (EP X pins σ Q) X.xe s
section
variable {X:Cx}{a b:Expr}{ta tb:TE}{pos:Pos}
theorem zsm{r:R2}(hr:IxR X r)(ha:PE X a ta)(hb:PE X b tb)(hs:zhe b):PE X (.Subscript a b pos) (tOp r ta tb):=by intro pins s σ H Q I h;exact Subscript_ (binT ha hb I h λv u s2 x y H2 I2 rx ry q=>hr a b pins s2 σ H2 x y v u Q I2 rx ry q (hs _ _))
def rIxL(K:Z8):R2:=λx y H Q=>∃p xs i v,x=.ref p/\y=.int i/\SqL K H p xs/\atI xs i=some v/\Q v H
def rIxT(K:Z8):R2:=λx y H Q=>∃p xs i v,x=.ref p/\y=.int i/\SqT K H p xs/\atI xs i=some v/\Q v H
def rIxS:R2:=λx y H Q=>∃z i c,x=.str z/\y=.int i/\z.length<=sizeLine/\atI z.cps.toList i=some c/\Q (.str ⟨#[c]⟩) H
theorem zo6:IxR X (rIxL X.K):=by
 intro value slice pins s σ H x y v u Q I rx ry h hs;obtain⟨p,xs,i,z,rfl,rfl,hq,he,q⟩:=h;cases rx;obtain⟨t,rfl⟩:=ry;obtain⟨its,r,pl,hz⟩:=I.list hq;obtain⟨j,h1,h2,h3,h4,h5⟩:=zhf he;obtain⟨w,ew,rw'⟩:=r.get h2;have hl:=r.length;have hn:=zdq;have fin:EP X pins σ Q w s:=⟨z,H,I,rw',q⟩
 by_cases h0:0<=i
 ·have hj:i.toNat=j:=by
   rw[seqIndex_of h0 h5] at h1;exact ZR h1
  exact item_listR pl.isList h0 (by omega) (by rw[hj];simpa using ew) fin hs
 ·have hj:(i+(its.toArray.size:Int)).toNat=j:=by
   rw[seqIndex_neg (by omega) h4] at h1;rw[ZV,<-hl];exact ZR h1
  exact subscriptTail_builtinR (x:=w) pl.isList.typeIs slot_list_getitem.lookup
   (wpAny_getItem_list_neg (Q:=λr s'=>r=w/\EP X pins σ Q r s') pl.isList (by omega) (by rw[ZV]<;>omega) (by omega) (by rw[hj];simpa using ew) ⟨rfl,fin⟩) hs
theorem zqN:IxR X (rIxT X.K):=by
 intro value slice pins s σ H x y v u Q I rx ry h hs;obtain⟨p,xs,i,z,rfl,rfl,hq,he,q⟩:=h;cases rx;obtain⟨t,rfl⟩:=ry;obtain⟨its,r,pl,hz⟩:=I.tuple hq;obtain⟨j,h1,h2,h3,h4,h5⟩:=zhf he;obtain⟨w,ew,rw'⟩:=r.get h2;have hl:=r.length;have hn:=zdq;have fin:EP X pins σ Q w s:=⟨z,H,I,rw',q⟩
 exact subscriptTail_builtinR (x:=w) pl.typeIs slot_tuple_getitem.lookup
  (getItem_tuple (j:=j) (Q:=λr s'=>r=w/\EP X pins σ Q r s') pl (by omega) (by omega) (by rw[ZV,<-hl];exact h1) (by simpa using ew) ⟨rfl,fin⟩) hs
theorem zpR:IxR X rIxS:=by
 intro value slice pins s σ H x y v u Q I rx ry h hs;obtain⟨z,i,c,rfl,rfl,hz,he,q⟩:=h;obtain⟨t,rfl⟩:=rx;obtain⟨t',rfl⟩:=ry;obtain⟨j,h1,h2,h3,h4,h5⟩:=zhf he
 have hl:z.cps.toList.length=z.length:=by simp[Str.length]
 rw[hl] at h1 h4 h5;have hn:=zdq
 exact tail_any (XQ s z t) slot_str_getitem.lookup (getItem_str (c:=c) (by
  have e1:decide (i < -(2^63:Int))=false:=decide_eq_false (by omega);have e2:decide (i>=2^63)=false:=decide_eq_false (by omega)
  rw[e1,e2,Bool.or_false]) (by rw[h1];simpa using h2) ⟨.str ⟨#[c]⟩,H,I.tok _,⟨_,rfl⟩,q⟩) hs
theorem ziP(its:List Value)(n j:Nat)(u:Value):X6 (·.setIfInBounds j u) {cls:=.type "list",data:=.seq its.toArray n}={cls:=.type "list",data:=.seq (its.set j u).toArray n}:=by simp[X6]
theorem Inv.lst{pins:List (Addr×Obj)}{σ:St}{H:Hp}{s:Shared}{p:Addr}{xs:List V}(I:Inv X pins σ H s)(h:H p=some (.lst xs)):
  ∃(its:List Value) (n:Nat),Vals xs its/\s.heap.get? p=some {cls:=.type "list",data:=.seq its.toArray n}/\xs.length<=sizeLine:=by
 obtain⟨z,its,n,r,e⟩:=I.hok p _ h;exact⟨its,n,r,e,z⟩
theorem Inv.lstUpd{pins:List (Addr×Obj)}{σ:St}{H:Hp}{s:Shared}{p:Addr}{xs ys:List V}{its its':List Value}{n n':Nat}{f:Obj->Obj}(I:Inv X pins σ H s)(h:H p=some (.lst xs))
  (ho:s.heap.get? p=some {cls:=.type "list",data:=.seq its.toArray n}) (hf:f {cls:=.type "list",data:=.seq its.toArray n}={cls:=.type "list",data:=.seq its'.toArray n'}) (r:Vals ys its') (hz:ys.length<=sizeLine) (t:Nat):
  Inv X pins σ (upd H p (.lst ys)) {s with heap:=s.heap.update p f,toks:=t}:=by
 have e:(s.heap.update p f).get? p=some {cls:=.type "list",data:=.seq its'.toArray n'}:=by rw[Yg f ho (by rw[hf]<;>rfl),hf]
 refine I.write (x:=p) (e:=p) (by rw[h];trivial) (.inl rfl) (λb u hb q=>(YT _ _ (YZ hb)).trans q) ⟨_,e⟩ ?_
 exact⟨hz,its',n',r,e⟩
def zsn:V->V->V->Hp->(Hp->Prop)->Prop:=λo i v H Q=>∃p xs k j,o=.ref p/\i=.int k/\H p=some (.lst xs)/\ixN xs.length k=some j/\Q (upd H p (.lst (xs.set j v)))
theorem zlx:PSet X zsn:=by
 intro pins s σ H o i v ov iv u Q I ro ri rv h;obtain⟨p,xs,k,j,rfl,rfl,hp,hj,q⟩:=h;cases ro;obtain⟨t,rfl⟩:=ri;obtain⟨its,n,r,ho,hz⟩:=I.lst hp;obtain⟨h1,h2,h3,h4⟩:=zkJ hj;have hl:=r.length;have hn:=zdq
 have I':Inv X pins σ (upd H p (.lst (xs.set j v))) {s with heap:=s.heap.update p (X6 (·.setIfInBounds j u))}:=I.lstUpd hp ho (ziP its n j u) (r.set rv j) (by rw[VM];exact hz) s.toks
 by_cases h0:0<=k
 ·have hk:k.toNat=j:=by
   rw[seqIndex_of h0 h4] at h1;exact ZR h1
  exact PySem.W.ki_setAt ho h0 (by omega) (by rw[ZV,<-hl];exact h4) (by rw[hk];exact⟨_,I',q⟩)
 ·have hk:(k+(its.toArray.size:Int)).toNat=j:=by
   rw[seqIndex_neg (by omega) h3] at h1;rw[ZV,<-hl];exact ZR h1
  exact PySem.W.ki_setBack ho (by omega) (by rw[ZV,<-hl];exact h3) (by omega) (by rw[hk];exact⟨_,I',q⟩)
theorem zfV(lo hi:Option Int)(n:Nat):(W5 lo hi none n).1=((HT.sIx n 0 lo:Nat):Int)/\(W5 lo hi none n).2.1=((HT.sIx n n hi:Nat):Int)/\(W5 lo hi none n).2.2=1:=by
 refine⟨?_,?_,rfl⟩
 ·cases lo with
  |none=>simp[W5,HT.sIx]
  |some i=>
   simp only[W5,HT.sIx,Option.getD_none,show(1:Int)>0 by decide,if_true]
   by_cases h:i<0
   ·simp only[h,if_true]<;>omega
   ·simp only[h,if_false]<;>omega
 ·cases hi with
  |none=>simp[W5,HT.sIx]
  |some i=>
   simp only[W5,HT.sIx,Option.getD_none,show(1:Int)>0 by decide,if_true]
   by_cases h:i<0
   ·simp only[h,if_true]<;>omega
   ·simp only[h,if_false]<;>omega
theorem zez(its:List Value)(lo hi:Option Int):slicePick its.toArray lo hi none=((its.drop (HT.sIx its.length 0 lo)).take (HT.sIx its.length its.length hi-HT.sIx its.length 0 lo)).toArray:=by
 obtain⟨h1,h2,h3⟩:=zfV lo hi its.toArray.size;unfold slicePick;rw[h1,h2,h3]
 simp only[sliceRange_one,pick_run,ZV]<;>rfl
def rSlL(K:Z8):V->Option Int->Option Int->Hp->VK->Prop:=λx lo hi H Q=>∃a xs,x=.ref a/\SqL K H a xs/\∀p,H p=none->Q (.ref p) (upd H p (.lst (cutV xs lo hi)))
theorem zox:SlR X (rSlL X.K):=by
 intro pins s σ H x v vl vu lo hi sl Q I rx hs pl pu h;obtain⟨a,xs,rfl,hx,q⟩:=h;cases rx;obtain⟨its,r,ht,hz⟩:=I.list hx;have hlen:=r.length;refine⟨"list",_,slot_list_getitem.lookup,ht.isList.typeIs,?_⟩
 refine wpAny_getItem_list_slice ht.isList hs pl pu .none (by simp) ?_ (by rw[ZV]<;>omega)
 rw[zez,<-hlen];refine⟨.ref s.heap.objs.size,_,I.laid (t':=s.toks) (o:=.lst (cutV xs lo hi)) (λb ob q=>Z4 _ q) (ZX _) ?_,rfl,q _ (I.hok.fresh (ZX _))⟩;exact⟨Zc (zdM xs lo hi) hz,_,0,(r.drop (HT.sIx xs.length 0 lo)).take (HT.sIx xs.length xs.length hi-HT.sIx xs.length 0 lo),ZC _ rfl⟩
theorem zgB:zdr X (.type "list") (λxs H Q=>∃p ys,xs=[.ref p]/\(SqL X.K H p ys\/SqT X.K H p ys)/\∀l,H l=none->Q (.ref l) (upd H l (.lst ys))):=by
 intro pins s σ H xs us Q I r h;obtain⟨p,ys,rfl,hq,q⟩:=h;obtain⟨u,rfl,rx⟩:=zgT r;cases rx
 have fin:∀(its:List Value),Vals ys its->ys.length<=sizeLine->∀(h':Heap) (c':Nat),(∀b o',s.heap.get? b=some o'->h'.get? b=some o') →
   h'.get? s.heap.objs.size=some {cls:=.type "list",dict:=none,data:=.seq its.toArray c',slots:=#[]}->EP X pins σ Q (.ref s.heap.objs.size) {s with heap:=h'}:=λits r' hz h' c' kp e=>
  ⟨.ref s.heap.objs.size,_,I.laid (t':=s.toks) kp (ZX _) (show zaI X.prog X.w _ h' _ (.lst ys) from⟨hz,its,c',r',e⟩),rfl,q _ (I.hok.fresh (ZX _))⟩
 rcases hq with hq | hq
 ·obtain ⟨its,r',pl,hz⟩:=I.list hq
  have hlen:=r'.length;obtain⟨o,ho,hc,n,hd⟩:=pl.isList
  exact call_list_seq p (.inl rfl) ho hc hd (λh' c' kp e=>fin its r' hz h' c' kp e) (by simp only[ZV]<;>omega)
 ·obtain ⟨its,r',pl,hz⟩:=I.tuple hq
  have hlen:=r'.length;obtain⟨o,ho,hc,n,hd⟩:=pl
  exact call_list_seq p (.inr rfl) ho hc hd (λh' c' kp e=>fin its r' hz h' c' kp e) (by simp only[ZV]<;>omega)
theorem zce:zdr X (.type "tuple") (λxs H Q=>∃p ys,xs=[.ref p]/\((SqL X.K H p ys/\∀l,H l=none->Q (.ref l) (upd H l (.tup ys)))\/(SqT X.K H p ys/\Q (.ref p) H))):=by
 intro pins s σ H xs us Q I r h;obtain⟨p,ys,rfl,h⟩:=h;obtain⟨u,rfl,rx⟩:=zgT r;cases rx
 rcases h with⟨hq,q⟩|⟨hq,q⟩
 ·obtain ⟨its,r',pl,hz⟩:=I.list hq
  have hlen:=r'.length
  refine call_tuple_list pl.isList (λh' kp=>?_) (by simp only[ZV]<;>omega)
  have I1:Inv X pins σ H {s with heap:=h'}:=I.kept (t':=s.toks) kp
  have I2:Inv X pins σ (upd H h'.objs.size (.tup ys)) {s with heap:=h'.push {cls:=.type "tuple",data:=.seq its.toArray}}:=I1.laid (t':=s.toks) (λb o e=>Z4 _ e) (ZX _) (show zaI X.prog X.w _ _ _ (.tup ys) from⟨hz,its,r',zbD.new _ _⟩)
  exact⟨.ref h'.objs.size,_,I2,rfl,q _ (I1.hok.fresh (ZX _))⟩
 ·obtain ⟨its,r',pl,hz⟩:=I.tuple hq
  exact call_tuple_same pl ⟨.ref p,H,I,rfl,q⟩
def tyV(K:Z8)(T:String)(x:V)(H:Hp):Prop:=match x with
 |.str _=>T="str"|.int _=>T="int"
 | .ref p=>(T="list"/\∃xs,SqL K H p xs)\/(T="tuple"/\∃xs,SqT K H p xs)\/
   (T="dict"/\((∃kvs,H p=some (.dK kvs))\/∃kvs,Rd H p (.dT kvs)))\/(T="set"/\∃S n,H p=some (.set S n))
 |_=>False
theorem zrB{pins:List (Addr×Obj)}{σ:St}{H:Hp}{s:Shared}{T:String}{x:V}{v:Value}(I:Inv X pins σ H s)(r:RelV x v)(ty:tyV X.K T x H):
  s.TypeIs v T/\∀a,v=.ref a->∃ob,s.heap.get? a=some ob/\ob.dict=none:=by
 cases x with
 |str z=>
  obtain⟨t,rfl⟩:=r
  cases (show T="str" from ty)
  exact⟨XQ s z t,λ_ e=>nomatch e⟩
 |int i=>
  obtain⟨t,rfl⟩:=r
  cases (show T="int" from ty)
  exact⟨VR s i t,λ_ e=>nomatch e⟩
 | ref p=>
  cases r
  rcases ty with⟨rfl,xs,hq⟩|⟨rfl,xs,hq⟩|⟨rfl,hk⟩|⟨rfl,S,n,hk⟩
  ·obtain ⟨its,_,pl,_⟩:=I.list hq
   refine⟨pl.isList.typeIs,λa e=>?_⟩;cases e;obtain⟨o,n,e,c,hd,_⟩:=pl;exact⟨o,e,hd⟩
  ·obtain ⟨its,_,⟨o,e,c,_⟩,_⟩:=I.tuple hq
   refine⟨⟨o,e,c⟩,λa e2=>?_⟩;cases e2;exact⟨o,e,I.tupleB hq o e⟩
  ·have z:∃o,s.heap.get? p=some o/\o.ExactDict:=by
    rcases hk with⟨kvs,hk⟩|⟨kvs,hk⟩
    ·obtain ⟨_,_,_,_,o,_,_,e,ex,_⟩:=I.hok p _ hk
     exact⟨o,e,ex⟩
    ·obtain ⟨_,_,_,_,o,_,_,e,ex,_⟩:=(show zaI X.prog X.w H s.heap p (.dT kvs) from hk.ok I.hok)
     exact⟨o,e,ex⟩
   obtain⟨o,e,ex⟩:=z;refine⟨⟨o,e,ex.1⟩,λa e2=>?_⟩;cases e2;exact⟨o,e,ex.2.1⟩
  ·obtain ⟨o,_,_,_,e,ex,_⟩:=I.hok p _ hk
   refine⟨⟨o,e,ex.1⟩,λa e2=>?_⟩;cases e2;exact⟨o,e,ex.2.1⟩
 |_=>exact YS ty
def tBM(K:Z8)(T:String)(r:V->List V->Hp->VK->Prop)(to:TE)(t:TA):TE:=λσ H Q=>to σ H λx H1=>tyV K T x H1/\t σ H1 λxs H2=>r x xs H2 Q
variable {o e:Expr}{es:List Expr}{to:TE}{t:TA}{name:Str}{apos cpos:Pos}{T id:String}{r:V->List V->Hp->VK->Prop}
theorem zkW(pa:PlainAttrs T)(slot:Slot T name id)(hty:typeOf (.builtin id)=pure (.type "method_descriptor"))(hm:MtR X id r)(ho:PE X o to)(ha:PA X (e::es) t)
  (hbase:YG o name X.env (eval o X.env)=eval o X.env:=by rfl)
  (hfew:((backTo cpos (ZT (e::es) X.env)).all (λx=>!x.1)&&(Xl cpos (Ym [] X.env)).all (λx=>x.1.isSome)
   && decide ((e::es).length+([]:List Yq).length+(if([]:List Yq).isEmpty then 0 else 1)<30))=true:=by rfl)
  (hline:(apos.endLine==cpos.line)=true:=by rfl) (hs:ZT (e::es) X.env=(false,eval e X.env)::ZT es X.env:=by rfl) (hplain:(backTo cpos (ZT es X.env)).any (·.1)=false:=by rfl):
  PE X (.Call (.Attribute o name apos) (e::es) [] cpos) (tBM X.K T r to t):=by
 intro pins s σ H Q I h;refine wpAny_Call_method_late hbase hfew hline rfl (thn (ho pins s σ H _ I h) λv s1 q_=>?_);obtain⟨x,H1,I1,r1,ty,q1⟩:=q_;obtain⟨h1,h2⟩:=zrB I1 r1 ty;refine⟨T,id,pa,slot,hty,h1,h2,?_⟩;have hA:=ha cpos pins s1 σ H1 _ I1 q1;rw[hs] at hA⊢
 refine Calls.callWith_builtin (by show(false||(backTo cpos (ZT es X.env)).any (·.1))=false;rw[hplain]<;>rfl) (Calls.evalArgs_plain ?_)
 exact thn hA λus s2 ⟨vs,H2,I2,r2,q2⟩=>hm pins s2 σ H2 x vs v us Q I2 r1 r2 q2
/- xs.append(e),list.index on a module's tuple .. are MtR facts of 06m -/
end
def MtM(X:Cx)(id:String)(r:V->List V->Hp->VK->Prop):Prop:=
 ∀ (pins:List (Addr×Obj)) (s:Shared) (σ:St) (H:Hp) (x:V) (xs:List V) (v:Value) (us:List Value) (Q:VK),Inv X pins σ H s->RelV x v->Vals xs us->r x xs H Q →
  wpAny (model X.prog X.w) X.A (call (.builtin id) (v::us)) (EP X pins σ Q) X.xe s
theorem Vals.one:∀{x:V} {us:List Value},Vals [x] us->∃u,us=[u]/\RelV x u|_,_,.cons r .nil=>⟨_,rfl,r⟩
theorem Vals.zero:∀{us:List Value},Vals [] us->us=[]|_,.nil=>rfl
section
variable {X:Cx}{pins:List (Addr×Obj)}{σ:St}{H:Hp}{s:Shared}{l b:Addr}{xs ys zs:List V}
theorem Inv.lset{its its':List Value}{n:Nat}{f:Array Value->Array Value}{t':Nat}(I:Inv X pins σ H s)(hH:H l=some (.lst xs))
  (e:s.heap.get? l=some {cls:=.type "list",data:=.seq its.toArray n}) (hf:f its.toArray=its'.toArray) (hv:Vals ys its') (hz:ys.length<=sizeLine):
  Inv X pins σ (upd H l (.lst ys)) {s with heap:=s.heap.update l (X6 f),toks:=t'}:=by
 have q:=PySem.IsL.update e f;rw[hf] at q
 refine I.write (x:=l) (e:=l) (by rw[hH];exact trivial) (.inl rfl) (λb' u hb hu=>(YT s.heap (X6 f) (YZ hb)).trans hu) ⟨_,q⟩ ?_
 exact⟨hz,its',_,hv,q⟩
theorem Inv.lnew{its:List Value}{t':Nat}(I:Inv X pins σ H s)(hv:Vals ys its)(hz:ys.length<=sizeLine):
  Inv X pins σ (upd H s.heap.objs.size (.lst ys)) {s with heap:=s.heap.push {cls:=.type "list",data:=.seq its.toArray},toks:=t'}:=
 I.laid (λ_ _ q=>Z4 _ q) (ZX _) ⟨hz,its,0,hv,ZC _ rfl⟩
theorem Inv.fresh(I:Inv X pins σ H s):H s.heap.objs.size=none:=I.hok.fresh (ZX _)
theorem Inv.lstM(I:Inv X pins σ H s)(hH:H l=some (.lst xs)):xs.length<=sizeLine/\∃(its:List Value) (n:Nat),Vals xs its/\xs.length=its.length/\s.heap.get? l=some {cls:=.type "list",data:=.seq its.toArray n}:=by obtain⟨z,its,n,r,e⟩:=I.hok l _ hH;exact⟨z,its,n,r,r.length,e⟩
theorem zmM{n:Nat}(h:n<=sizeLine):Yw n=false:=by unfold Yw;exact decide_eq_false (by omega)
end
section
variable {X:Cx}
def znZ:V->List V->Hp->VK->Prop:=λx vs H Q=>∃l xs y,x=.ref l/\vs=[y]/\H l=some (.lst xs)/\xs.length<sizeLine/\Q .non (upd H l (.lst (xs++[y])))
theorem zkF:MtM X "list.append" znZ:=by
 intro pins s σ H x vs v us Q I rx rv h;obtain⟨l,xs,y,rfl,rfl,hH,hz,q⟩:=h;cases rx;obtain⟨u,rfl,ru⟩:=rv.one;obtain⟨z,its,n,r,hl,e⟩:=I.lstM hH
 refine YR F.slot_list_append ⟨_,e,rfl⟩ F.entry_list_append (F.args_list_append_2 _ _) (PySem.list_append l its.toArray n u (by rw[ZV];omega)) ⟨e,?_⟩
 refine⟨.non,_,I.lset (its':=its++[u]) hH e (by simp) (r.append (.cons ru .nil)) ?_,rfl,q⟩;rw[ZZ,Y5];omega
end
section
variable {prog:ZH}{w:World}{A:Around}{E:Value->Shared->Prop}{s:Shared}
end
section
variable {X:Cx}
end
end L2
namespace Att
open PySem PySem.W PySem.Calls PyProof.Rows
theorem zdG{P:Params}{h:Heap}:∀(ns:List Int) (vs:List Value),WellAll P h vs (ns.map WData.int)->Vy vs ns:=by
 intro ns
 induction ns with
 |nil=>intro vs w;rw[Xt] at w;cases w;exact .nil
 | cons n ns ih=>
  intro vs w;rw[ZL] at w
  cases w with|cons a b=>cases a;exact .cons _ _ (ih _ b)
theorem zkk{l:OpenLaw}{n:Nat}(hn:l.most=some n){P:Params}{h:Heap}{args:List WData}{vals:List Value}
  (hpre:l.row.toRowW.claim.pre args=true) (hwl:WellAll P h vals args):
  ∃a vs ns,vals=[Y9 a]/\args=[WData.list (ns.map WData.int)]/\h.get? a=some {cls:=.type "list",data:=.seq vs.toArray}/\Vy vs ns/\ns.length<=n:=by
 have hsh:WShape.hasAll [] args [.list .int]=true:=(pre_splitW hpre).1;have hc:l.pre.holds [] {args:=args}=true:=(pre_splitW hpre).2;obtain⟨d,r,rfl,h1,h2⟩:=hasAllW_cons hsh;obtain rfl:=hasAllW_nil h2;obtain⟨xs,rfl,h3⟩:=hasW_list h1;obtain⟨ns,rfl⟩:=items_int h3
 have hlen:ns.length<=n:=by
  unfold OpenLaw.pre at hc
  have h4:(WTm.not (.lt (.lit (.int (n:Int))) (.len (.arg 0)))).holds [] {args:=[.list (ns.map .int)]}=true:=by have h4:=(holds_andW hc).1;rw[hn] at h4;exact h4
  have h5:=condW_of h4 (w_not (w_lt w_lit (w_len_list (w_arg rfl))));rw[Z1] at h5;refine Nat.le_of_not_lt λq=>?_
  have q':(n:Int)<((ns.length:Nat):Int):=by omega
  first|(rw[decide_eq_true q'] at h5;exact absurd h5 (by decide))|(simp at h5;omega)
 cases hwl with
 |cons w1 w2=>
  cases w2
  cases w1 with|list ho hall=>exact⟨_,_,ns,rfl,rfl,ho,zdG ns _ hall,hlen⟩
theorem zkt(l:OpenLaw)(args:List WData):l.row.toRowW.claim.post args (.bool true) args=true:=
 postW_of (r:=l.row.toRowW) (X:=(true==true))
  (show WShape.has [] (.bool true) .bool=true by first | rfl | decide | simp[WShape.has,WShape.arms,WShape.armsAll])
  (show(WTm.eq .res (.lit (.bool true))).value [] {args:=args,res:=some (.bool true),after:=args}=some (.bool (true==true)) from w_eq_bool (w_res rfl) w_lit) rfl
theorem attach_call{l:OpenLaw}{n:Nat}{q:ZH}{loose:List Str}{XP:(Str->Option Value)->Heap->Prop}{YP:World->Heap->Prop}{d:DefRec}
  (hn:l.most=some n) (hdf:d.params.defaults=[])
  (call:∀(w:World) (s₀ s₁:Shared) (mg mb:Str->Option Value) (fa:Addr) (o:Obj) (pm cd doc:Value) (a:Addr) (vs:List Value) (ns:List Int),
   Ground q loose [] XP w s₀ mg mb s₁.heap->YP w s₁.heap →
   s₁.heap.get? fa=some o->o.data=.func (docDef d.name d.params d.body d.scope pm cd doc)->s₁.heap.CodeRec cd d.name->mg d.name=some (.ref fa) →
   s₁.heap.get? a=some {cls:=.type "list",data:=.seq vs.toArray}->Vy vs ns->ns.length<=n->s₁.gens=#[] →
   XH (model l.prog w) VF (.call (.ref fa) ⟨[.ref a],[]⟩) (λr s'=>r=.ok (.ret (.bool true))/\OldK s₁.heap s'.heap/\s'.os=s₁.os/\Wc s'.gens) s₁):
  WalkO q loose XP YP l.row.toRowW d [] (λf vs=>PySem.call f vs):=by
 intro w s₀ s₁ mg mb G Y fa o pm cd doc dV kV ho hd hcd hD hmg hg args vals as hpre hlay hrd hwl hlo;obtain rfl:dV=.none:=Dflts.none hD hdf;obtain rfl:kV=.none:=Dflts.noKw hD;obtain⟨a,vs,ns,rfl,rfl,hobj,hints,hlen⟩:=zkk hn hpre hwl;refine enter_call (XT (call w s₀ s₁ mg mb fa o pm cd doc a vs ns G Y ho (fd_plain hd) hcd hmg hobj hints hlen hg) λr s' hq=>?_);obtain⟨rfl,h2,h3,h4⟩:=hq;exact⟨.inl ⟨.bool true,.bool true,[],rfl,λ_=>rfl,.bool true,zkt l _,λ_=>⟨List.Pairwise.nil,λ_ hm=>(nomatch hm)⟩⟩,h2,h3,h4⟩
section
variable {prog:ZH}{w:World}{A:Around}{E:Value->Shared->Prop}{s:Shared}{K:Frag}
end
end Att
namespace L2
open PySem PySem.Spec PyProof.Rows
theorem zfD:∀{vs:List Value} {ns:List Int},Vy vs ns->Vals (ns.map V.int) vs|_,_,.nil=>.nil|_,_,.cons n t h=>.cons ⟨t,rfl⟩ (zfD h)
def Only(H:Hp):Prop:=∀b,H b=none\/∃o xs,H b=some (.frz o (.lst xs))
theorem law_call{P:ZH}{w:World}{K:Z8}{mg mb:Str->Option Value}{CX:CXT}{k:Nat}{fa a:Addr}{fd:FuncData}{x:Str}{sp:Sp}{s₁:Shared}{vs:List Value}{ns:List Int}
  (KX:K.In s₁.heap) (hns:s₁.heap.Ns ZQ mg) (hb:s₁.heap.Ns builtinsNs mb) (hbb:∀x:Str,x ≠ "__name__"->mb x=XU x) (hlim:s₁.heap.NoLimit) (hg:s₁.gens=#[])
  (ha:s₁.heap.get? a=some {cls:=.type "list",data:=.seq vs.toArray}) (hi:Vy vs ns) (hl:ns.length<=sizeLine) (hr:Room k VF)
  (F:∀base:Heap,K.In base->base.Ns ZQ mg->FnOk P w K mg base CX k fa fd [x] sp) (hbind:∀(s:Shared) (u:Value),Vz s fd ⟨[u],[]⟩ [(x,u)])
  (hsp:∀H:Hp,Only H->SqL K H a (ns.map V.int)->sp [.ref a] H (λv _=>v=.bl true) λ_ _ _=>False)
  (hCX:∀H e s',CX [] H s₁ (λ_ _ _=>False) e s'->False):
  XH (model P w) VF (.call (.ref fa) ⟨[.ref a],[]⟩) (λr s'=>r=.ok (.ret (.bool true))/\OldK s₁.heap s'.heap/\s'.os=s₁.os/\Wc s'.gens) s₁:=by
 have rv:=zfD hi;have lenV:=hi.length
 have core:∀H:Hp,Only H->SqL K H a (ns.map V.int)->HOk P w H s₁.heap->(∀b,H b≠none->b=a)->(H a≠none->K.lookup a=none) →
   XH (model P w) VF (.call (.ref fa) ⟨[.ref a],[]⟩) (λr s'=>r=.ok (.ret (.bool true))/\OldK s₁.heap s'.heap/\s'.os=s₁.os/\Wc s'.gens) s₁:=by
  intro H hO hS hok hA hK;have base_of:∀{b:Addr} {o:Obj},s₁.heap.get? b=some o->H b=none->(hidT s₁.heap H).get? b=some o:=λe n=>zlw e n
  have noA:∀{b:Addr} {o:Obj} {es:Array DictEntry} {ep:Nat},s₁.heap.get? b=some o->o.data=.dict es ep->H b=none:=λ{b o es ep} e d=>by
   cases q:H b with
   |none=>rfl
   |some u=>
    have e':b=a:=hA b (by rw[q];simp)
    subst e'
    rw[ha] at e;cases e
    have d':Data.seq vs.toArray _=VE es ep:=d;cases d'
  have nsK:∀{b:Addr} {m:Str->Option Value},s₁.heap.Ns b m->(hidT s₁.heap H).Ns b m:=λ{b m} ⟨o,es,ep,e,d,r⟩=>⟨o,es,ep,base_of e (noA e d),d,r⟩
  have hKb:K.In (hidT s₁.heap H):=λb o e=>base_of (KX b o e) (by
   cases q:H b with
   |none=>rfl
   |some u=>
    have e':b=a:=hA b (by rw[q];simp)
    subst e'
    rw[hK (by rw[q];simp)] at e;cases e)
  have hM:Mod K mg (hidT s₁.heap H):=⟨hKb,nsK hns,⟨mb,nsK hb,hbb⟩,let ⟨mc,h1,h2⟩:=hlim;⟨mc,nsK h1,h2⟩⟩
  have e0:Env0 P w K mg (hidT s₁.heap H) VF [] s₁ H:=⟨rfl,hM,λb o e=>zpq e,Nat.le_of_eq (zln _ _),trivial,λb hb=>absurd (show b∈([]:List Addr) from hb) (by simp),hok,.of_eq hg⟩;refine XT ((F _ hKb (nsK hns)).run VF [] s₁ H ⟨[.ref a],[]⟩ [.ref a] [.ref a] _ _ hr e0 (hbind s₁ (.ref a)) (.cons rfl .nil) (hsp H hO hS)) λr s' h=>?_
  cases r with
  |error e=>exact(hCX H e s' h).elim
  | ok fl=>
   cases fl with
   |next=>exact YS h|brk=>exact YS h|cont=>exact YS h
   | ret u=>
    obtain⟨v,H',os,bare,un,hok',r',q⟩:=h;have q':v=.bl true:=q;subst q';obtain rfl:u=Xa true:=r';refine⟨rfl,OldK.of_keep λb o e=>?_,os,bare⟩
    cases q:H b with
    |none=>exact un.keep b o e q (by intro z;exact absurd (show b∈([]:List Addr) from z) (by simp)) (by simp)
    | some u=>
     rcases hO b with z|⟨ob,xs,z⟩
     ·rw[q] at z;cases z
     ·have z2:=un.frzs b ob _ z
      obtain⟨e1,_⟩:=hok b _ z;obtain⟨e2,_⟩:=hok' b _ z2
      rw[e] at e1;cases e1
      exact e2
 cases hk:K.lookup a with
 |some o=>
  have e:=KX a o hk;rw[ha] at e;cases e
  refine core (λ_=>none) (λ_=>.inl rfl) (.inr ⟨_,vs.toArray,_,hk,rfl,rfl,rfl,by rw[ZV,lenV];exact hl,by simpa using rv⟩) (λb u z=>by have z':(none:Option HO)=some u:=z;cases z') (λb z=>absurd rfl z) λz=>absurd rfl z
 | none=>
  refine core (λb=>if b=a then some (.frz {cls:=.type "list",data:=.seq vs.toArray} (.lst (ns.map V.int))) else none) (λb=>?_) (.inl (.inr ⟨{cls:=.type "list",data:=.seq vs.toArray},if_pos rfl⟩)) (λb u z=>?_) (λb z=>?_) λ_=>hk
  ·by_cases hb:b=a
   ·exact .inr ⟨_,_,if_pos hb⟩
   ·exact .inl (if_neg hb)
  ·by_cases hb:b=a
   ·have z':=(if_pos hb).symm.trans z
    cases z';subst hb
    exact⟨ha,by rw[Z1];exact hl,vs,_,rv,ha⟩
   ·have z':=(if_neg hb).symm.trans z
    cases z'
  ·by_cases hb:b=a
   ·exact hb
   ·exact absurd (if_neg hb) z
abbrev KOf{K:Z8}{h:Heap}(_:K.In h):Z8:=K
theorem walk_of{l:VL}{n k:Nat}{q:ZH}{loose:List Str}{XP:(Str->Option Value)->Heap->Prop}{YP:World->Heap->Prop}{d:DefRec}{K:Params->Z8}{CX:World->CXT}{sp:World->Sp}{x:Str}
  (hn:l.most=some n) (hn2:n<=sizeLine) (hdf:d.params.defaults=[]) (hr:Room k VF)
  (hY:∀(w:World) (h:Heap),YP w h->(K w.params).In h)
  (F : ∀(w:World) (mg:Str->Option Value) (fa:Addr) (h:Heap),(K w.params).In h->h.Ns ZQ mg->mg d.name=some (.ref fa) →
   ∃ fd:FuncData,(∀(s:Shared) (u:Value),Vz s fd ⟨[u],[]⟩ [(x,u)]) ∧
    ∀base:Heap,(K w.params).In base->base.Ns ZQ mg->FnOk l.prog w (K w.params) mg base (CX w) k fa fd [x] (sp w))
  (hsp:∀(w:World) (H:Hp) (a:Addr) (ns:List Int),ns.length<=n->Only H->SqL (K w.params) H a (ns.map V.int)->sp w [.ref a] H (λv _=>v=.bl true) λ_ _ _=>False)
  (hCX:∀(w:World) (H:Hp) (s:Shared) (e:Value) (s':Shared),CX w [] H s (λ_ _ _=>False) e s'->False):
  PySem.W.WalkO q loose XP YP l.row.toRowW d [] (λf vs=>PySem.call f vs):=by
 refine Att.attach_call hn hdf λw s₀ s₁ mg mb fa o pm cd doc a vs ns G Y ho hd hcd hmg hobj hints hlen hg=>?_;have KX:=hY w _ Y;obtain⟨fd,hb,hF⟩:=F w mg fa _ KX G.T.g hmg;exact law_call KX G.T.g G.T.b G.T.builtins G.T.nolimit hg hobj hints (Zc hlen hn2) hr hF hb (λH hO hS=>hsp w H a ns hlen hO hS) λH e s'=>hCX w H s₁ e s'
end L2
/- THE LAST THEOREM (shape;LID,My.* are yours):
   My.Adr: a structure of the addresses that your layer names (classes,functions);My.Txt K t: a structure (Prop) of the equations over K;
   My.txt_mk:{K} {implicit addresses ..} (e1:nsIn K ZQ "law"=some (some (.ref f))) (e2:K.lookup f=some ⟨oc,od,.func (fnOf "law" "law" params body scope dV kV doc pm an cdv ct),sl⟩) (e3:codeIn K cdv "law"=true) ..:∃t,My.Txt K t
set_option maxRecDepth 100000 in
set_option maxHeartbeats 0 in
theorem PySem.Challenge.cw_LID_holds : PySem.Challenge.rw_LID.Holds := by
 w_on;o_law;k_head;(case hw=>w_witness2)
 k_fill
 refine L2.walk_of (l:=PySem.Challenge.rw_LID) (n:=63) (k:=40) (x:="script") (CX:=λw=>..) (sp:=λ_=>My.sp_law) rfl (by decide) rfl ⟨rfl,by decide,by decide⟩ (λw h Y=>PySem.W.kIn_of Y) ?F ?S ?C
 case F=>
  intro w mg fa h KX G hmg
  have T:∃t,My.Txt (L2.KOf KX) t:=by
   dsimp only[L2.KOf]                          -- K must stand as «<heap const> w.params» for k_is
   refine' My.txt_mk ?e1 ?e2 ?e3 ..
   (case e1=>PySem.W.k_is)                    -- in the order: a name->its address->its object->its parts
   (case e2=>PySem.W.k_is)
   ..
  obtain⟨t,T⟩:=T;have e0:=hmg.symm.trans (Zy KX G T.law)
  cases e0                                       -- fa is the law's own address
  exact⟨_,λs u=>.of_eq rfl,λbase kb nb=>My.law_fn T kb nb⟩     -- if «.of_eq rfl» comes too early: refine' ⟨_,?b,λbase kb nb=>My.law_fn T kb nb⟩;exact λs u=>.of_eq rfl
 case S=>exact λw H a ns hl hO hS=>..
 case C=>exact ..
(the tactic k_is has no namespace: write k_is) -/
namespace L2
open PySem PySem.Spec PyProof.Rows
def zom(s:Stmt)(j:Nat):Stmt:=match s with|.ClassDef _ _ _ body _ _ _ _ _ _ _=>body.getD j (.Pass ⟨0,0,0,0⟩)|_=>.Pass ⟨0,0,0,0⟩
def zbq(s:Stmt):Arguments:=match s with|.FunctionDef _ a _ _ _ _ _ _ _ _=>a|_=>{posonlyargs:=[],args:=[],vararg:=none,kwonlyargs:=[],kw_defaults:=[],kwarg:=none,defaults:=[]}
def zay(s:Stmt):List Stmt:=match s with|.FunctionDef _ _ b _ _ _ _ _ _ _=>b|_=>[]
def zae(s:Stmt):Scope:=match s with|.FunctionDef _ _ _ _ _ _ sc _ _ _=>sc|_=>{kind:=.function,names:=[],isGenerator:=false,isCoroutine:=false}
abbrev CX0:CXT:=λ_ _ _ _ _ _=>False
abbrev E0:XK:=λ_ _ _=>False
theorem zpJ{X:Cx}:zfP CX0 X E0:=λ_ _ _ _ _ _ _ h=>h.elim
structure Fun(K:Z8)(x qual:Str)(st:Stmt)(f:Addr)(fd:FuncData):Prop where
 ex:∃(oc:Value) (od:Option Addr) (kV doc pm:Value) (an:Option Addr) (cdv ct:Value) (osl:Array (Option Value)),
  fd=Yp x qual (zbq st) (zay st) (zae st) .none kV doc pm an cdv ct/\K.lookup f=some ⟨oc,od,.func fd,osl⟩/\Xz K cdv qual=true
 kp:YO K (.ref f)=true
section
variable {P:ZH}{w:World}{K:Z8}{mg:Str->Option Value}{base:Heap}
theorem Fun.ok{x qual:Str}{st:Stmt}{f:Addr}{fd:FuncData}{N ps:List Str}{k:Nat}{sp:Sp}(F:Fun K x qual st f fd)(S:za9 N ps (zae st))(len:∀vs H Q E,sp vs H Q E->vs.length=ps.length)
  (hbody:∀(cdv:Value) (A:Around) (outer:List Env) (s:Shared) (H:Hp) (vs:List V) (Q:VK) (E:XK),Room k (A.deeper (envOfC qual (zae st) s.heap.objs.size f cdv))->sp vs H Q E →
   ∃t,PSs (cxOf CX0 P w K mg base N qual (zae st) f cdv A outer s H E).nox (zay st) t/\t {nx:=λ_ H'=>Q .non H',rt:=Q} (start N vs) H):FnOk P w K mg base CX0 (k+1) f fd ps sp:=by
 obtain⟨oc,od,kV,doc,pm,an,cdv,ct,osl,rfl,lk,hcd⟩:=F.ex;refine znO lk hcd S len λA outer s H vs Q E hr hsp=>?_;obtain⟨t,h,q⟩:=hbody cdv A outer s H vs Q E hr hsp;exact⟨t,h.nox,q⟩
end
section
variable {X:Cx}
theorem pv(i:Nat){x:Str}{pos:Pos}(hN:X.N[i]?=some x:=by rfl)(hv:Vis X.env.scope x:=by first | exact Or.inl rfl | exact Or.inr (Or.inl rfl) | exact Or.inr (Or.inr rfl))(hd:(x==("__debug__":Str))=false:=by decide)
  (hcd:(x==("__classdict__":Str))=false:=by decide):PE X (.Name x pos) (tVar i):=zc5 hN hv hd hcd
end
theorem iteF{A B:Prop}(h:B):if false=true then A else B:=by rw[if_neg Y8];exact h
theorem iteT{A B:Prop}(h:A):if true=true then A else B:=by rw[if_pos rfl];exact h
section
variable {κ:Type}[DecidableEq κ]
end
section
end
section
variable {P:ZH}{w:World}{H:Hp}{h:Heap}{a:Addr}
end
section
variable {X:Cx}{pins:List (Addr×Obj)}{σ:St}{H:Hp}{s:Shared}{a:Addr}{y v:V}{u r:Value}{o:Option V}{A:Around}{E:Value->Shared->Prop}
end
section
end
end L2
namespace IT
open PySem PySem.Spec L2
end IT
namespace IT
open PySem PySem.Spec L2
def LsR(K:Z8)(A:Addr->Prop)(H:Hp)(a:Addr)(vs:List V):Prop:=(¬A a/\Rd H a (.lst vs))\/∃(o:Obj) (its:Array Value) (n:Nat),K.lookup a=some o/\o.cls=.type "list"/\o.dict=none/\o.data=.seq its n/\its.size<=sizeLine/\Vals vs its.toList
theorem LsR.sq(q:LsR K A H a vs):SqL K H a vs:=q.imp (λz=>z.2) (λz=>z)
mutual
noncomputable def RepD(K:Z8)(A:Addr->Prop)(H:Hp):D->V->Prop|.non,v=>v=.non|.bl b,v=>v=.bl b|.int i,v=>v=.int i|.str x,v=>v=.str (zaa x)|.tup xs,v=>∃a vs,v=.ref a/\SqT K H a vs/\RepDs K A H xs vs|.lst xs,v=>∃a vs,v=.ref a/\LsR K A H a vs/\RepDs K A H xs vs
noncomputable def RepDs(K:Z8)(A:Addr->Prop)(H:Hp):List D->List V->Prop| [],vs=>vs=[]|x::xs,vs=>∃v r,vs=v::r/\RepD K A H x v/\RepDs K A H xs r
end
section
variable {K:Z8}{A A':Addr->Prop}{H H':Hp}
mutual
theorem RepD.mono(ht:∀a u,Rd H a (.tup u)->Rd H' a (.tup u))(hl:∀a u,¬A a->Rd H a (.lst u)->¬A' a/\Rd H' a (.lst u)):∀(x:D) (v:V),RepD K A H x v->RepD K A' H' x v
 |.non,_,h | .bl _,_,h | .int _,_,h | .str _,_,h=>by
  first
  |(simp only[RepD] at h⊢;exact h)
 |.tup xs,v,h=>by simp only[RepD] at h⊢;obtain⟨a,vs,e,q,r⟩:=h;exact⟨a,vs,e,q.imp (ht a vs) (λz=>z),RepDs.mono ht hl xs vs r⟩|.lst xs,v,h=>by simp only[RepD] at h⊢;obtain⟨a,vs,e,q,r⟩:=h;exact⟨a,vs,e,q.imp (λz=>hl a vs z.1 z.2) (λz=>z),RepDs.mono ht hl xs vs r⟩
theorem RepDs.mono(ht:∀a u,Rd H a (.tup u)->Rd H' a (.tup u))(hl:∀a u,¬A a->Rd H a (.lst u)->¬A' a/\Rd H' a (.lst u)):∀(x:List D) (v:List V),RepDs K A H x v->RepDs K A' H' x v| [],_,h=>by simp only[RepDs] at h⊢;exact h|x::xs,vs,h=>by simp only[RepDs] at h⊢;obtain⟨v,r,e,h1,h2⟩:=h;exact⟨v,r,e,RepD.mono ht hl x v h1,RepDs.mono ht hl xs r h2⟩
end
end
section
variable {K:Z8}{A:Addr->Prop}{H:Hp}
theorem RepDs.length:∀{xs:List D} {vs:List V},RepDs K A H xs vs->xs.length=vs.length| [],vs,h=>by simp only[RepDs] at h;subst h;rfl|x::xs,vs,h=>by simp only[RepDs] at h;obtain⟨v,r,rfl,_,h2⟩:=h;simp only[Zz,h2.length]
theorem RepDs.get:∀{xs:List D} {vs:List V} {i:Nat} {x:D},RepDs K A H xs vs->xs[i]?=some x->∃v,vs[i]?=some v/\RepD K A H x v
 | [],vs,i,x,h,e=>by simp at e
 |y::xs,vs,i,x,h,e=>by
  simp only[RepDs] at h;obtain⟨v,r,rfl,h1,h2⟩:=h
  cases i with|zero=>simp at e;subst e;exact⟨v,rfl,h1⟩|succ i=>simp at e;simpa using h2.get e
theorem RepDs.get':∀{xs:List D} {vs:List V} {i:Nat} {v:V},RepDs K A H xs vs->vs[i]?=some v->∃x,xs[i]?=some x/\RepD K A H x v
 | [],vs,i,v,h,e=>by simp only[RepDs] at h;subst h;simp at e
 |y::xs,vs,i,v,h,e=>by
  simp only[RepDs] at h;obtain⟨w,r,rfl,h1,h2⟩:=h
  cases i with|zero=>simp at e;subst e;exact⟨y,rfl,h1⟩|succ i=>simp at e;simpa using h2.get' e
theorem RepDs.app:∀{xs ys:List D} {vs us:List V},RepDs K A H xs vs->RepDs K A H ys us->RepDs K A H (xs++ys) (vs++us)| [],ys,vs,us,h,h'=>by simp only[RepDs] at h;subst h;simpa using h'|x::xs,ys,vs,us,h,h'=>by simp only[RepDs] at h;obtain⟨v,r,rfl,h1,h2⟩:=h;simp only[YV,RepDs];exact⟨v,r++us,rfl,h1,h2.app h'⟩
theorem RepDs.nil:RepDs K A H [] []:=by simp only[RepDs]
theorem RepDs.cons(h:RepD K A H x v)(h':RepDs K A H xs vs):RepDs K A H (x::xs) (v::vs):=by simp only[RepDs];exact⟨v,vs,rfl,h,h'⟩
theorem RepDs.one(h:RepD K A H x v):RepDs K A H [x] [v]:=.cons h .nil
theorem RepDs.take:∀{xs:List D} {vs:List V} (n:Nat),RepDs K A H xs vs->RepDs K A H (xs.take n) (vs.take n)
 | [],vs,n,h=>by simp only[RepDs] at h;subst h;simpa using RepDs.nil
 |x::xs,vs,n,h=>by
  simp only[RepDs] at h;obtain⟨v,r,rfl,h1,h2⟩:=h
  cases n with|zero=>simpa using RepDs.nil|succ n=>simpa using RepDs.cons h1 (h2.take n)
theorem RepDs.drop:∀{xs:List D} {vs:List V} (n:Nat),RepDs K A H xs vs->RepDs K A H (xs.drop n) (vs.drop n)
 | [],vs,n,h=>by simp only[RepDs] at h;subst h;simpa using RepDs.nil
 |x::xs,vs,n,h=>by
  simp only[RepDs] at h;obtain⟨v,r,rfl,h1,h2⟩:=h
  cases n with|zero=>simpa using RepDs.cons h1 h2|succ n=>simpa using h2.drop n
theorem RepDs.set(hx:RepD K A H x v):∀{xs:List D} {vs:List V} (n:Nat),RepDs K A H xs vs->RepDs K A H (xs.set n x) (vs.set n v)
 | [],vs,n,h=>by simp only[RepDs] at h;subst h;simpa using RepDs.nil
 |y::xs,vs,n,h=>by
  simp only[RepDs] at h;obtain⟨w,r,rfl,h1,h2⟩:=h
  cases n with|zero=>simpa using RepDs.cons hx h2|succ n=>simpa using RepDs.cons h1 (h2.set hx n)
end
def Ob.mut:Ob->Bool|.lst _=>true|.ins _ _=>true|.dic _=>true|_=>false
def Live(μ:List Addr)(h:Sto)(a:Addr):Prop:=∃(i:Nat) (o:Ob),μ[i]?=some a/\h[i]?=some o/\o.mut=true
def RepR(K:Z8)(μ:List Addr)(h:Sto)(H:Hp):R->V->Prop|.d x,v=>RepD K (Live μ h) H x v|.loc l,v=>∃a,μ[l]?=some a/\v=.ref a
def RepO(K:Z8)(μ:List Addr)(h:Sto)(H:Hp)(a:Addr):Ob->Prop|.lst xs=>∃vs,H a=some (.lst vs)/\RepDs K (Live μ h) H xs vs|.fro xs=>∃vs,H a=some (.lst vs)/\RepDs K (Live μ h) H xs vs|.ols ls=>∃vs,H a=some (.lst vs)/\Paired (λ(l:Nat) (v:V)=>∃b,μ[l]?=some b/\v=.ref b) ls vs|.ins c fs=>∃C dx fs',(ZO K ZQ c=some (some (.ref C))/\Cls K C/\∀p∈fs,zpT K C p.1)/\H a=some (.ins C dx fs')/\Paired (λ(p:Str×R) (q:Str×V)=>p.1=q.1/\RepR K μ h H p.2 q.2) fs fs'|.dic kvs=>∃xs:List (D×Addr×V),H a=some (.dT xs)/\Paired (λ(p:D×D) (q:D×Addr×V)=>p.1=q.1/\(za7 p.1=true/\RepD K (Live μ h) H p.1 (.ref q.2.1))/\RepD K (Live μ h) H p.2 q.2.2) kvs xs
structure Rep(K:Z8)(μ:List Addr)(h:Sto)(H:Hp):Prop where
 len:μ.length=h.length
 nd:μ.Nodup
 obj:∀(i:Nat) (a:Addr) (o:Ob),μ[i]?=some a->h[i]?=some o->RepO K μ h H a o
structure Stp(μ:List Addr)(h:Sto)(H:Hp)(μ':List Addr)(h':Sto)(H':Hp):Prop where
 pre:∀(i:Nat) (a:Addr),μ[i]?=some a->μ'[i]?=some a
 keep:∀a o,¬Live μ h a->H a=some o->H' a=some o
 live:∀a,Live μ' h' a->Live μ h a\/H a=none
section
variable {K:Z8}{μ μ' μ2:List Addr}{h h' h2:Sto}{H H' H2:Hp}
theorem RepO.isL(q:RepO K μ h H a o)(l:o.isL=true):∃vs,H a=some (.lst vs)/\RepDs K (Live μ h) H o.items vs:=by
 cases o with|lst xs=>exact q|fro xs=>exact q|ins _ _=>cases l|ols _=>cases l|dic _=>cases l
theorem RepO.some(q:RepO K μ h H a o):∃u,H a=some u:=by
 cases o with|lst xs=>obtain⟨vs,e,_⟩:=q;exact⟨_,e⟩|fro xs=>obtain⟨vs,e,_⟩:=q;exact⟨_,e⟩|ins _ _=>obtain⟨C,dx,fs,_,e,_⟩:=q;exact⟨_,e⟩|ols _=>obtain⟨vs,e,_⟩:=q;exact⟨_,e⟩|dic _=>obtain⟨xs,e,_⟩:=q;exact⟨_,e⟩
theorem Rep.liveAt(r:Rep K μ h H)(l:Live μ h a):∃u,H a=some u/\((∃vs,u=.lst vs)\/(∃C dx fs,u=.ins C dx fs)\/(∃kvs,u=.dT kvs)\/(∃kvs,u=.dK kvs)\/∃ps,u=.tbl ps):=by
 obtain⟨i,o,e1,e2,m⟩:=l;have q:=r.obj i a _ e1 e2
 cases o with|lst xs=>obtain⟨vs,e,_⟩:=q;exact⟨_,e,.inl ⟨vs,rfl⟩⟩|fro xs=>cases m|ins _ _=>obtain⟨C,dx,fs,_,e,_⟩:=q;exact⟨_,e,.inr (.inl ⟨C,dx,fs,rfl⟩)⟩|ols _=>cases m|dic _=>obtain⟨xs,e,_⟩:=q;exact⟨_,e,.inr (.inr (.inl ⟨xs,rfl⟩))⟩
theorem Rep.notLive(r:Rep K μ h H)(e:H a=some o)(n:∀vs,o≠.lst vs)(n2:∀C dx fs,o≠.ins C dx fs:=by intro _ _ _ z;cases z)(n3:∀kvs,o≠.dT kvs:=by intro _ z;cases z)(n4:∀kvs,o≠.dK kvs:=by intro _ z;cases z)(n5:∀ps,o≠.tbl ps:=by intro _ z;cases z):¬Live μ h a:=λl=>by
 obtain⟨u,q,z⟩:=r.liveAt l;rw[e] at q;cases q
 rcases z with⟨vs,z⟩|⟨C,dx,fs,z⟩|⟨kvs,z⟩|⟨kvs,z⟩|⟨ps,z⟩
 ·exact n vs z
 ·exact n2 C dx fs z
 ·exact n3 kvs z
 ·exact n4 kvs z
 ·exact n5 ps z
theorem Stp.refl:Stp μ h H μ h H:=⟨λ_ _ e=>e,λ_ _ _ e=>e,λ_ l=>.inl l⟩
theorem Stp.trans(s:Stp μ h H μ' h' H')(t:Stp μ' h' H' μ2 h2 H2):Stp μ h H μ2 h2 H2:=by
 have nl:∀a o,¬Live μ h a->H a=some o->¬Live μ' h' a:=λa o n e l=>by
  rcases s.live a l with z | z
  ·exact n z
  ·rw[e] at z;cases z
 refine⟨λi a e=>t.pre i a (s.pre i a e),λa o n e=>t.keep a o (nl a o n e) (s.keep a o n e),λa l=>?_⟩
 rcases t.live a l with z | z
 ·exact s.live a z
 ·by_cases n:Live μ h a
  ·exact .inl n
  ·cases e:H a with|none=>exact .inr rfl|some o=>rw[s.keep a o n e] at z;cases z
theorem Stp.rdT(s:Stp μ h H μ' h' H')(r:Rep K μ h H)(a:Addr)(u:List V)(q:Rd H a (.tup u)):Rd H' a (.tup u):=by
 rcases q with e|⟨o,e⟩
 ·exact .inl (s.keep a _ (r.notLive e (by intro vs z;cases z)) e)
 ·exact .inr ⟨o,s.keep a _ (r.notLive e (by intro vs z;cases z)) e⟩
theorem Stp.rdL(s:Stp μ h H μ' h' H')(a:Addr)(u:List V)(n:¬Live μ h a)(q:Rd H a (.lst u)):¬Live μ' h' a/\Rd H' a (.lst u):=by
 have nl:∀o,H a=some o->¬Live μ' h' a:=λo e l=>by
  rcases s.live a l with z | z
  ·exact n z
  ·rw[e] at z;cases z
 rcases q with e|⟨o,e⟩
 ·exact⟨nl _ e,.inl (s.keep a _ n e)⟩
 ·exact⟨nl _ e,.inr ⟨o,s.keep a _ n e⟩⟩
theorem Stp.lsR(s:Stp μ h H μ' h' H')(q:LsR K (Live μ h) H a u):LsR K (Live μ' h') H' a u:=q.imp (λz=>s.rdL a u z.1 z.2) (λz=>z)
theorem RepD.stp(s:Stp μ h H μ' h' H')(r:Rep K μ h H)(q:RepD K (Live μ h) H x v):RepD K (Live μ' h') H' x v:=RepD.mono (s.rdT r) s.rdL x v q
theorem RepDs.stp(s:Stp μ h H μ' h' H')(r:Rep K μ h H)(q:RepDs K (Live μ h) H x v):RepDs K (Live μ' h') H' x v:=RepDs.mono (s.rdT r) s.rdL x v q
theorem RepR.stp(s:Stp μ h H μ' h' H')(r:Rep K μ h H)(q:RepR K μ h H x v):RepR K μ' h' H' x v:=by
 cases x with|d x=>exact RepD.stp s r q|loc l=>obtain⟨a,e,z⟩:=q;exact⟨a,s.pre l a e,z⟩
theorem RepO.stp(s:Stp μ h H μ' h' H')(r:Rep K μ h H)(e:H' a=H a)(q:RepO K μ h H a o):RepO K μ' h' H' a o:=by
 cases o with|lst xs=>obtain⟨vs,e1,z⟩:=q;exact⟨vs,e.trans e1,RepDs.stp s r z⟩|fro xs=>obtain⟨vs,e1,z⟩:=q;exact⟨vs,e.trans e1,RepDs.stp s r z⟩|ols ls=>obtain⟨vs,e1,z⟩:=q;exact⟨vs,e.trans e1,L2.Paired.mapP z λl v ⟨b,eb,ev⟩=>⟨b,s.pre l b eb,ev⟩⟩|dic kvs=>obtain⟨xs,e1,z⟩:=q;exact⟨xs,e.trans e1,L2.Paired.mapP z λp q ⟨ep,ek,ev⟩=>⟨ep,⟨ek.1,RepD.stp s r ek.2⟩,RepD.stp s r ev⟩⟩|ins c fs=>obtain⟨C,dx,fs',ec,e1,z⟩:=q;exact⟨C,dx,fs',ec,e.trans e1,L2.Paired.mapP z λp q ⟨ep,eq⟩=>⟨ep,RepR.stp s r eq⟩⟩
theorem Stp.fresh(n:H p=none):Stp μ h H μ h (upd H p o):=⟨λ_ _ e=>e,λa o' _ e=>by rw[zah (zak e n)];exact e,λ_ l=>.inl l⟩
theorem Rep.ne_fresh(r:Rep K μ h H){i:Nat}(n:H p=none)(e1:μ[i]?=some a)(e2:h[i]?=some o):a≠p:=by obtain⟨u,q⟩:=(r.obj i a o e1 e2).some;exact zak q n
theorem Rep.fresh{o:HO}(r:Rep K μ h H)(n:H p=none):Rep K μ h (upd H p o):=⟨r.len,r.nd,λi a ob e1 e2=>RepO.stp (Stp.fresh n) r (zah (r.ne_fresh n e1 e2)) (r.obj i a ob e1 e2)⟩
theorem zhy(hl:μ.length=h.length):Live (μ++[p]) (h++[o]) a↔Live μ h a\/(a=p/\o.mut=true):=by
 constructor
 ·rintro ⟨i,o',e1,e2,e3⟩
  by_cases hi:i<μ.length
  ·rw [ZG hi] at e1
   rw[ZG (by omega)] at e2;exact .inl ⟨i,o',e1,e2,e3⟩
  ·rw [Zw (by omega)] at e1 e2
   have hz:i-μ.length=0:=by
    cases hk:i-μ.length with|zero=>rfl|succ k=>rw[hk] at e1;simp at e1
   rw[hz] at e1;rw[<-hl,hz] at e2;simp at e1 e2;subst e1 e2;exact .inr ⟨rfl,e3⟩
 ·rintro (⟨i,o',e1,e2,e3⟩|⟨rfl,e3⟩)
  ·obtain ⟨h1,_⟩:=Z3.mp e1
   exact⟨i,o',by rw[ZG h1];exact e1,by rw[ZG (by omega)];exact e2,e3⟩
  ·exact⟨μ.length,o,by simp,by rw[hl];simp,e3⟩
theorem Stp.allocO(r:Rep K μ h H)(n:H p=none):Stp μ h H (μ++[p]) (h++[ob]) (upd H p o):=
  ⟨fun i a e=>by rw[ZG (Z3.mp e).1];exact e,λa o' _ e=>by rw[zah (zak e n)];exact e,
   fun a l=>by
    rcases(zhy r.len).mp l with z|⟨rfl,_⟩
    · exact .inl z
    · exact .inr n⟩
theorem Stp.alloc(r:Rep K μ h H)(n:H p=none):Stp μ h H (μ++[p]) (h++[.lst xs]) (upd H p o):=Stp.allocO r n
theorem Rep.allocO{o:Ob}(r:Rep K μ h H)(n:H p=none)(q:RepO K (μ++[p]) (h++[o]) (upd H p u) p o):Rep K (μ++[p]) (h++[o]) (upd H p u):=by
 have st:Stp μ h H (μ++[p]) (h++[o]) (upd H p u):=Stp.allocO r n;refine⟨by simp[r.len],?_,λi a ob e1 e2=>?_⟩
 ·rw [List.nodup_append]
  refine⟨r.nd,by simp,λa ha b hb=>?_⟩;simp at hb;subst hb
  rintro rfl
  obtain⟨i,hi,e⟩:=X3 ha
  have hi':i<h.length:=by rw[<-r.len];exact hi
  exact r.ne_fresh n (by rw[Z2 hi,e]) (Z2 hi') rfl
 ·by_cases hi:i<μ.length
  ·rw [ZG hi] at e1
   rw[ZG (by have:=r.len;omega)] at e2
   exact RepO.stp st r (zah (r.ne_fresh n e1 e2)) (r.obj i a ob e1 e2)
  ·rw [Zw (by omega)] at e1
   have hz:i-μ.length=0:=by
    cases hk:i-μ.length with|zero=>rfl|succ k=>rw[hk] at e1;simp at e1
   rw[hz] at e1;simp at e1;subst e1
   have hi2:i=h.length:=by have:=r.len;have:=(Z3.mp e2).1;simp at this;omega
   subst hi2;simp at e2;subst e2;exact q
theorem Rep.alloc(r:Rep K μ h H)(n:H p=none)(q:RepDs K (Live μ h) H xs vs):Rep K (μ++[p]) (h++[.lst xs]) (upd H p (.lst vs)):=r.allocO n ⟨vs,zai,RepDs.stp (Stp.allocO r n) r q⟩
end
end IT
namespace IT
open PySem PySem.Spec L2
def RdD(K:Z8)(A:Addr->Prop)(H:Hp)(x:D)(v:V):Prop:=match x with|.lst xs=>∃a vs,v=.ref a/\SqL K H a vs/\RepDs K A H xs vs|x=>RepD K A H x v
section
variable {K:Z8}{μ μ':List Addr}{h h':Sto}{H H':Hp}
theorem RdD.of{A:Addr->Prop}(q:RepD K A H x v):RdD K A H x v:=by
 cases x with|lst xs=>simp only[RepD] at q;obtain⟨a,vs,e,r,z⟩:=q;exact⟨a,vs,e,r.sq,z⟩|_=>exact q
theorem zey(e:rd (.loc l) h=some (d,h')):∃o,h[l]?=some o/\o.isL=true/\d=.lst o.items/\h'=h:=by
 simp only[rd] at e
 cases ho:h[l]? with
 |none=>rw[ho] at e;cases e
 | some o=>
  rw[ho] at e;simp only at e
  split at e
  ·rename_i il
   simp only[Z6,ZS] at e;exact⟨o,rfl,il,e.1.symm,e.2.symm⟩
  ·cases e
theorem zer(e:zcX x h=some (u,h')):∃l o,x=.loc l/\h[l]?=some o/\o.isL=true/\h'=h:=by
 cases x with
 |d _=>cases e
 | loc l=>
  simp only[zcX] at e
  cases ho:h[l]? with
  |none=>rw[ho] at e;cases e
  | some o=>
   rw[ho] at e;simp only at e
   split at e
   ·rename_i il
    simp only[Z6,ZS] at e;exact⟨l,o,rfl,ho,il,e.2.symm⟩
   ·cases e
theorem za5{r:R}(R0:Rep K μ h H)(q:RepR K μ h H r v)(e:rd r h=some (d,h')):h'=h/\RdD K (Live μ h) H d v:=by
 cases r with
 |d x=>simp only[rd,ok,Z6,ZS] at e;obtain⟨rfl,rfl⟩:=e;exact⟨rfl,RdD.of q⟩
 | loc l=>
  obtain⟨a,ea,rfl⟩:=q;simp only[rd] at e
  cases ho:h[l]? with
  |none=>rw[ho] at e;cases e
  | some o=>
   rw[ho] at e;simp only at e
   split at e
   ·rename_i il
    simp only[Z6,ZS] at e;obtain⟨rfl,rfl⟩:=e;obtain⟨vs,q1,q2⟩:=(R0.obj l a o ea ho).isL il;exact⟨rfl,a,vs,rfl,.inl (.inl q1),q2⟩
   ·cases e
theorem zfn{l:List Addr}(hn:l.Nodup){i j:Nat}(h1:l[i]?=some a)(h2:l[j]?=some a):i=j:=by obtain⟨p1,e1⟩:=Z3.mp h1;obtain⟨p2,e2⟩:=Z3.mp h2;exact(List.getElem_inj hn).mp (e1.trans e2.symm)
theorem zp5(R0:Rep K μ h H)(ho:h[l]?=some o)(il:o.isL=true):Stp μ h H μ (h.set l (.fro o.items)) H/\Rep K μ (h.set l (.fro o.items)) H:=by
 have hl:l<h.length:=(Z3.mp ho).1
 have lv:∀a,Live μ (h.set l (.fro o.items)) a->Live μ h a:=by
  rintro a ⟨i,xs,e1,e2,e3⟩
  by_cases hi:i=l
  ·subst hi
   rw[Zo hl] at e2;cases e2;cases e3
  ·rw [Zv (YZ hi)] at e2
   exact⟨i,xs,e1,e2,e3⟩
 have st:Stp μ h H μ (h.set l (.fro o.items)) H:=⟨λ_ _ e=>e,λ_ _ _ e=>e,λa z=>.inl (lv a z)⟩;refine⟨st,by simp[R0.len],R0.nd,λi a ob e1 e2=>?_⟩
 by_cases hi:i=l
 ·subst hi
  rw[Zo hl] at e2;cases e2;obtain⟨vs,q1,q2⟩:=(R0.obj i a o e1 ho).isL il;exact⟨vs,q1,RepDs.stp st R0 q2⟩
 ·rw [Zv (YZ hi)] at e2
  exact RepO.stp st R0 rfl (R0.obj i a ob e1 e2)
theorem zj0{r:R}{v:V}(R0:Rep K μ h H)(q:RepR K μ h H r v)(e:fz r h=some (d,h')):Stp μ h H μ h' H/\Rep K μ h' H/\RepD K (Live μ h') H d v:=by
 cases r with
 |d x=>simp only[fz,ok,Z6,ZS] at e;obtain⟨rfl,rfl⟩:=e;exact⟨Stp.refl,R0,q⟩
 | loc l=>
  obtain⟨a,ea,rfl⟩:=q;simp only[fz] at e
  cases ho:h[l]? with
  |none=>rw[ho] at e;cases e
  | some o=>
   rw[ho] at e;simp only at e
   split at e
   ·rename_i il
    simp only[Z6,ZS] at e;obtain⟨rfl,rfl⟩:=e;obtain⟨st,R1⟩:=zp5 R0 ho il;have hl:l<h.length:=(Z3.mp ho).1;obtain⟨vs,q1,q2⟩:=(R0.obj l a o ea ho).isL il;refine⟨st,R1,?_⟩;simp only[RepD];refine⟨a,vs,rfl,.inl ⟨?_,.inl q1⟩,RepDs.stp st R0 q2⟩
    rintro⟨i,xs,e1,e2,e3⟩
    have:=zfn R0.nd e1 ea
    subst this;rw[Zo hl] at e2;cases e2;cases e3
   ·cases e
theorem zmX{l:Nat}{a:Addr}(R0:Rep K μ h H)(ea:μ[l]?=some a)(ho:h[l]?=some o)(hm:o.mut=true)
  (q:Stp μ h H μ (h.set l o') (upd H a u)->RepO K μ (h.set l o') (upd H a u) a o'):Stp μ h H μ (h.set l o') (upd H a u)/\Rep K μ (h.set l o') (upd H a u):=by
 have hl:l<h.length:=(Z3.mp ho).1;have hla:Live μ h a:=⟨l,o,ea,ho,hm⟩
 have lv:∀b,Live μ (h.set l o') b->Live μ h b:=by
  rintro b ⟨i,zs,e1,e2,e3⟩
  by_cases hi:i=l
  ·subst hi
   exact⟨i,o,e1,ho,hm⟩
  ·rw [Zv (YZ hi)] at e2
   exact⟨i,zs,e1,e2,e3⟩
 have st:Stp μ h H μ (h.set l o') (upd H a u):=⟨λ_ _ e=>e,λb o n e=>by rw[zah (λz=>n (by rw[z];exact hla))];exact e,λb z=>.inl (lv b z)⟩
 refine⟨st,by simp[R0.len],R0.nd,λi b ob e1 e2=>?_⟩
 by_cases hi:i=l
 ·subst hi
  rw[ea] at e1;cases e1
  rw[Zo hl] at e2;cases e2;exact q st
 ·rw [Zv (YZ hi)] at e2
  exact RepO.stp st R0 (zah (λz:b=a=>hi (zfn R0.nd e1 (by rw[z];exact ea)))) (R0.obj i b ob e1 e2)
theorem write(R0:Rep K μ h H)(ea:μ[l]?=some a)(ho:h[l]?=some (.lst xs))(q:RepDs K (Live μ h) H ys ws):
  Stp μ h H μ (h.set l (.lst ys)) (upd H a (.lst ws))/\Rep K μ (h.set l (.lst ys)) (upd H a (.lst ws)):=
 zmX R0 ea ho rfl λst=>⟨ws,zai,RepDs.stp st R0 q⟩
end
theorem zab{α β:Type}{x:M α}{f:α->M β}{h:Sto}{r:β×Sto}:bnd x f h=some r↔∃a h1,x h=some (a,h1)/\f a h1=some r:=by
 unfold bnd
 cases e:x h with
 |none=>simp
 |some p=>
  obtain⟨a,h1⟩:=p
  exact⟨λq=>⟨a,h1,rfl,q⟩,λ⟨a',h1',e',q⟩=>by cases e';exact q⟩
theorem zac{α:Type}{a b:α}{h h':Sto}:ok a h=some (b,h')↔a=b/\h=h':=by simp[ok]
theorem zax{α:Type}{o:Option α}{b:α}{h h':Sto}:opt o h=some (b,h')↔o=some b/\h=h':=by
 unfold opt
 cases o with|none=>simp|some a=>simp
structure RepE(K:Z8)(μ:List Addr)(h:Sto)(H:Hp)(env:IT.Env)(σ:St):Prop where
 len:env.length=σ.length
 get:∀(i:Nat) (r:R),env[i]?=some (some r)->∃v,σ[i]?=some (some v)/\RepR K μ h H r v
inductive zaM(K:Z8)(μ:List Addr)(h:Sto)(H:Hp):List R->List V->Prop where|nil:zaM K μ h H [] []|cons {r:R} {v:V} {rs:List R} {vs:List V}:RepR K μ h H r v->zaM K μ h H rs vs->zaM K μ h H (r::rs) (v::vs)
section
variable {K:Z8}{μ μ':List Addr}{h h':Sto}{H H':Hp}
theorem RepE.stp(s:Stp μ h H μ' h' H')(R0:Rep K μ h H){env:IT.Env}(q:RepE K μ h H env σ):RepE K μ' h' H' env σ:=⟨q.len,λi r e=>let ⟨v,e',z⟩:=q.get i r e;⟨v,e',z.stp s R0⟩⟩
theorem zaM.stp(s:Stp μ h H μ' h' H')(R0:Rep K μ h H){rs:List R}(q:zaM K μ h H rs vs):zaM K μ' h' H' rs vs:=by
 induction q with|nil=>exact .nil|cons a _ ih=>exact .cons (a.stp s R0) ih
theorem zaM.length{rs:List R}(q:zaM K μ h H rs vs):rs.length=vs.length:=by
 induction q with|nil=>rfl|cons _ _ ih=>simp[ih]
theorem RepE.set(q:RepE K μ h H env σ)(i:Nat)(z:RepR K μ h H r v):RepE K μ h H (env.set i (some r)) (σ.set i (some v)):=by
 refine⟨by simp[q.len],λj r' e=>?_⟩
 by_cases hj:j=i
 ·subst hj
  have hl:j<env.length:=by
   have:=(Z3.mp e).1
   simpa using this
  rw[Zo hl] at e;cases e
  exact⟨v,by rw[Zo (by rw[<-q.len];exact hl)],z⟩
 ·rw [Zv (YZ hj)] at e⊢
  exact q.get j r' e
theorem zk0:∀{rs:List R} {vs:List V} {ds:List D} {h h':Sto},Rep K μ h H->zaM K μ h H rs vs->rds rs h=some (ds,h')->h'=h/\Paired (RdD K (Live μ h) H) ds vs| [],_,ds,h,h',R0,.nil,e=>by simp only[rds,zac] at e;obtain⟨rfl,rfl⟩:=e;exact⟨rfl,.nil⟩|r::rs,_,ds,h,h',R0,.cons q qs,e=>by simp only[rds,zab,zac] at e;obtain⟨d,h1,e1,ds',h2,e2,rfl,rfl⟩:=e;obtain⟨rfl,z⟩:=za5 R0 q e1;obtain⟨rfl,zs⟩:=zk0 R0 qs e2;exact⟨rfl,.cons z zs⟩
theorem zle:∀{rs:List R} {vs:List V} {ds:List D} {h h':Sto},Rep K μ h H->zaM K μ h H rs vs->fzs rs h=some (ds,h')->Stp μ h H μ h' H/\Rep K μ h' H/\RepDs K (Live μ h') H ds vs| [],_,ds,h,h',R0,.nil,e=>by simp only[fzs,zac] at e;obtain⟨rfl,rfl⟩:=e;exact⟨Stp.refl,R0,.nil⟩|r::rs,_,ds,h,h',R0,.cons q qs,e=>by simp only[fzs,zab,zac] at e;obtain⟨d,h1,e1,ds',h2,e2,rfl,rfl⟩:=e;obtain⟨s1,R1,z⟩:=zj0 R0 q e1;obtain⟨s2,R2,zs⟩:=zle R1 (qs.stp s1 R0) e2;exact⟨s1.trans s2,R2,.cons (z.stp s2 R1) zs⟩
end
inductive Post{α β:Type}(K:Z8)(μ:List Addr)(h:Sto)(H:Hp)(Rel:List Addr->Sto->Hp->α->β->Prop)(m:Option (α×Sto))(Q:β->Hp->Prop):Prop where|mk (r:α) (h':Sto) (e:m=some (r,h')) (k:∀μ' H' v,Stp μ h H μ' h' H'->Rep K μ' h' H'->Rel μ' h' H' r v->Q v H')
inductive tE(K:Z8)(f:IT.Env->M R)(σ:St)(H:Hp)(Q:VK):Prop where|mk (μ:List Addr) (h:Sto) (env:IT.Env) (R0:Rep K μ h H) (re:RepE K μ h H env σ) (p:Post K μ h H (RepR K) (f env h) Q)
inductive tTv(K:Z8)(f:IT.Env->M Bool)(σ:St)(H:Hp)(Q:Bool->Hp->Prop):Prop where|mk (μ:List Addr) (h:Sto) (env:IT.Env) (R0:Rep K μ h H) (re:RepE K μ h H env σ) (p:Post K μ h H (λ_ _ _ a b=>a=b) (f env h) Q)
inductive tAs(K:Z8)(f:IT.Env->M (List R))(σ:St)(H:Hp)(Q:List V->Hp->Prop):Prop where|mk (μ:List Addr) (h:Sto) (env:IT.Env) (R0:Rep K μ h H) (re:RepE K μ h H env σ) (p:Post K μ h H (zaM K) (f env h) Q)
inductive tLs(K:Z8)(f:IT.Env->M (List D))(σ:St)(H:Hp)(Q:VK):Prop where|mk (μ:List Addr) (h:Sto) (env:IT.Env) (R0:Rep K μ h H) (re:RepE K μ h H env σ) (xs:List D) (h':Sto) (e:f env h=some (xs,h')) (k:∀μ' H' a vs,Stp μ h H μ' h' H'->Rep K μ' h' H'->RepDs K (Live μ' h') H' xs vs->H' a=none->Q (.ref a) (upd H' a (.lst vs)))
abbrev IE(X:Cx)(e:Expr)(f:IT.Env->M R):Prop:=PE X e (tE X.K f)
abbrev IT'(X:Cx)(e:Expr)(f:IT.Env->M Bool):Prop:=PT X e (tTv X.K f)
abbrev IA(X:Cx)(es:List Expr)(f:IT.Env->M (List R)):Prop:=PA X es (tAs X.K f)
abbrev IL(X:Cx)(e:Expr)(f:IT.Env->M (List D)):Prop:=PE X e (tLs X.K f)
theorem PE.imp{X:Cx}(h:PE X e t)(i:∀σ H Q,t' σ H Q->t σ H Q):PE X e t':=λpins s σ H Q I q=>h pins s σ H Q I (i σ H Q q)
theorem PT.imp{X:Cx}(h:PT X e t)(i:∀σ H Q,t' σ H Q->t σ H Q):PT X e t':=λpins s σ H Q I q=>h pins s σ H Q I (i σ H Q q)
theorem PA.imp{X:Cx}(h:PA X e t)(i:∀σ H Q,t' σ H Q->t σ H Q):PA X e t':=λpos pins s σ H Q I q=>h pos pins s σ H Q I (i σ H Q q)
section
variable {X:Cx}{e a b c:Expr}{es:List Expr}{pos:Pos}{f g k:IT.Env->M R}{ft gt:IT.Env->M Bool}
theorem zfC{v:V}(h:PE X e (tC v))(hd:∀A H,RepD X.K A H d v):IE X e (λ_=>ok (.d d)):=by refine PE.imp h λσ H Q q0=>?_;obtain⟨μ,h,env,R0,re,r,h',e,k⟩:=q0;obtain⟨rfl,rfl⟩:=zac.mp e;exact k μ H v Stp.refl R0 (hd _ _)
theorem zqZ{i:Nat}(h:PE X e (tVar i)):IE X e (λσ h=>match σ[i]? with | some (some r)=>some (r,h) | _=>none):=by
 refine PE.imp h λσ H Q q0=>?_;obtain⟨μ,h,env,R0,re,r,h',e,k⟩:=q0
 have e2:env[i]?=some (some r)/\h=h':=by
  (try dsimp only at e)
  cases q:env[i]? with
  |none=>rw[q] at e;cases e
  |some o=>
   cases o with|none=>rw[q] at e;cases e|some r'=>rw[q] at e;simp at e;exact⟨by rw[e.1],e.2⟩
 obtain⟨e3,rfl⟩:=e2;obtain⟨v,e4,z⟩:=re.get i r e3;exact⟨v,e4,k μ H v Stp.refl R0 z⟩
inductive OpIQ(K:Z8)(m:R->R->M R)(v u:V)(H:Hp)(Q:VK):Prop where|mk (μ:List Addr) (h:Sto) (x y:R) (R0:Rep K μ h H) (qx:RepR K μ h H x v) (qy:RepR K μ h H y u) (p:Post K μ h H (RepR K) (m x y h) Q)
def OpI(X:Cx)(F:Value->Value->Sem Value)(m:R->R->M R):Prop:=OpR X F λv u H Q=>OpIQ X.K m v u H Q
theorem two{m:R->R->M R}{σ:St}{Q:VK}(q:tE X.K (λσ=>bnd (f σ) λx=>bnd (g σ) λy=>m x y) σ H Q):
  tE X.K f σ H λv H1=>tE X.K g σ H1 λu H2=>OpIQ X.K m v u H2 Q:=by
 obtain⟨μ,h,env,R0,re,r,h',e,k⟩:=q;simp only[zab] at e;obtain⟨x,h1,e1,y,h2,e2,e3⟩:=e
 exact ⟨μ,h,env,R0,re,x,h1,e1,λμ1 H1 v s1 R1 q1=>⟨μ1,h1,env,R1,re.stp s1 R0,y,h2,e2,λμ2 H2 u s2 R2 q2=>⟨μ2,h2,x,y,R2,q1.stp s2 R1,q2,r,h',e3,λμ3 H3 w s3 R3 q3=>k μ3 H3 w ((s1.trans s2).trans s3) R3 q3⟩⟩⟩
theorem zqS{op:V3}(ho:OpI X (YC op) m)(ha:IE X a f)(hb:IE X b g):IE X (.BinOp a op b pos) (λσ=>bnd (f σ) λx=>bnd (g σ) λy=>m x y):=PE.imp (zrR ho ha hb) λσ H Q q=>two q
theorem zjr{op:CmpOp}(ho:OpI X (Zf op) m)(ha:IE X a f)(hb:IE X b g)(hm:Yn op b=false):IE X (.Compare a [op] [b] pos) (λσ=>bnd (f σ) λx=>bnd (g σ) λy=>m x y):=PE.imp (zjC ho ha hb hm) λσ H Q q=>two q
inductive OpDQ(K:Z8)(g:D->D->Option D)(v u:V)(H:Hp)(Q:VK):Prop where|mk (μ:List Addr) (h:Sto) (a b z:D) (R0:Rep K μ h H) (qa:RdD K (Live μ h) H a v) (qb:RdD K (Live μ h) H b u) (e:g a b=some z) (k:∀μ' H' w,Stp μ h H μ' h H'->Rep K μ' h H'->RepD K (Live μ' h) H' z w->Q w H')
def OpD(X:Cx)(F:Value->Value->Sem Value)(g:D->D->Option D):Prop:=OpR X F λv u H Q=>OpDQ X.K g v u H Q
def mD(g:D->D->Option D)(x y:R):M R:=bnd (rd x) λx=>bnd (rd y) λy=>bnd (opt (g x y)) λz=>ok (.d z)
theorem OpD.opI{F:Value->Value->Sem Value}{g:D->D->Option D}(h:OpD X F g):OpI X F (mD g):=by intro pins s σ H v u v' u' Q I rv ru q;obtain⟨μ,h0,x,y,R0,qx,qy,r,h',e,k⟩:=q;simp only[mD,zab,zac,zax] at e;obtain⟨dx,h1,e1,dy,h2,e2,z,h3,⟨e3,rfl⟩,rfl,rfl⟩:=e;obtain⟨rfl,zx⟩:=za5 R0 qx e1;obtain⟨rfl,zy⟩:=za5 R0 qy e2;exact h pins s σ H v u v' u' Q I rv ru ⟨μ,_,dx,dy,z,R0,zx,zy,e3,λμ' H' w st R1 qw=>k μ' H' w st R1 qw⟩
theorem zq9(h:IE X e f)(he:∀whole,isTrue e X.env whole=(do let v<-whole;Ww e.pos;holding [v] (truthy v))):IT' X e (λσ=>bnd (f σ) λr=>bnd (rd r) λd=>opt (tru d)):=by
 refine PT.imp (zmD h he) λσ H Q q0=>?_;obtain⟨μ,h,env,R0,re,t,h',e,k⟩:=q0;simp only[zab,zax] at e;obtain⟨r,h1,e1,d,h2,e2,e3,rfl⟩:=e;refine⟨μ,h,env,R0,re,r,h1,e1,λμ1 H1 v s1 R1 q1=>?_⟩;obtain⟨rfl,z⟩:=za5 R1 q1 e2;refine⟨t,?_,k μ1 H1 t s1 R1 rfl⟩
 cases d with
 |non=>simp only[RdD,RepD] at z;subst z;simp only[tru,Z6] at e3;exact e3.symm|bl b=>simp only[RdD,RepD] at z;subst z;simp only[tru,Z6] at e3;exact e3.symm|int i=>simp only[RdD,RepD] at z;subst z;simp only[tru,Z6] at e3;exact e3.symm
 | str x=>
  simp only[RdD,RepD] at z;subst z;simp only[tru] at e3
  split at e3
  ·rename_i hf
   simp only[Z6] at e3
   refine⟨by rw[zag];exact of_decide_eq_true hf,?_⟩
   rw[<-e3,zag]
   cases x<;>simp
   omega
  ·cases e3
 |tup xs=>
  simp only[RdD,RepD] at z;obtain⟨a,vs,rfl,q,zs⟩:=z;simp only[tru,Z6] at e3;refine .inr (.inl ⟨vs,q,?_⟩);rw[<-e3]
  have:=zs.length
  cases xs<;>cases vs<;>simp_all
 |lst xs=>
  obtain⟨a,vs,rfl,q,zs⟩:=z;simp only[tru,Z6] at e3;refine .inl ⟨vs,q,?_⟩;rw[<-e3]
  have:=zs.length
  cases xs<;>cases vs<;>simp_all
theorem zlh{op:CmpOp}{m:R->R->M R}(ho:OpI X (Zf op) m)(ha:IE X a f)(hb:IE X b g)(hm:Yn op b=false)(hbl:∀x y h r h',m x y h=some (r,h')->∃t,r=.d (.bl t)):
  IT' X (.Compare a [op] [b] pos) (λσ=>bnd (bnd (f σ) λx=>bnd (g σ) λy=>m x y) λr=>bnd (rd r) λd=>opt (tru d)):=by
 refine PT.imp (zo2 ho ha hb hm) λσ H Q q0=>?_;obtain⟨μ,h,env,R0,re,t,h',e,k⟩:=q0;simp only[zab,zax] at e;obtain⟨r,h1,⟨x,h2,e1,y,h3,e2,e3⟩,d,h4,e4,e5,rfl⟩:=e;obtain⟨t',rfl⟩:=hbl _ _ _ _ _ e3;simp only[rd,zac] at e4;obtain⟨rfl,rfl⟩:=e4;simp only[tru,Z6] at e5;subst e5
 refine two (m:=m) ⟨μ,h,env,R0,re,.d (.bl t'),h1,by simp only[zab];exact⟨x,h2,e1,y,h3,e2,e3⟩,λμ1 H1 v s1 R1 q1=>?_⟩
 simp only[RepR,RepD] at q1;subst q1;exact⟨t',rfl,k μ1 H1 t' s1 R1 rfl⟩
theorem zne{rest:List Expr}{tb:TT}(ha:IT' X a ft)(hb:PW X (.BoolOp .And (b::rest) pos) (tTv X.K gt)):PW X (.BoolOp .And (a::b::rest) pos) (tTv X.K λσ=>bnd (ft σ) λt=>if t then gt σ else ok false):=by
 intro whole pins s σ H Q I q;refine zrI ha hb whole pins s σ H Q I ?_;obtain⟨μ,h,env,R0,re,t,h',e,k⟩:=q;simp only[zab] at e;obtain⟨u,h1,e1,e2⟩:=e;refine⟨μ,h,env,R0,re,u,h1,e1,λμ1 H1 v s1 R1 hv=>?_⟩;subst hv
 cases u with|true=>rw[if_pos rfl] at e2;rw[if_pos rfl];exact⟨μ1,h1,env,R1,re.stp s1 R0,t,h',e2,λμ2 H2 v s2 R2 hv=>k μ2 H2 v (s1.trans s2) R2 hv⟩|false=>rw[if_neg (by decide)] at e2;rw[if_neg (by decide)];obtain⟨rfl,rfl⟩:=zac.mp e2;exact k μ1 H1 _ s1 R1 rfl
theorem zqm{rest:List Expr}(ha:IT' X a ft)(hb:PW X (.BoolOp .Or (b::rest) pos) (tTv X.K gt)):PW X (.BoolOp .Or (a::b::rest) pos) (tTv X.K λσ=>bnd (ft σ) λt=>if t then ok true else gt σ):=by
 intro whole pins s σ H Q I q;refine zpB ha hb whole pins s σ H Q I ?_;obtain⟨μ,h,env,R0,re,t,h',e,k⟩:=q;simp only[zab] at e;obtain⟨u,h1,e1,e2⟩:=e;refine⟨μ,h,env,R0,re,u,h1,e1,λμ1 H1 v s1 R1 hv=>?_⟩;subst hv
 cases u with|false=>rw[if_neg (by decide)] at e2;rw[if_neg (by decide)];exact⟨μ1,h1,env,R1,re.stp s1 R0,t,h',e2,λμ2 H2 v s2 R2 hv=>k μ2 H2 v (s1.trans s2) R2 hv⟩|true=>rw[if_pos rfl] at e2;rw[if_pos rfl];obtain⟨rfl,rfl⟩:=zac.mp e2;exact k μ1 H1 _ s1 R1 rfl
theorem zpN(ha:IT' X a ft):IT' X (.UnaryOp .Not a pos) (λσ=>bnd (ft σ) λt=>ok (!t)):=by refine PT.imp (zk6 ha) λσ H Q q0=>?_;obtain⟨μ,h,env,R0,re,t,h',e,k⟩:=q0;simp only[zab,zac] at e;obtain⟨u,h1,e1,rfl,rfl⟩:=e;refine⟨μ,h,env,R0,re,u,h1,e1,λμ1 H1 v s1 R1 hv=>?_⟩;subst hv;exact k μ1 H1 _ s1 R1 rfl
theorem zm5{rest:List Expr}(ha:IE X a f)(hb:IE X (.BoolOp .And (b::rest) pos) g):IE X (.BoolOp .And (a::b::rest) pos) (λσ=>bnd (f σ) λx=>match x with | .d (.bl c)=>if c then g σ else ok (.d (.bl false)) | _=>λ_=>none):=by
 refine PE.imp (znC ha hb) λσ H Q q0=>?_;obtain⟨μ,h,env,R0,re,r,h',e,k⟩:=q0;simp only[zab] at e;obtain⟨x,h1,e1,e2⟩:=e;refine⟨μ,h,env,R0,re,x,h1,e1,λμ1 H1 v s1 R1 q1=>?_⟩
 cases x with
 |loc l=>cases e2
 | d d=>
  cases d with
  | bl c=>
   simp only[RepR,RepD] at q1;refine⟨c,q1,?_⟩
   cases c with|true=>simp only[if_true] at e2⊢;exact⟨μ1,h1,env,R1,re.stp s1 R0,r,h',e2,λμ2 H2 v s2 R2 hv=>k μ2 H2 v (s1.trans s2) R2 hv⟩|false=>simp only[ZM,if_false] at e2⊢;obtain⟨rfl,rfl⟩:=zac.mp e2;exact k μ1 H1 _ s1 R1 (by simp only[RepR,RepD])
  |_=>cases e2
theorem zqH{rest:List Expr}(ha:IE X a f)(hb:IE X (.BoolOp .Or (b::rest) pos) g):IE X (.BoolOp .Or (a::b::rest) pos) (λσ=>bnd (f σ) λx=>match x with | .d (.bl c)=>if c then ok (.d (.bl true)) else g σ | _=>λ_=>none):=by
 refine PE.imp (zpu ha hb) λσ H Q q0=>?_;obtain⟨μ,h,env,R0,re,r,h',e,k⟩:=q0;simp only[zab] at e;obtain⟨x,h1,e1,e2⟩:=e;refine⟨μ,h,env,R0,re,x,h1,e1,λμ1 H1 v s1 R1 q1=>?_⟩
 cases x with
 |loc l=>cases e2
 | d d=>
  cases d with
  | bl c=>
   simp only[RepR,RepD] at q1;refine⟨c,q1,?_⟩
   cases c with|false=>simp only[ZM,if_false] at e2⊢;exact⟨μ1,h1,env,R1,re.stp s1 R0,r,h',e2,λμ2 H2 v s2 R2 hv=>k μ2 H2 v (s1.trans s2) R2 hv⟩|true=>simp only[if_true] at e2⊢;obtain⟨rfl,rfl⟩:=zac.mp e2;exact k μ1 H1 _ s1 R1 (by simp only[RepR,RepD])
  |_=>cases e2
theorem zkx{pins:List (Addr×Obj)}{d:D}{v:V}{u:Value}{b:Bool}{Q:Bool->Shared->Prop}{E:Value->Shared->Prop}(I:Inv X pins σ H s)(q:RdD X.K A0 H d v)(r:RelV v u)(e:tru d=some b)(k:∀tk,Q b {s with toks:=tk}):
  wpAny (model X.prog X.w) A (truthy u) Q E s:=by
 have hl:=zdq;have hs:sizeLine=16777216:=YK
 cases d with
 |non=>
  simp only[RdD,RepD] at q;subst q;cases r
  simp only[tru,Z6] at e;subst e
  exact PyProof.Rows.truthy_none (k s.toks)
 |bl c=>
  simp only[RdD,RepD] at q;subst q;cases r
  simp only[tru,Z6] at e;subst e
  exact Yu (k s.toks)
 |int i=>
  simp only[RdD,RepD] at q;subst q
  obtain⟨t,rfl⟩:=r
  simp only[tru,Z6] at e;subst e
  exact PySem.P.truthy_int (k s.toks)
 | str x=>
  simp only[RdD,RepD] at q;subst q
  obtain⟨t,rfl⟩:=r;simp only[tru] at e
  split at e
  ·rename_i hf
   simp only[Z6] at e;have hx:x.length<=big:=of_decide_eq_true hf;unfold big at hx
   refine PySem.P.truthy_str (by rw[zag];omega) ?_
   have e2:(((zaa x).length:Int) != 0)=b:=by
    rw[<-e,zag]
    cases x<;>simp
    omega
   rw[e2];exact k _
  ·cases e
 | tup xs=>
  simp only[RdD,RepD] at q;obtain⟨a,vs,rfl,q,zs⟩:=q;cases r;simp only[tru,Z6] at e;obtain⟨its,ri,pl,hz⟩:=I.tuple q;have hlen:=ri.length;have h1:=zs.length
  refine PyProof.Rows.truthy_tuple pl (by simp only[ZV];omega) ?_
  have e2:(!its.toArray.isEmpty)=b:=by
   rw[zbF ri,<-e];clear hlen ri pl q hz
   cases xs<;>cases vs<;>first | rfl | (simp at h1)
  rw[e2];exact k _
 | lst xs=>
  obtain⟨a,vs,rfl,q,zs⟩:=q;cases r;simp only[tru,Z6] at e;obtain⟨its,ri,pl,hz⟩:=I.list q;have hlen:=ri.length;have h1:=zs.length
  refine wpAny_truthy_list pl.isList (by simp only[ZV];omega) ?_
  have e2:(!its.toArray.isEmpty)=b:=by
   rw[zbF ri,<-e];clear hlen ri pl q hz
   cases xs<;>cases vs<;>first | rfl | (simp at h1)
  rw[e2];exact k _
theorem zp1(ha:IE X a f):IE X (.UnaryOp .Not a pos) (λσ=>bnd (f σ) λx=>bnd (rd x) λd=>bnd (opt (tru d)) λt=>ok (.d (.bl (!t)))):=by
 intro pins s σ H Q I q0;obtain⟨μ,h,env,R0,re,r,h',e,k⟩:=q0;simp only[zab,zax,zac] at e;obtain⟨x,h1,e1,d,h2,e2,t,h3,⟨e3,rfl⟩,rfl,rfl⟩:=e
 have z:=ha pins s σ H (λy H1=>∃A0 d,RdD X.K A0 H1 d y/\tru d=some t/\Q (.bl (!t)) H1) I ⟨μ,h,env,R0,re,x,h1,e1,λμ1 H1 v s1 R1 q1=>by
  obtain⟨rfl,z⟩:=za5 R1 q1 e2
  exact⟨_,d,z,e3,k μ1 H1 _ s1 R1 (by simp only[RepR,RepD])⟩⟩
 refine PyProof.Rows.UnaryOp_ (thn z λv s1 ⟨y,H1,I1,r1,A0,d',z1,z2,q1⟩=>PyProof.Rows.not_of ?_);exact zkx I1 z1 r1 z2 λtk=>⟨.bl (!t),H1,I1.tok _,rfl,q1⟩
theorem zrf(ha:IE X a f):IE X (.UnaryOp .USub a pos) (λσ=>bnd (f σ) λx=>match x with | .d (.int i)=>ok (.d (.int (-i))) | _=>λ_=>none):=by
 refine PE.imp (zsM zp6 ha) λσ H Q q0=>?_;obtain⟨μ,h,env,R0,re,r,h',e,k⟩:=q0;simp only[zab] at e;obtain⟨x,h1,e1,e2⟩:=e;refine⟨μ,h,env,R0,re,x,h1,e1,λμ1 H1 v s1 R1 q1=>?_⟩
 cases x with
 |loc l=>cases e2
 | d d=>
  cases d with|int i=>simp only[RepR,RepD] at q1;obtain⟨rfl,rfl⟩:=zac.mp e2;exact⟨i,q1,k μ1 H1 _ s1 R1 (by simp only[RepR,RepD])⟩|_=>cases e2
theorem zqt(hc:IT' X c ft)(ha:IE X a f)(hb:IE X b g):IE X (.IfExp c a b pos) (λσ=>bnd (ft σ) λt=>if t then f σ else g σ):=by
 refine PE.imp (zlM hc ha hb) λσ H Q q0=>?_;obtain⟨μ,h,env,R0,re,r,h',e,k⟩:=q0;simp only[zab] at e;obtain⟨t,h1,e1,e2⟩:=e;refine⟨μ,h,env,R0,re,t,h1,e1,λμ1 H1 v s1 R1 hv=>?_⟩;subst hv
 cases t with|true=>simp only[if_true] at e2⊢;exact⟨μ1,h1,env,R1,re.stp s1 R0,r,h',e2,λμ2 H2 v s2 R2 hv=>k μ2 H2 v (s1.trans s2) R2 hv⟩|false=>simp only[ZM,if_false] at e2⊢;exact⟨μ1,h1,env,R1,re.stp s1 R0,r,h',e2,λμ2 H2 v s2 R2 hv=>k μ2 H2 v (s1.trans s2) R2 hv⟩
theorem zrF:IA X [] (λ_=>ok []):=by refine PA.imp zaW λσ H Q q0=>?_;obtain⟨μ,h,env,R0,re,r,h',e,k⟩:=q0;obtain⟨rfl,rfl⟩:=zac.mp e;exact k μ H [] Stp.refl R0 .nil
theorem zjb:∀{xs:List V} {vs:List Value},xs.length=vs.length->(∀(j:Nat) (x:V) (v:Value),xs[j]?=some x->vs[j]?=some v->RelV x v)->Vals xs vs| [],[],_,_=>.nil| [],_::_,l,_=>by simp at l|_::_,[],l,_=>by simp at l|x::xs,v::vs,l,k=>.cons (k 0 x v rfl rfl) (zjb (by simpa using l) λj x v e1 e2=>k (j+1) x v (by simpa using e1) (by simpa using e2))
theorem zn3{fs:IT.Env->M (List R)}(ha:IE X e f)(hr:IA X es fs)(hs:ZT (e::es) X.env=(false,eval e X.env)::ZT es X.env):IA X (e::es) (λσ=>bnd (f σ) λr=>bnd (fs σ) λrs=>ok (r::rs)):=by refine PA.imp (zat ha hr hs) λσ H Q q0=>?_;obtain⟨μ,h,env,R0,re,r,h',e,k⟩:=q0;simp only[zab,zac] at e;obtain⟨x,h1,e1,xs,h2,e2,rfl,rfl⟩:=e;exact⟨μ,h,env,R0,re,x,h1,e1,λμ1 H1 v s1 R1 q1=>⟨μ1,h1,env,R1,re.stp s1 R0,xs,h2,e2,λμ2 H2 vs s2 R2 q2=>k μ2 H2 (v::vs) (s1.trans s2) R2 (.cons (q1.stp s2 R1) q2)⟩⟩
theorem zrP{n:Nat}{fs:IT.Env->M (List R)}(h:IA X es fs)(hl:es.length<=1000)(hf:∀σ h rs h',fs σ h=some (rs,h')->rs.length=es.length):IE X (.Tuple es n pos) (λσ=>bnd (fs σ) λrs=>bnd (fzs rs) λds=>ok (.d (.tup ds))):=by
 refine PE.imp (znf h) λσ H Q q0=>?_;obtain⟨μ,h,env,R0,re,r,h',e,k⟩:=q0;simp only[zab,zac] at e;obtain⟨rs,h1,e1,ds,h2,e2,rfl,rfl⟩:=e;refine⟨μ,h,env,R0,re,rs,h1,e1,λμ1 H1 vs s1 R1 q1=>⟨?_,λp hp=>?_⟩⟩
 ·rw [<-q1.length,hf _ _ _ _ e1]
  have:(1000:Nat)<=sizeLine:=by decide
  omega
 ·obtain ⟨s2,R2,q2⟩:=zle R1 q1 e2
  have s3:Stp μ1 h2 H1 μ1 h2 (upd H1 p (.tup vs)):=Stp.fresh hp;refine k μ1 _ (.ref p) ((s1.trans s2).trans s3) (R2.fresh hp) ?_;simp only[RepR,RepD];exact⟨p,vs,rfl,SqT.of zai,RepDs.stp s3 R2 q2⟩
theorem zn6{fs:IT.Env->M (List R)}(h:IA X es fs)(hl:es.length<=1000)(hf:∀σ h rs h',fs σ h=some (rs,h')->rs.length=es.length):IL X (.List es pos) (λσ=>bnd (fs σ) λrs=>fzs rs):=by
 refine PE.imp (zrk h) λσ H Q q0=>?_;obtain⟨μ,h,env,R0,re,ds,h',e,k⟩:=q0;simp only[zab] at e;obtain⟨rs,h1,e1,e2⟩:=e;refine⟨μ,h,env,R0,re,rs,h1,e1,λμ1 H1 vs s1 R1 q1=>⟨?_,λp hp=>?_⟩⟩
 ·rw [<-q1.length,hf _ _ _ _ e1]
  have:(1000:Nat)<=sizeLine:=by decide
  omega
 ·obtain ⟨s2,R2,q2⟩:=zle R1 q1 e2
  exact k μ1 H1 p vs (s1.trans s2) R2 q2 hp
theorem zga{fl:IT.Env->M (List D)}(m:Bool)(h:IL X e fl):IE X e (λσ=>bnd (fl σ) λxs=>if m then alloc xs else ok (.d (.lst xs))):=by
 refine PE.imp h λσ H Q q0=>?_;obtain⟨μ,h,env,R0,re,r,h',e,k⟩:=q0;simp only[zab] at e;obtain⟨xs,h1,e1,e2⟩:=e;refine⟨μ,h,env,R0,re,xs,h1,e1,λμ1 H1 a vs s1 R1 q1 ha=>?_⟩
 cases m with
 |true=>simp only[if_true,alloc,Z6,ZS] at e2;obtain⟨rfl,rfl⟩:=e2;refine k (μ1++[a]) _ (.ref a) (s1.trans (Stp.alloc R1 ha)) (R1.alloc ha q1) ⟨a,?_,rfl⟩;rw[<-R1.len];simp
 |false=>
  simp only[ZM,if_false] at e2;obtain⟨rfl,rfl⟩:=zac.mp e2;have s2:Stp μ1 h1 H1 μ1 h1 (upd H1 a (.lst vs)):=Stp.fresh ha;refine k μ1 _ (.ref a) (s1.trans s2) (R1.fresh ha) ?_;simp only[RepR,RepD];refine⟨a,vs,rfl,.inl ⟨λl=>?_,.inl zai⟩,RepDs.stp s2 R1 q1⟩;obtain⟨ws,z,_⟩:=R1.liveAt l
  rw[ha] at z;cases z
end
end IT
namespace IT
open PySem PySem.Spec L2
section
variable {K:Z8}{A0:Addr->Prop}{H:Hp}
theorem zfk(x y:List Nat):(zaa x==zaa y)=(x==y):=by
 by_cases e:x=y
 ·subst e;simp
 ·rw[beq_eq_false_iff_ne.mpr e,beq_eq_false_iff_ne.mpr (λz=>e (zby z))]
structure zaV(X:Cx)(s:Shared)(H:Hp):Prop where
 lst:∀a vs,SqL X.K H a vs->∃its:List Value,Vals vs its/\s.heap.IsList a its.toArray
 tup:∀a vs,SqT X.K H a vs->∃its:List Value,Vals vs its/\s.heap.IsTuple a its.toArray
theorem zaN(I:Inv X pins σ H s):zaV X s H:=⟨λa vs q=>let ⟨its,r,p,_⟩:=I.list q;⟨its,r,p.isList⟩,λa vs q=>let ⟨its,r,p,_⟩:=I.tuple q;⟨its,r,p⟩⟩
theorem zcu{α:Type}(xs ys:List α)(f:α->α->Bool)(hl:xs.length=ys.length)(e:Nat->Bool)(he:∀(j:Nat) (x y:α),xs[j]?=some x->ys[j]?=some y->e j=f x y):
  (Zk xs.length).all e=(xs.zip ys).all λp=>f p.1 p.2:=by
 rw[YW,Zl,Zl];constructor
 ·intro h p hp
  obtain⟨j,hj,e1⟩:=X3 hp
  have hj':j<xs.length/\j<ys.length:=by simp at hj;omega
  have e2:p=(xs[j]'hj'.1,ys[j]'hj'.2):=by rw[<-e1,List.getElem_zip]
  rw[e2,<-he j _ _ (Z2 hj'.1) (Z2 hj'.2)];exact h j (by simpa using hj'.1)
 ·intro h j hj
  have hj1:j<xs.length:=by simpa using hj
  have hj2:j<ys.length:=by omega
  rw[he j _ _ (Z2 hj1) (Z2 hj2)];refine h (xs[j],ys[j]) ?_;rw[List.mem_iff_getElem]
  exact⟨j,by simp;omega,by simp⟩
theorem zcr:∀xs ys:List D,xs.length=ys.length->D.eqbs xs ys=(xs.zip ys).all λp=>p.1.eqb p.2| [],[],_=>rfl|x::xs,y::ys,h=>by simp only[D.eqbs,List.zip_cons_cons,X8];rw[zcr xs ys (by simpa using h)]
theorem zcm:∀xs ys:List D,xs.length≠ys.length->D.eqbs xs ys=false| [],[],h=>absurd rfl h| [],_::_,_=>rfl|_::_,[],_=>rfl|x::xs,y::ys,h=>by simp only[D.eqbs];rw[zcm xs ys (by simpa using h),XY]
theorem zlO(r:Vals vs its)(e:vs[j]?=some v)(h:j<its.length):RelV v its[j]:=by obtain⟨u,e1,r1⟩:=r.get e;rw[Z2 h] at e1;cases e1;exact r1
mutual
theorem D.eqb_refl:∀x:D,x.eqb x=true|.non=>rfl|.bl a=>by simp[D.eqb]|.int a=>by simp[D.eqb]|.str a=>by simp[D.eqb]|.tup a=>by simp only[D.eqb];exact D.eqbs_refl a|.lst a=>by simp only[D.eqb];exact D.eqbs_refl a
theorem D.eqbs_refl:∀x:List D,D.eqbs x x=true| []=>rfl|a::r=>by simp only[D.eqbs,Z9];exact⟨D.eqb_refl a,D.eqbs_refl r⟩
end
section
variable {X:Cx}{s:Shared}
theorem zkp(S:zaV X s H)(q:SqT X.K H a vs)(q':SqT X.K H a ws):vs=ws:=by
 obtain⟨its,ri,o,h1,_,_,h2⟩:=S.tup a vs q;obtain⟨its',ri',o',h1',_,_,h2'⟩:=S.tup a ws q'
 rw[h1] at h1';cases h1';rw[h2] at h2';cases h2'
 exact Vals.inj ri ri'
theorem zkV(S:zaV X s H)(q:SqL X.K H a vs)(q':SqL X.K H a ws):vs=ws:=by
 obtain⟨its,ri,o,h1,_,_,h2⟩:=S.lst a vs q;obtain⟨its',ri',o',h1',_,_,h2'⟩:=S.lst a ws q'
 rw[h1] at h1';cases h1';rw[h2] at h2';cases h2'
 exact Vals.inj ri ri'
theorem zjM(S:zaV X s H)(q:SqL X.K H a vs)(q':SqT X.K H a ws):False:=by obtain⟨its,ri,p⟩:=S.lst a vs q;obtain⟨its',ri',p'⟩:=S.tup a ws q';exact SeqAt.ne_of_list_tuple p p' rfl
mutual
theorem RepD.inj(S:zaV X s H):∀(x y:D) (v:V),RepD X.K A0 H x v->RepD X.K A0 H y v->x=y
 |.non,y,v,qx,qy=>by
  simp only[RepD] at qx;subst qx
  cases y<;>simp_all [RepD]
 |.bl c,y,v,qx,qy=>by
  simp only[RepD] at qx;subst qx
  cases y<;>simp_all [RepD]
 |.int c,y,v,qx,qy=>by
  simp only[RepD] at qx;subst qx
  cases y<;>simp_all [RepD]
 |.str c,y,v,qx,qy=>by
  simp only[RepD] at qx;subst qx
  cases y with|str b=>simp only[RepD,V.str.injEq] at qy;rw[zby qy]|_=>simp[RepD] at qy
 | .tup c,y,v,qx,qy=>by
  simp only[RepD] at qx;obtain⟨a,vs,rfl,q,zs⟩:=qx
  cases y with|tup b=>simp only[RepD] at qy;obtain⟨a',vs',e,q',zs'⟩:=qy;cases e;have e2:=zkp S q q';subst e2;rw[RepDs.inj S c b vs zs zs']|lst b=>simp only[RepD] at qy;obtain⟨a',vs',e,q',zs'⟩:=qy;cases e;exact(zjM S q'.sq q).elim|_=>simp[RepD] at qy
 | .lst c,y,v,qx,qy=>by
  simp only[RepD] at qx;obtain⟨a,vs,rfl,q,zs⟩:=qx
  cases y with|lst b=>simp only[RepD] at qy;obtain⟨a',vs',e,q',zs'⟩:=qy;cases e;have e2:=zkV S q.sq q'.sq;subst e2;rw[RepDs.inj S c b vs zs zs']|tup b=>simp only[RepD] at qy;obtain⟨a',vs',e,q',zs'⟩:=qy;cases e;exact(zjM S q.sq q').elim|_=>simp[RepD] at qy
theorem RepDs.inj(S:zaV X s H):∀(x y:List D) (v:List V),RepDs X.K A0 H x v->RepDs X.K A0 H y v->x=y
 | [],y,v,qx,qy=>by
  simp only[RepDs] at qx;subst qx
  cases y with|nil=>rfl|cons _ _=>have:=qy.length;simp at this
 | x::xs,y,v,qx,qy=>by
  simp only[RepDs] at qx;obtain⟨w,ws,rfl,q1,q2⟩:=qx
  cases y with|nil=>have:=qy.length;simp at this|cons y ys=>simp only[RepDs] at qy;obtain⟨w',ws',e,q1',q2'⟩:=qy;cases e;rw[RepD.inj S x y w q1 q1',RepDs.inj S xs ys ws q2 q2']
end
end
def zaG(xs ys:List D)(j:Nat):Bool:=match xs[j]?,ys[j]? with|some x,some y=>x.eqb y|_,_=>false
section
variable {X:Cx}{s:Shared}
inductive Vw(X:Cx)(s:Shared)(H:Hp)(A0:Addr->Prop):D->Value->Prop where|non:Vw X s H A0 .non .none|bl (b:Bool):Vw X s H A0 (.bl b) (.bool b)|int (b:Int) (t:Tok):Vw X s H A0 (.int b) (.int b t)|str (b:List Nat) (t:Tok):Vw X s H A0 (.str b) (.str (zaa b) t)|tup (c:List D) (a:Addr) (vs:List V) (its:List Value) (q:SqT X.K H a vs) (zs:RepDs X.K A0 H c vs) (ri:Vals vs its) (p:s.heap.IsTuple a its.toArray):Vw X s H A0 (.tup c) (.ref a)|lst (c:List D) (a:Addr) (vs:List V) (its:List Value) (q:SqL X.K H a vs) (zs:RepDs X.K A0 H c vs) (ri:Vals vs its) (p:s.heap.IsList a its.toArray):Vw X s H A0 (.lst c) (.ref a)
theorem vw(S:zaV X s H)(q:RdD X.K A0 H x v)(r:RelV v u):Vw X s H A0 x u:=by
 cases x with|non=>simp only[RdD,RepD] at q;subst q;cases r;exact .non|bl b=>simp only[RdD,RepD] at q;subst q;cases r;exact .bl b|int b=>simp only[RdD,RepD] at q;subst q;obtain⟨t,rfl⟩:=r;exact .int b t|str b=>simp only[RdD,RepD] at q;subst q;obtain⟨t,rfl⟩:=r;exact .str b t|tup c=>simp only[RdD,RepD] at q;obtain⟨a,vs,rfl,q,zs⟩:=q;cases r;obtain⟨its,ri,p⟩:=S.tup a vs q;exact .tup c a vs its q zs ri p|lst c=>obtain⟨a,vs,rfl,q,zs⟩:=q;cases r;obtain⟨its,ri,p⟩:=S.lst a vs q;exact .lst c a vs its q zs ri p
theorem zeF(zs:RepDs X.K A0 H c vs)(zt:RepDs X.K A0 H b ws)(ri:Vals vs us)(rj:Vals ws ts):((Zk (min us.toArray.size ts.toArray.size)).all (zaG c b)&&us.toArray.size==ts.toArray.size)=D.eqbs c b:=by
 have l1:=zs.length;have l2:=zt.length;have l3:=ri.length;have l4:=rj.length
 by_cases hl:c.length=b.length
 ·have hm:min us.toArray.size ts.toArray.size=c.length:=by simp;omega
  rw[hm,zcr c b hl,zcu c b (λx y=>x.eqb y) hl (zaG c b) (λj x y h1 h2=>by simp[zaG,h1,h2])]
  have:(us.toArray.size==ts.toArray.size)=true:=by simp;omega
  rw[this,Xk]
 ·rw [zcm c b hl]
  have:(us.toArray.size==ts.toArray.size)=false:=by simp;omega
  rw[this,XY]
mutual
theorem zm4(S:zaV X s H):∀(x y:D) (A:Around) (v w:V) (u t:Value),RdD X.K A0 H x v->RdD X.K A0 H y w->RelV v u->RelV w t->A.units+min x.dep y.dep<cLine->Yj A s u t (x.eqb y)
 |.non,y,A,v,w,_,_,qx,qy,ru,rt,hu=>by
  cases vw S qx ru with | non=>
  cases vw S qy rt with|non=>exact .same _|bl b=>exact .none_bool b|int b t=>exact .none_int b t|str b t=>exact .none_str _ t|tup _ _ _ _ _ _ _ p=>exact .none_tuple p (by omega)|lst _ _ _ _ _ _ _ p=>exact .none_list p (by omega)
 |.bl c,y,A,v,w,_,_,qx,qy,ru,rt,hu=>by
  cases vw S qx ru with | bl=>
  cases vw S qy rt with|non=>exact .bool_none c|bl b=>exact .bool_bool c b|int b t=>exact .bool_int c b t|str b t=>exact .bool_str c _ t|tup _ _ _ _ _ _ _ p=>exact .bool_tuple c p (by omega)|lst _ _ _ _ _ _ _ p=>exact .bool_list c p (by omega)
 |.int c,y,A,v,w,_,_,qx,qy,ru,rt,hu=>by
  cases vw S qx ru with | int _ u=>
  cases vw S qy rt with|non=>exact .int_none c u|bl b=>exact .int_bool c u b|int b t=>exact .int_int c u b t|str b t=>exact .int_str c u _ t|tup _ _ _ _ _ _ _ p=>exact .int_tuple c u p (by omega)|lst _ _ _ _ _ _ _ p=>exact .int_list c u p (by omega)
 |.str c,y,A,v,w,_,_,qx,qy,ru,rt,hu=>by
  cases vw S qx ru with | str _ u=>
  cases vw S qy rt with|non=>exact .str_none _ u|bl b=>exact .str_bool _ u b|int b t=>exact .str_int _ u b t|str b t=>have z:=Yj.str_str (A:=A) (s:=s) (zaa c) u (zaa b) t;rw[zfk] at z;exact z|tup _ _ _ _ _ _ _ p=>exact .str_tuple _ u p (by omega)|lst _ _ _ _ _ _ _ p=>exact .str_list _ u p (by omega)
 | .tup c,y,A,v,w,_,_,qx,qy,ru,rt,hu=>by
  have hu0:A.units<cLine:=by omega
  cases vw S qx ru with | tup _ a vs its q zs ri p=>
  cases vw S qy rt with
  |non=>exact .tuple_none p hu0|bl b=>exact .tuple_bool b p hu0|int b t=>exact .tuple_int b t p hu0|str b t=>exact .tuple_str _ t p hu0|lst _ _ _ _ _ _ _ p'=>exact .tuple_list p p' hu0
  | tup b a' vs' its' q' zs' ri' p'=>
   have key:=pairs_D S c b A.in1 vs vs' its its' zs zs' ri ri' (by
    show A.units+1+_<cLine;simp only[D.dep] at hu
    omega)
   by_cases hab:a=a'
   ·subst hab
    have e2:=zkp S q q';subst e2;have e1:=RepDs.inj S c b vs zs zs';subst e1;refine(show D.eqb (.tup c) (.tup c)=true from D.eqb_refl _)▸Yj.same _
   ·refine Yj.of_refs hab ?_
    have:=XN.tuples (e:=zaG c b) p p' hu0 (λj h1 h2=>by
     have:=key j (by simpa using h1) (by simpa using h2)
     simpa using this)
    rw[zeF zs zs' ri ri'] at this;exact this
 | .lst c,y,A,v,w,_,_,qx,qy,ru,rt,hu=>by
  have hu0:A.units<cLine:=by omega
  cases vw S qx ru with | lst _ a vs its q zs ri p=>
  cases vw S qy rt with
  |non=>exact .list_none p hu0|bl b=>exact .list_bool b p hu0|int b t=>exact .list_int b t p hu0|str b t=>exact .list_str _ t p hu0|tup _ _ _ _ _ _ _ p'=>exact .list_tuple p p' hu0
  | lst b a' vs' its' q' zs' ri' p'=>
   have key:=pairs_D S c b A.in1 vs vs' its its' zs zs' ri ri' (by
    show A.units+1+_<cLine;simp only[D.dep] at hu
    omega)
   by_cases hab:a=a'
   ·subst hab
    have e2:=zkV S q q';subst e2;have e1:=RepDs.inj S c b vs zs zs';subst e1;refine(show D.eqb (.lst c) (.lst c)=true from D.eqb_refl _)▸Yj.same _
   ·refine Yj.of_refs hab ?_
    show XN A s _ _ (D.eqbs c b);have l1:=zs.length;have l2:=zs'.length;have l3:=ri.length;have l4:=ri'.length
    by_cases hl:c.length=b.length
    ·have:=XN.lists (e:=zaG c b) p p' (by simp;omega) hu0 (λj h1 h2=>by
      have:=key j (by simpa using h1) (by simpa using h2)
      simpa using this)
     have hm:its.toArray.size=c.length:=by simp;omega
     rw[hm,zcu c b (λx y=>x.eqb y) hl (zaG c b) (λj x y h1 h2=>by simp[zaG,h1,h2]),<-zcr c b hl] at this;exact this
    ·rw [zcm c b hl]
     exact XN.lists_lengths p p' (by simp;omega) hu0
theorem pairs_D(S:zaV X s H):∀(xs ys:List D) (A:Around) (vs ws:List V) (us ts:List Value),RepDs X.K A0 H xs vs->RepDs X.K A0 H ys ws->Vals vs us->Vals ws ts->A.units+min (D.deps xs) (D.deps ys)<cLine →
  ∀(j:Nat) (h1:j<us.length) (h2:j<ts.length),Yj A s us[j] ts[j] (zaG xs ys j)
 | [],ys,A,vs,ws,us,ts,qx,qy,ru,rt,hu,j,h1,h2=>by have l1:=qx.length;have l2:=ru.length;rw[Xc] at l1;omega
 | x :: xs,ys,A,vs,ws,us,ts,qx,qy,ru,rt,hu,j,h1,h2=>by
  rw[RepDs] at qx;obtain⟨v,vs,rfl,qx1,qx2⟩:=qx
  cases ru with
  | cons ru1 ru2=>
   cases ys with
   |nil=>have l1:=qy.length;have l2:=rt.length;rw[Xc] at l1;omega
   | cons y ys=>
    rw[RepDs] at qy;obtain⟨w,ws,rfl,qy1,qy2⟩:=qy
    cases rt with
    | cons rt1 rt2=>
     simp only[D.deps] at hu
     cases j with
     |zero=>simp only[List.getElem_cons_zero,zaG,W4];exact zm4 S x y A v w _ _ (RdD.of qx1) (RdD.of qy1) ru1 rt1 (by omega)
     |succ j=>
      simp only[List.getElem_cons_succ]
      have:=pairs_D S xs ys A vs ws _ _ qx2 qy2 ru2 rt2 (by omega) j (by simpa using h1) (by simpa using h2)
      simpa only[zaG,XX] using this
end
end
end
end IT
namespace PySem
open Sem (wp)
open Builtin AutoSeq1
theorem zhk(l:Addr)(items:Array Value)(n:Nat)(dd:Option Addr)(sl:Array (Option Value))(b:Addr)(items2:Array Value)(n2:Nat)(dd2:Option Addr)(sl2:Array (Option Value))(hc0:items.size+items2.size<=sizeLine):
  Meets (Zh.«list.__add__» ⟨[.ref l,.ref b],[]⟩) (λ_ R s=>s.heap.get? l=some {cls:=.type "list",dict:=dd,data:=.seq items n,slots:=sl}/\s.heap.get? b=some {cls:=.type "list",dict:=dd2,data:=.seq items2 n2,slots:=sl2}/\R (.ok (.ret (Y9 s.heap.objs.size))) {s with heap:=s.heap.push {cls:=Yi "list",data:=Data.seq (items++items2)}}):=
 .of_wp λprog w A R s h=>by obtain⟨hp,g,d,tk,os⟩:=s;obtain⟨hl,hb,h⟩:=h;have f1:=idx_int;have f2:=sub_tuple_tuple;have f3:=sub_list_list;have f4:=sub_tuple_list;have f5:=sub_list_tuple;wp_walk using Yc hl,Yc hb;exact⟨_,rfl,h⟩
theorem zd2(l:Addr)(items:Array Value)(n:Nat)(b:Addr)(items2:Array Value)(n2:Nat)(dd2:Option Addr)(sl2:Array (Option Value))(hc0:¬(!items.isEmpty&&Yw (items.size+items2.size))=true)(hc1:items.size<=sizeLine)(hs2:items.size+items2.size<=sizeLine+1):
  Meets (Zh.«list.extend» ⟨[.ref l,.ref b],[]⟩) (λ_ R s=>s.heap.get? l=some {cls:=.type "list",dict:=none,data:=.seq items n,slots:=#[]}/\s.heap.get? b=some {cls:=.type "list",dict:=dd2,data:=.seq items2 n2,slots:=sl2}/\R (.ok (.ret XD)) {s with heap:=s.heap.update l (X6 λx=>x++items2),toks:=s.toks}):=
 .of_wp λprog w A R s h=>by
  obtain⟨hp,g,d,tk,os⟩:=s;obtain⟨hl,hb,h⟩:=h;have f1:=idx_int;have f2:=sub_tuple_tuple;have f3:=sub_list_list;have f4:=sub_tuple_list;have f5:=sub_list_tuple;
  have hz':(items++items2).size<=sizeLine+1:=by rw[Array.size_append];exact hs2
  wp_walk using(wpAny_updateSeq hl rfl (hz:=hc1) (_hz':=hz')),Yc hl,Yc hb;exact⟨_,rfl,h⟩
end PySem
namespace IT
open PySem PySem.Spec L2
section
variable {X:Cx}
theorem zjR:OpR X (YC .Add) (λx y H Q=>∃l b xs zs,x=.ref l/\y=.ref b/\SqL X.K H l xs/\SqL X.K H b zs/\xs.length+zs.length<=sizeLine/\∀p,H p=none->Q (.ref p) (upd H p (.lst (xs++zs)))):=by
 intro pins s σ H x y v u Q I rx ry h;obtain⟨l,b,xs,zs,rfl,rfl,hH,hB,hz,q⟩:=h;cases rx;cases ry;obtain⟨its,r,⟨o,n,e,hc,hd,hs⟩,_⟩:=I.list hH;obtain⟨its2,r2,⟨o2,n2,e2,hc2,hd2,hs2⟩,_⟩:=I.list hB;have hl:=r.length;have hl2:=r2.length;obtain⟨cls,dd,data,sl⟩:=o;obtain⟨cls2,dd2,data2,sl2⟩:=o2;simp only at hc hd hs hc2 hd2 hs2;subst hc hd hs hc2 hd2 hs2
 refine concat_meets ⟨_,e,rfl⟩ ⟨_,e2,rfl⟩ noFill_list_add seq_list_add F.slot_list_add F.entry_list_add (F.args_list_add_2 _ _) (zhk l its.toArray n none sl b its2.toArray n2 none sl2 (by rw[ZV,ZV];omega)) ⟨e,e2,?_⟩
 have ea:its.toArray++its2.toArray=(its++its2).toArray:=by simp
 rw[ea]
 exact⟨.ref _,_,I.lnew (t':=s.toks) (r.append r2) (by rw[ZZ];omega),rfl,q _ I.fresh⟩
theorem ziJ:MtM X "list.extend" (λx vs H Q=>∃l b xs zs,x=.ref l/\vs=[.ref b]/\H l=some (.lst xs)/\SqL X.K H b zs/\xs.length+zs.length<=sizeLine/\Q .non (upd H l (.lst (xs++zs)))):=by
 intro pins s σ H x vs v us Q I rx rv h;obtain⟨l,b,xs,zs,rfl,rfl,hH,hB,hz,q⟩:=h;cases rx;obtain⟨u,rfl,ru⟩:=rv.one;cases ru;obtain⟨z,its,n,r,hl,e⟩:=I.lstM hH;obtain⟨its2,r2,⟨o2,n2,e2,hc2,hd2,hs2⟩,_⟩:=I.list hB;have hl2:=r2.length;obtain⟨cls2,dd2,data2,sl2⟩:=o2;simp only at hc2 hd2 hs2;subst hc2 hd2 hs2
 have hsz:its.toArray.size+its2.toArray.size<=sizeLine:=by rw[ZV,ZV];omega
 have hlong:¬(!its.toArray.isEmpty&&Yw (its.toArray.size+its2.toArray.size))=true:=by rw[zmM hsz,XY];exact Y8
 refine YR F.slot_list_extend ⟨_,e,rfl⟩ F.entry_list_extend (F.args_list_extend_2 _ _)
  (zd2 l its.toArray n b its2.toArray n2 none sl2 hlong (by rw[ZV];omega) (by omega)) ⟨e,e2,?_⟩
 refine⟨.non,_,I.lset (its':=its++its2) hH e (by simp) (r.append r2) ?_,rfl,q⟩;rw[ZZ];omega
end
end IT
namespace IT
open PySem PySem.Spec L2
open PySem.StrLaws Builtin.Str
theorem zdz(x y:List Nat)(i:Nat):At (zaa x) (zaa y) (zaa x).length i↔(i+y.length<=x.length/\y.isPrefixOf (x.drop i)=true):=by
 unfold At subAt;rw[zag,zag,beq_toList]
 have e:((zaa x).cps.extract i (i+y.length)).toList=(x.drop i).take y.length:=by simp[zaa,List.extract_eq_take_drop]
 rw[e,Zj,List.prefix_iff_eq_take];simp only[zaa,beq_iff_eq];constructor
 ·rintro⟨h1,h2⟩;exact⟨h1,h2.symm⟩
 ·rintro⟨h1,h2⟩;exact⟨h1,h2.symm⟩
theorem zgK{x y:List Nat}{i:Nat}(hy:y≠[])(h:y.isPrefixOf (x.drop i)=true):i+y.length<=x.length:=by have h1:=(Zj.mp h).length_le;have h2:0<y.length:=X2.mpr hy;simp at h1;omega
theorem ze8{y:List Nat}:∀{x:List Nat} {i:Nat},i<=x.length->y.isPrefixOf (x.drop i)=true->(∀k,k<i->¬y.isPrefixOf (x.drop k)=true)->fnd y x=some i
 | [],i,hi,h,hn=>by
  have e:i=0:=by simpa using hi
  subst e;simp only[fnd];rw[if_pos (by simpa using h)]
 |c::r,0,hi,h,hn=>by simp only[fnd];rw[if_pos (by simpa using h)]|c::r,i+1,hi,h,hn=>by simp only[fnd];rw[if_neg (by simpa using hn 0 (by omega)),ze8 (x:=r) (i:=i) (by simpa using hi) (by simpa using h) (λk hk=>by simpa using hn (k+1) (by omega))]
theorem fnd_none{y:List Nat}:∀{x:List Nat},(∀k,k<=x.length->¬y.isPrefixOf (x.drop k)=true)->fnd y x=none| [],hn=>by simp only[fnd];rw[if_neg (by simpa using hn 0 (by simp))]|c::r,hn=>by simp only[fnd];rw[if_neg (by simpa using hn 0 (by simp)),fnd_none (x:=r) (λk hk=>by simpa using hn (k+1) (by simpa using hk))]
theorem zg4{x y:List Nat}(limit:Nat)(hl:1<=limit):(fnd y x=none/\occurrences (zaa x) (zaa y) 0 (zaa x).length limit=[])\/∃i r,fnd y x=some i/\i+y.length<=x.length/\occurrences (zaa x) (zaa y) 0 (zaa x).length limit=i::r:=by
 have fits:∀k,k<=x.length->y.isPrefixOf (x.drop k)=true->k+y.length<=x.length:=λk hk h=>by have h1:=(Zj.mp h).length_le;simp at h1;omega
 rcases occ_head (zaa x) (zaa y) limit hl with⟨e,hn⟩|⟨i,r,e,h,hn⟩
 ·exact .inl ⟨fnd_none λk hk h=>hn k ((zdz x y k).mpr ⟨fits k hk h,h⟩),e⟩
 ·have h':=(zdz x y i).mp h
  refine .inr ⟨i,r,ze8 (by omega) h'.2 (λk hk q=>hn k hk ((zdz x y k).mpr ⟨fits k (by omega) q,q⟩)),h'.1,e⟩
theorem zny(x y:List Nat):(!(occurrences (zaa x) (zaa y) 0 (zaa x).length 1).isEmpty)=(fnd y x).isSome:=by
 rcases zg4 (x:=x) (y:=y) 1 (by omega) with⟨e1,e2⟩|⟨i,r,e1,_,e2⟩
 ·rw[e1,e2];rfl
 ·rw[e1,e2];rfl
theorem zhv(x:List Nat)(i j:Nat):strSub (zaa x) i j=zaa ((x.drop i).take (j-i)):=by
 have:=strSub_toList (zaa x) i j
 have e:strSub (zaa x) i j=zaa (strSub (zaa x) i j).cps.toList:=rfl;rw[e,this];simp[zaa]
theorem zjI{y x:List Nat}(n:Nat)(h:fnd y x=none):splS y n x=[x]:=by
 cases n with|zero=>rfl|succ n=>simp[splS,h]
theorem zgj{x y:List Nat}(hy:y≠[]):∀(cuts:List Nat) (a f n:Nat),a<=x.length->ChainG (zaa x) (zaa y) (zaa x).length a cuts f->(∀k,f<=k->¬At (zaa x) (zaa y) (zaa x).length k)->x.length-a<=n →
  partsFrom (zaa x) (zaa y).length a cuts=(splS y n (x.drop a)).map zaa
 | [],a,f,n,ha,h,hn,hl=>by
  have e:f=a:=h;subst e
  have e2:fnd y (x.drop f)=none:=fnd_none λk hk q=>by rw[Wq] at q;exact hn (f+k) (by omega) ((zdz x y _).mpr ⟨zgK hy q,q⟩)
  rw[zjI n e2];simp only[partsFrom,ZL,Xt,zhv,zag];rw[Y7 (by simp)]
 | c :: r,a,f,n,ha,h,hn,hl=>by
  obtain⟨h1,h2,h3,h4⟩:=h;have h2':=(zdz x y c).mp h2;have hy':0<y.length:=X2.mpr hy
  have e2:fnd y (x.drop a)=some (c-a):=by
   refine ze8 (by simp;omega) ?_ λk hk q=>?_
   ·rw[Wq,show a+(c-a)=c by omega];exact h2'.2
   ·rw [Wq] at q
    exact h3 (a+k) (by omega) (by omega) ((zdz x y _).mpr ⟨zgK hy q,q⟩)
  rw[zag y] at h4
  cases n with|zero=>omega|succ n=>simp only[splS,e2,partsFrom,ZL,Wq,zhv];rw[zag y,show a+(c-a+y.length)=c+y.length by omega];rw[<-zgj hy r (c+y.length) f n h2'.1 h4 hn (by omega),zag y]
theorem znK{x y:List Nat}(h:∀c∈y,c∈x):YE (zaa y)<=YE (zaa x):=by
 have mono:∀n,(zaa x).cps.all (·<n)=true->(zaa y).cps.all (·<n)=true:=by intro n hx;simp[zaa] at hx⊢;intro c hc;exact hx c (h c hc)
 unfold YE
 by_cases h1:(zaa x).cps.all (·<256)=true
 ·rw[if_pos h1,if_pos (mono _ h1)];omega
 ·rw [if_neg h1]
  by_cases h2:(zaa x).cps.all (·<65536)=true
  ·rw[if_pos h2,if_pos (mono _ h2)];split<;>omega
  ·rw [if_neg h2];split
   ·omega
   ·split<;>omega
theorem zrM{x y:List Nat}(hy:y≠[])(h:(decide ((zaa x).length<(zaa y).length)||decide (YE (zaa x)<YE (zaa y)))=true):fnd y x=none:=by refine fnd_none λk hk q=>?_;have h1:=zgK hy q;have hp:=Zj.mp q;have h2:=znK (x:=x) (y:=y) λc hc=>Xy (hp.subset hc);simp[zag] at h;omega
theorem ssi(lo hi:Option Int)(n:Nat):strSliceIndices lo hi 1 n=(Zk (HT.sIx n n hi-HT.sIx n 0 lo)).map λk=>HT.sIx n 0 lo+k:=by
 have clip:∀v:Int,(max 0 (min (if v<0 then v+(n:Int) else v) (n:Int)))=(((if v<0 then(v+(n:Int)).toNat else min v.toNat n):Nat):Int):=by
  intro v
  by_cases hv:v<0
  ·simp only[if_pos hv];omega
  ·simp only[if_neg hv];omega
 have rng:∀i j:Nat,sliceRange (i:Int) (j:Int) 1=(Zk (j-i)).map λk=>i+k:=by
  intro i j;unfold sliceRange
  have h1:(1:Int)>0:=by omega
  simp only[h1,if_true,Int.ediv_one]
  have e:(if(i:Int)<(j:Int) then(j:Int)-i+1-1 else 0).toNat=j-i:=by split<;>omega
  rw[e];refine Wz λk _=>?_;omega
 unfold strSliceIndices
 have h1:(1:Int)>0:=by omega
 simp only[h1,if_true]
 cases lo with
 |none=>
  cases hi with|none=>exact rng 0 n|some u=>simp only[clip];exact rng 0 _
 |some l=>
  cases hi with|none=>simp only[clip];exact rng _ n|some u=>simp only[clip];exact rng _ _
theorem pick_run(x:List Nat)(i:Nat):∀k,i+k<=x.length->(((Zk k).map λm=>i+m).filterMap λj=>x[j]?)=(x.drop i).take k
 |0,_=>by simp
 |k+1,h=>by
  rw[List.range_succ,Zp,List.filterMap_append,pick_run x i k (by omega),List.take_succ]
  congr 1
  have hx:i+k<x.length:=by omega
  simp[Z2 hx]
theorem zkd(x:List Nat)(lo hi:Option Int):Txt.slice (zaa x) lo hi=zaa (cut x lo hi):=by
 have eI:∀n d o,sIx n d o=HT.sIx n d o:=λn d o=>by cases o<;>rfl
 unfold Txt.slice cut;rw[zag,ssi,eI,eI];have h1:=HT.sIx_le x.length x.length (ZX _) hi;have h2:=HT.sIx_le x.length 0 (XE _) lo;generalize HT.sIx x.length x.length hi=j at *;generalize HT.sIx x.length 0 lo=i at *
 have e:((List.map (λk=>i+k) (Zk (j-i))).filterMap λk=>(zaa x).cps[k]?)=(x.drop i).take (j-i):=by
  have:=pick_run x i (j-i)
  by_cases hij:i<=j
  ·simpa[zaa] using this (by omega)
  ·have z:j-i=0:=by omega
   rw[z];simp
 split
 ·rename_i hc
  have hl:j-i=x.length:=by simpa using hc
  rw[hl]
  by_cases hn:x.length=0
  ·have:x=[]:=XW.mp hn
   subst this;simp
  ·have:i=0:=by omega
   subst this;simp
 ·rw[e];rfl
section
variable {A0:Addr->Prop}{H:Hp}{X:Cx}{s:Shared}
theorem zrx(S:zaV X s H)(x y:D)(A:Around)(v w:V)(u t:Value)(qx:RdD X.K A0 H x v)(qy:RdD X.K A0 H y w)(ru:RelV v u)(rt:RelV w t)(hu:A.units+min x.dep y.dep<cLine):XN A s u t (x.eqb y):=by
 have hu0:A.units<cLine:=by omega
 cases vw S qx ru with
 |non=>
  cases vw S qy rt with|non=>exact .none_none|bl b=>exact .none_bool b|int b t=>exact .none_int b t|str b t=>exact .none_str _ t|tup _ _ _ _ _ _ _ p=>exact .none_tuple p hu0|lst _ _ _ _ _ _ _ p=>exact .none_list p hu0
 |bl c=>
  cases vw S qy rt with|non=>exact .bool_none c|bl b=>exact .bool_bool c b|int b t=>exact .bool_int c b t|str b t=>exact .bool_str c _ t|tup _ _ _ _ _ _ _ p=>exact .bool_tuple c p hu0|lst _ _ _ _ _ _ _ p=>exact .bool_list c p hu0
 |int c u=>
  cases vw S qy rt with|non=>exact .int_none c u|bl b=>exact .int_bool c u b|int b t=>exact .int_int c u b t|str b t=>exact .int_str c u _ t|tup _ _ _ _ _ _ _ p=>exact .int_tuple c u p hu0|lst _ _ _ _ _ _ _ p=>exact .int_list c u p hu0
 |str c u=>
  cases vw S qy rt with|non=>exact .str_none _ u|bl b=>exact .str_bool _ u b|int b t=>exact .str_int _ u b t|str b t=>have z:=XN.str_str (A:=A) (s:=s) (zaa c) u (zaa b) t;rw[zfk] at z;exact z|tup _ _ _ _ _ _ _ p=>exact .str_tuple _ u p hu0|lst _ _ _ _ _ _ _ p=>exact .str_list _ u p hu0
 | tup c a vs its q zs ri p=>
  cases vw S qy rt with
  |non=>exact .tuple_none p hu0|bl b=>exact .tuple_bool b p hu0|int b t=>exact .tuple_int b t p hu0|str b t=>exact .tuple_str _ t p hu0|lst _ _ _ _ _ _ _ p'=>exact .tuple_list p p' hu0
  |tup b a' vs' its' q' zs' ri' p'=>
   have key:=pairs_D S c b A.in1 vs vs' its its' zs zs' ri ri' (by show A.units+1+_<cLine;simp only[D.dep] at hu;omega)
   have:=XN.tuples (e:=zaG c b) p p' hu0 (λj h1 h2=>by have:=key j (by simpa using h1) (by simpa using h2);simpa using this)
   rw[zeF zs zs' ri ri'] at this;exact this
 | lst c a vs its q zs ri p=>
  cases vw S qy rt with
  |non=>exact .list_none p hu0|bl b=>exact .list_bool b p hu0|int b t=>exact .list_int b t p hu0|str b t=>exact .list_str _ t p hu0|tup _ _ _ _ _ _ _ p'=>exact .list_tuple p p' hu0
  | lst b a' vs' its' q' zs' ri' p'=>
   have key:=pairs_D S c b A.in1 vs vs' its its' zs zs' ri ri' (by show A.units+1+_<cLine;simp only[D.dep] at hu;omega)
   have l1:=zs.length;have l2:=zs'.length;have l3:=ri.length;have l4:=ri'.length
   show XN A s _ _ (D.eqbs c b)
   by_cases hl:c.length=b.length
   ·have:=XN.lists (e:=zaG c b) p p' (by simp;omega) hu0 (λj h1 h2=>by have:=key j (by simpa using h1) (by simpa using h2);simpa using this)
    have hm:its.toArray.size=c.length:=by simp;omega
    rw[hm,zcu c b (λx y=>x.eqb y) hl (zaG c b) (λj x y h1 h2=>by simp[zaG,h1,h2]),<-zcr c b hl] at this;exact this
   ·rw [zcm c b hl]
    exact XN.lists_lengths p p' (by simp;omega) hu0
theorem zlH(S:zaV X s H)(x y:D)(A:Around)(v w:V)(u t:Value)(qx:RdD X.K A0 H x v)(qy:RdD X.K A0 H y w)(ru:RelV v u)(rt:RelV w t)(hu:A.units+min x.dep y.dep<cLine):WY A s u t (!x.eqb y):=by
 have hu0:A.units<cLine:=by omega
 cases vw S qx ru with
 |non=>
  cases vw S qy rt with|non=>exact .none_none|bl b=>exact .none_bool b|int b t=>exact .none_int b t|str b t=>exact .none_str _ t|tup _ _ _ _ _ _ _ p=>exact .none_tuple p hu0|lst _ _ _ _ _ _ _ p=>exact .none_list p hu0
 |bl c=>
  cases vw S qy rt with|non=>exact .bool_none c|bl b=>exact .bool_bool c b|int b t=>exact .bool_int c b t|str b t=>exact .bool_str c _ t|tup _ _ _ _ _ _ _ p=>exact .bool_tuple c p hu0|lst _ _ _ _ _ _ _ p=>exact .bool_list c p hu0
 |int c u=>
  cases vw S qy rt with|non=>exact .int_none c u|bl b=>exact .int_bool c u b|int b t=>exact .int_int c u b t|str b t=>exact .int_str c u _ t|tup _ _ _ _ _ _ _ p=>exact .int_tuple c u p hu0|lst _ _ _ _ _ _ _ p=>exact .int_list c u p hu0
 |str c u=>
  cases vw S qy rt with|non=>exact .str_none _ u|bl b=>exact .str_bool _ u b|int b t=>exact .str_int _ u b t|str b t=>have z:=WY.str_str (A:=A) (s:=s) (zaa c) u (zaa b) t;rw[zfk] at z;exact z|tup _ _ _ _ _ _ _ p=>exact .str_tuple _ u p hu0|lst _ _ _ _ _ _ _ p=>exact .str_list _ u p hu0
 | tup c a vs its q zs ri p=>
  cases vw S qy rt with
  |non=>exact .tuple_none p hu0|bl b=>exact .tuple_bool b p hu0|int b t=>exact .tuple_int b t p hu0|str b t=>exact .tuple_str _ t p hu0|lst _ _ _ _ _ _ _ p'=>exact .tuple_list p p' hu0
  |tup b a' vs' its' q' zs' ri' p'=>
   have key:=pairs_D S c b A.in1 vs vs' its its' zs zs' ri ri' (by show A.units+1+_<cLine;simp only[D.dep] at hu;omega)
   have:=WY.tuples (e:=zaG c b) p p' hu0 (λj h1 h2=>by have:=key j (by simpa using h1) (by simpa using h2);simpa using this)
   rw[zeF zs zs' ri ri'] at this;exact this
 | lst c a vs its q zs ri p=>
  cases vw S qy rt with
  |non=>exact .list_none p hu0|bl b=>exact .list_bool b p hu0|int b t=>exact .list_int b t p hu0|str b t=>exact .list_str _ t p hu0|tup _ _ _ _ _ _ _ p'=>exact .list_tuple p p' hu0
  | lst b a' vs' its' q' zs' ri' p'=>
   have key:=pairs_D S c b A.in1 vs vs' its its' zs zs' ri ri' (by show A.units+1+_<cLine;simp only[D.dep] at hu;omega)
   have l1:=zs.length;have l2:=zs'.length;have l3:=ri.length;have l4:=ri'.length
   show WY A s _ _ (!D.eqbs c b)
   by_cases hl:c.length=b.length
   ·have:=WY.lists (e:=zaG c b) p p' (by simp;omega) hu0 (λj h1 h2=>by have:=key j (by simpa using h1) (by simpa using h2);simpa using this)
    have hm:its.toArray.size=c.length:=by simp;omega
    rw[hm,zcu c b (λx y=>x.eqb y) hl (zaG c b) (λj x y h1 h2=>by simp[zaG,h1,h2]),<-zcr c b hl] at this;exact this
   ·rw [zcm c b hl]
    exact WY.lists_lengths p p' (by simp;omega) hu0
end
section
variable {X:Cx}
theorem zmL:OpR X (YC .Add) (λx y H Q=>∃a b ys,x=.ref a/\y=.ref b/\SqT X.K H a []/\SqT X.K H b ys/\Q (.ref b) H):=by
 intro pins s σ H x y v u Q I rx ry h;obtain⟨a,b,ys,rfl,rfl,ha,hb,q⟩:=h
 cases rx;cases ry
 obtain⟨its,r1,p1,_⟩:=I.tuple ha;obtain⟨its2,r2,p2,_⟩:=I.tuple hb;have hi:its=[]:=r1.nil_iff.mpr rfl;subst hi;obtain⟨⟨cls,dd,data,sl⟩,ho,hc,n,hd⟩:=id p1;obtain⟨⟨cls2,dd2,data2,sl2⟩,ho2,hc2,n2,hd2⟩:=id p2;simp only at hc hd hc2 hd2;subst hc hd hc2 hd2;refine PySem.concat_meets ⟨_,ho,rfl⟩ ⟨_,ho2,rfl⟩ PySem.noFill_tuple_add PySem.seq_tuple_add WZ W6 (Xm _ _) (PyProof.Rows.tuple_addW0 a b _ its2.toArray n n2 dd dd2 sl sl2 ?_) ⟨ho,ho2,?_⟩
 ·rfl
 ·exact⟨.ref b,H,I,rfl,q⟩
theorem zoE:OpD X (YC .Add) (bop .add):=by
 intro pins s σ H v u v' u' Q I rv ru q;obtain⟨μ,h,a,b,z,R0,qa,qb,e,k⟩:=q
 cases a with
 | int i=>
  cases b with|int j=>simp only[RdD,RepD] at qa qb;replace e:=ZR e;subst e;exact zrD pins s σ H v u v' u' Q I rv ru ⟨i,j,qa,qb,k μ H _ Stp.refl R0 (by simp only[RepD])⟩|_=>exact zad e
 | str x=>
  cases b with
  | str y=>
   simp only[RdD,RepD] at qa qb;change (if _=true then _ else _)=some _ at e
   split at e
   ·rename_i hf
    cases e
    exact zix pins s σ H v u v' u' Q I rv ru ⟨zaa x,zaa y,qa,qb,by rw[zag,zag];exact of_decide_eq_true hf,by rw[zk2];exact k μ H _ Stp.refl R0 (by simp only[RepD])⟩
   ·cases e
  |_=>exact zad e
 | tup xs=>
  cases b with
  | tup ys=>
   simp only[RdD,RepD] at qa qb;obtain⟨p,vs,rfl,q1,z1⟩:=qa;obtain⟨p',vs',rfl,q2,z2⟩:=qb;change (if _=true then _ else _)=some _ at e
   split at e
   ·rename_i hf
    cases e;have l1:=z1.length;have l2:=z2.length;have hlen:xs.length+ys.length<=sizeLine:=of_decide_eq_true hf
    by_cases hv:vs=[]
    ·subst hv
     have hx:xs=[]:=by cases xs with | nil=>rfl | cons _ _=>simp at l1
     subst hx
     exact zmL pins s σ H _ _ v' u' Q I rv ru ⟨p,p',vs',rfl,rfl,q1,q2,k μ H _ Stp.refl R0 (by simp only[RepD];exact⟨p',vs',rfl,q2,z2⟩)⟩
    refine zn9 pins s σ H _ _ v' u' Q I rv ru ⟨p,p',vs,vs',rfl,rfl,q1,q2,hv,by omega,λhn=>?_,λ_ r hr=>?_⟩
    ·subst hn
     cases ys with
     |nil=>
      rw[Zg] at k
      exact k μ H _ Stp.refl R0 (by simp only[RepD];exact⟨p,vs,rfl,q1,z1⟩)
     |cons _ _=>simp at l2
    ·have s2:Stp μ h H μ h (upd H r (.tup (vs++vs'))):=Stp.fresh hr
     refine k μ _ (.ref r) s2 (R0.fresh hr) ?_;simp only[RepD];exact⟨r,vs++vs',rfl,SqT.of zai,RepDs.stp s2 R0 (z1.app z2)⟩
   ·cases e
  |_=>exact zad e
 | lst xs=>
  cases b with
  | lst ys=>
   obtain⟨p,vs,rfl,q1,z1⟩:=qa;obtain⟨p',vs',rfl,q2,z2⟩:=qb;change (if _=true then _ else _)=some _ at e
   split at e
   ·rename_i hf
    cases e;have l1:=z1.length;have l2:=z2.length;have hlen:xs.length+ys.length<=sizeLine:=of_decide_eq_true hf;refine zjR pins s σ H _ _ v' u' Q I rv ru ⟨p,p',vs,vs',rfl,rfl,q1,q2,by omega,λr hr=>?_⟩;have s2:Stp μ h H μ h (upd H r (.lst (vs++vs'))):=Stp.fresh hr;refine k μ _ (.ref r) s2 (R0.fresh hr) ?_;simp only[RepD];refine⟨r,vs++vs',rfl,.inl ⟨λl=>?_,.inl zai⟩,RepDs.stp s2 R0 (z1.app z2)⟩;obtain⟨ws,w,_⟩:=R0.liveAt l
    rw[hr] at w;cases w
   ·cases e
  |_=>exact zad e
 |_=>cases b<;>exact zad e
theorem zpE:OpD X (YC .Sub) (bop .sub):=by
 intro pins s σ H v u v' u' Q I rv ru q;obtain⟨μ,h,a,b,z,R0,qa,qb,e,k⟩:=q
 cases a with
 | int i=>
  cases b with|int j=>simp only[RdD,RepD] at qa qb;replace e:=ZR e;subst e;exact zrv pins s σ H v u v' u' Q I rv ru ⟨i,j,qa,qb,k μ H _ Stp.refl R0 (by simp only[RepD])⟩|_=>exact zad e
 |_=>cases b<;>exact zad e
theorem zlz:OpD X (YC .FloorDiv) (bop .fdiv):=by
 intro pins s σ H v u v' u' Q I rv ru q;obtain⟨μ,h,a,b,z,R0,qa,qb,e,k⟩:=q
 cases a with
 | int i=>
  cases b with
  | int j=>
   simp only[RdD,RepD] at qa qb;change (if _=true then _ else _)=some _ at e
   split at e
   ·rename_i hf
    rw[Z9] at hf;cases e;have h0:(0:Int)<j:=of_decide_eq_true hf.1;have h1:j<1000000000000000000000000000000000000000000000000000000000000:=of_decide_eq_true hf.2;subst qa qb;obtain⟨t1,rfl⟩:=rv;obtain⟨t2,rfl⟩:=ru;refine PyProof.Rows.floordiv_int (by omega) ?_ (.inl (PyProof.noPylong_of_log2 ?_))
    ·have ef:i.fdiv j=i / j:=Int.fdiv_eq_ediv_of_nonneg i (by omega)
     rw[ef];exact⟨.int (i / j),H,I.tok _,⟨_,rfl⟩,k μ H _ Stp.refl R0 (by simp only[RepD])⟩
    ·have hj:j.natAbs<2^200:=by
      omega
     have hj0:j.natAbs≠0:=by omega
     have:=(Nat.log2_lt hj0).mpr hj
     omega
   ·cases e
  |_=>exact zad e
 |_=>cases b<;>exact zad e
theorem zoR:OpD X (YC .Mod) (bop .mod):=by
 intro pins s σ H v u v' u' Q I rv ru q;obtain⟨μ,h,a,b,z,R0,qa,qb,e,k⟩:=q
 cases a with
 | int i=>
  cases b with
  | int j=>
   simp only[RdD,RepD] at qa qb;change (if _=true then _ else _)=some _ at e
   split at e
   ·rename_i hf
    cases e;exact zqC pins s σ H v u v' u' Q I rv ru ⟨i,j,qa,qb,of_decide_eq_true hf,k μ H _ Stp.refl R0 (by simp only[RepD])⟩
   ·cases e
  |_=>exact zad e
 |_=>cases b<;>exact zad e
theorem zqA(hu:X.A.units+64<cLine):OpD X (Zf .Eq) (cop .eq):=by
 intro pins s σ H v u v' u' Q I rv ru q;obtain⟨μ,h,a,b,z,R0,qa,qb,e,k⟩:=q
 (delta cop at e;(try dsimp only at e))
 split at e
 ·rename_i hf
  cases e;have hd:min a.dep b.dep<=60:=of_decide_eq_true hf;exact zrx (zaN I) a b X.A v u v' u' qa qb rv ru (by omega) X.prog X.w X.xe _ ⟨.bl _,H,I,rfl,k μ H _ Stp.refl R0 (by simp only[RepD])⟩
 ·cases e
theorem zqO(hu:X.A.units+64<cLine):OpD X (Zf .NotEq) (cop .ne):=by
 intro pins s σ H v u v' u' Q I rv ru q;obtain⟨μ,h,a,b,z,R0,qa,qb,e,k⟩:=q
 (delta cop at e;(try dsimp only at e))
 split at e
 ·rename_i hf
  cases e;have hd:min a.dep b.dep<=60:=of_decide_eq_true hf;exact zlH (zaN I) a b X.A v u v' u' qa qb rv ru (by omega) X.prog X.w X.xe _ ⟨.bl _,H,I,rfl,k μ H _ Stp.refl R0 (by simp only[RepD])⟩
 ·cases e
theorem zqF:OpD X (Zf .Lt) (cop .lt):=by
 intro pins s σ H v u v' u' Q I rv ru q;obtain⟨μ,h,a,b,z,R0,qa,qb,e,k⟩:=q
 cases a with
 | int i=>
  cases b with|int j=>simp only[RdD,RepD] at qa qb;replace e:=ZR e;subst e;exact zsl pins s σ H v u v' u' Q I rv ru ⟨i,j,qa,qb,k μ H _ Stp.refl R0 (by simp only[RepD])⟩|_=>exact zad e
 |_=>cases b<;>exact zad e
theorem zrt:OpD X (Zf .LtE) (cop .le):=by
 intro pins s σ H v u v' u' Q I rv ru q;obtain⟨μ,h,a,b,z,R0,qa,qb,e,k⟩:=q
 cases a with
 | int i=>
  cases b with|int j=>simp only[RdD,RepD] at qa qb;replace e:=ZR e;subst e;exact zsJ pins s σ H v u v' u' Q I rv ru ⟨i,j,qa,qb,k μ H _ Stp.refl R0 (by simp only[RepD])⟩|_=>exact zad e
 |_=>cases b<;>exact zad e
theorem zqD:OpD X (Zf .Gt) (cop .gt):=by
 intro pins s σ H v u v' u' Q I rv ru q;obtain⟨μ,h,a,b,z,R0,qa,qb,e,k⟩:=q
 cases a with
 | int i=>
  cases b with|int j=>simp only[RdD,RepD] at qa qb;replace e:=ZR e;subst e;exact zrW pins s σ H v u v' u' Q I rv ru ⟨i,j,qa,qb,k μ H _ Stp.refl R0 (by simp only[RepD])⟩|_=>exact zad e
 |_=>cases b<;>exact zad e
theorem zq5:OpD X (Zf .GtE) (cop .ge):=by
 intro pins s σ H v u v' u' Q I rv ru q;obtain⟨μ,h,a,b,z,R0,qa,qb,e,k⟩:=q
 cases a with
 | int i=>
  cases b with|int j=>simp only[RdD,RepD] at qa qb;replace e:=ZR e;subst e;exact zsq pins s σ H v u v' u' Q I rv ru ⟨i,j,qa,qb,k μ H _ Stp.refl R0 (by simp only[RepD])⟩|_=>exact zad e
 |_=>cases b<;>exact zad e
theorem zmY(hu:X.A.units+64<cLine)(I:Inv X pins σ H s)(qa:RdD X.K (Live μ h) H a v)(rv:RelV v v')(hd:a.dep<=60)
  {xs:List D} {ws:List V} {its:List Value} (q:RepDs X.K (Live μ h) H xs ws) (r:Vals ws its):
  ∃f:Value->Bool,(∀y,y∈its.toArray->Yj X.A.in1 s y v' (f y))/\∀(j:Nat) (x:D) (y:Value),xs[j]?=some x->its[j]?=some y->f y=x.eqb a:=by
 have S:=zaN I
 classical
 have base:∀(y:Value) (x:D) (w:V),RepD X.K (Live μ h) H x w->RelV w y->Yj X.A.in1 s y v' (x.eqb a):=λy x w qx rx=>zm4 S x a X.A.in1 w v y v' (RdD.of qx) qa rx rv (by show X.A.units+1+_<cLine;omega)
 have at':∀(j:Nat) (y:Value),its[j]?=some y->∃x w,xs[j]?=some x/\RepD X.K (Live μ h) H x w/\RelV w y:=by
  intro j y hy;have hj:j<its.length:=(Z3.mp hy).1
  have hj2:j<ws.length:=by rw[r.length];exact hj
  obtain⟨x,hx,qx⟩:=q.get' (Z2 hj2);obtain⟨u,hu',ru⟩:=r.get (Z2 hj2);rw[hy] at hu';cases hu';exact⟨x,_,hx,qx,ru⟩
 refine⟨λy=>decide (∃(x:D) (w:V),RepD X.K (Live μ h) H x w/\RelV w y/\x.eqb a=true),λy hy=>?_,λj x y hx hy=>?_⟩
 ·obtain ⟨j,hj⟩:=List.getElem?_of_mem (show y∈its by simpa using hy)
  obtain⟨x,w,hx,qx,rx⟩:=at' j y hj;dsimp only
  by_cases hx':∃(x:D) (w:V),RepD X.K (Live μ h) H x w/\RelV w y/\x.eqb a=true
  ·rw [decide_eq_true hx']
   obtain⟨x',w',q',r',e'⟩:=hx';rw[<-e'];exact base y x' w' q' r'
  ·rw [decide_eq_false hx']
   cases ex:x.eqb a with|true=>exact absurd ⟨x,_,qx,rx,ex⟩ hx'|false=>rw[<-ex];exact base y x _ qx rx
 ·obtain ⟨x1,w,hx1,qx,rx⟩:=at' j y hy
  rw[hx] at hx1;cases hx1;dsimp only
  cases ex:x.eqb a with
  |true=>exact decide_eq_true ⟨x,w,qx,rx,ex⟩
  |false=>refine decide_eq_false λq_=>?_;obtain⟨x',w',q',r',e'⟩:=q_;have ew:=RelV.inj rx r';rw[RepD.inj S x x' w' (ew▸qx) q'] at ex;rw[ex] at e';cases e'
theorem zeV(hu:X.A.units+64<cLine)(I:Inv X pins σ H s)(qa:RdD X.K (Live μ h) H a v)(rv:RelV v v')(hd:a.dep<=60)
  {xs:List D} {ws:List V} {its:List Value} (q:RepDs X.K (Live μ h) H xs ws) (r:Vals ws its):
  ∃f:Value->Bool,(∀y,y∈its.toArray->Yj X.A.in1 s y v' (f y))/\its.toArray.any f=xs.any λy=>y.eqb a:=by
 obtain⟨f,f1,f2⟩:=zmY hu I qa rv hd q r;refine⟨f,f1,?_⟩;have l1:=q.length;have l2:=r.length
 have e:its.map f=xs.map λy=>y.eqb a:=List.ext_getElem? λj=>by
  rw[Zs,Zs]
  by_cases c:j<xs.length
  ·have c2:j<its.length:=by omega
   rw[Z2 c,Z2 c2];exact congrArg some (f2 j _ _ (Z2 c) (Z2 c2))
  ·rw[YQ (by omega),YQ (by omega)];rfl
 have:=congrArg (List.any · id) e
 simpa[VQ] using this
theorem zlQ(hu:X.A.units+64<cLine):OpD X (Zf .In) (cop .isin):=by
 intro pins s σ H v u v' u' Q I rv ru q;obtain⟨μ,h,a,b,z,R0,qa,qb,e,k⟩:=q;have S:=zaN I
 (delta cop at e;(try dsimp only at e))
 cases b with
 | tup ys=>
  simp only[items] at e
  split at e
  ·rename_i hf
   cases e;simp only[RdD,RepD] at qb;obtain⟨p,vs,rfl,q1,z1⟩:=qb;cases ru;obtain⟨its,r1,p1⟩:=S.tup p vs q1;obtain⟨f,hf1,hf2⟩:=zeV hu I qa rv (of_decide_eq_true hf) z1 r1
   exact SeqAt.in_tupleAt f p1 hf1 ⟨.bl _,H,I,rfl,by rw[hf2];exact k μ H _ Stp.refl R0 (by simp only[RepD])⟩
  ·cases e
 | lst ys=>
  simp only[items] at e
  split at e
  ·rename_i hf
   cases e;obtain⟨p,vs,rfl,q1,z1⟩:=qb;cases ru;obtain⟨its,r1,p1⟩:=S.lst p vs q1;obtain⟨f,hf1,hf2⟩:=zeV hu I qa rv (of_decide_eq_true hf) z1 r1
   exact SeqAt.in_listAt f p1 hf1 ⟨.bl _,H,I,rfl,by rw[hf2];exact k μ H _ Stp.refl R0 (by simp only[RepD])⟩
  ·cases e
 | str x=>
  simp only[items] at e
  cases a with|str y=>cases e;simp only[RdD,RepD] at qa qb;subst qa qb;refine zkQ pins s σ H _ _ v' u' Q I rv ru ⟨zaa y,zaa x,rfl,rfl,?_⟩;rw[zny];exact k μ H _ Stp.refl R0 (by simp only[RepD])|_=>cases e
 |_=>simp[items] at e
theorem zkw(hu:X.A.units+64<cLine):OpD X (Zf .NotIn) (cop .notin):=by
 intro pins s σ H v u v' u' Q I rv ru q;obtain⟨μ,h,a,b,z,R0,qa,qb,e,k⟩:=q;have S:=zaN I
 (delta cop at e;(try dsimp only at e))
 cases b with
 | tup ys=>
  simp only[items] at e
  split at e
  ·rename_i hf
   cases e;simp only[RdD,RepD] at qb;obtain⟨p,vs,rfl,q1,z1⟩:=qb;cases ru;obtain⟨its,r1,p1⟩:=S.tup p vs q1;obtain⟨f,hf1,hf2⟩:=zeV hu I qa rv (of_decide_eq_true hf) z1 r1
   exact SeqAt.notIn_tupleAt f p1 hf1 ⟨.bl _,H,I,rfl,by rw[hf2];exact k μ H _ Stp.refl R0 (by simp only[RepD])⟩
  ·cases e
 | lst ys=>
  simp only[items] at e
  split at e
  ·rename_i hf
   cases e;obtain⟨p,vs,rfl,q1,z1⟩:=qb;cases ru;obtain⟨its,r1,p1⟩:=S.lst p vs q1;obtain⟨f,hf1,hf2⟩:=zeV hu I qa rv (of_decide_eq_true hf) z1 r1
   exact SeqAt.notIn_listAt f p1 hf1 ⟨.bl _,H,I,rfl,by rw[hf2];exact k μ H _ Stp.refl R0 (by simp only[RepD])⟩
  ·cases e
 | str x=>
  simp only[items] at e
  cases a with|str y=>cases e;simp only[RdD,RepD] at qa qb;subst qa qb;refine zfz pins s σ H _ _ v' u' Q I rv ru ⟨zaa y,zaa x,rfl,rfl,?_⟩;rw[zny];exact k μ H _ Stp.refl R0 (by simp only[RepD])|_=>cases e
 |_=>simp[items] at e
end
end IT
namespace PySem
open Sem (wp)
open Builtin
theorem zbY:fillsNumberSlot (.type "tuple") "mul"=pure false:=fillsNumberSlot_seq (id:="tuple.__mul__") (r:=some (.builtin "tuple.__rmul__")) Xs.lookup (by decide +kernel) F.slot_tuple_rmul.lookup (by decide +kernel)
theorem zdn:seqRepeat? (.type "tuple")=pure (some (.builtin "tuple.__mul__")):=by unfold seqRepeat?;rw[seqSlot_of (T:="tuple") (name:="__mul__") (id:="tuple.__mul__") Xs.lookup (by decide +kernel),seqSlot_of (T:="tuple") (name:="__rmul__") (id:="tuple.__rmul__") F.slot_tuple_rmul.lookup (by decide +kernel)];rfl
theorem ze6(a:Int)(t:Tok)(l:Addr)(items:Array Value)(n:Nat)(dd:Option Addr)(sl:Array (Option Value)):
  Meets (Zh.«int.__rmul__» ⟨[.int a t,.ref l],[]⟩) (λ_ R s=>s.heap.get? l=some {cls:=.type "tuple",dict:=dd,data:=.seq items n,slots:=sl}/\R (.ok (.ret Value.notImplemented)) s):=
 .of_wp λprog w A R s h=>by obtain⟨hp,g,d,tk,os⟩:=s;obtain⟨hl,h⟩:=h;wp_walk;exact⟨_,rfl,h⟩
theorem ze5(t:Tok)(l:Addr)(items:Array Value)(n:Nat)(dd:Option Addr)(sl:Array (Option Value)):
  Meets (Zh.«tuple.__mul__» ⟨[.ref l,.int 1 t],[]⟩) (λ_ R s=>s.heap.get? l=some {cls:=.type "tuple",dict:=dd,data:=.seq items n,slots:=sl}/\R (.ok (.ret (.ref l))) s):=
 .of_wp λprog w A R s h=>by obtain⟨hp,g,d,tk,os⟩:=s;obtain⟨hl,h⟩:=h;wp_walk;exact⟨_,rfl,h⟩
theorem zeX(t:Tok)(l:Addr)(items:Array Value)(n:Nat)(dd:Option Addr)(sl:Array (Option Value))(hc:items.isEmpty=false):
  Meets (Zh.«tuple.__mul__» ⟨[.ref l,.int 0 t],[]⟩) (λ_ R s=>s.heap.get? l=some {cls:=.type "tuple",dict:=dd,data:=.seq items n,slots:=sl}/\R (.ok (.ret (.ref s.heap.objs.size))) {s with heap:=s.heap.push {cls:=.type "tuple",data:=.seq #[]}}):=
 .of_wp λprog w A R s h=>by obtain⟨hp,g,d,tk,os⟩:=s;obtain⟨hl,h⟩:=h;wp_walk;exact⟨_,rfl,h⟩
theorem zbj(items:Array Value):∀(m:Nat) (acc:Array Value),((Z0 m items).foldl (·++·) acc).toList=acc.toList++(Z0 m items.toList).flatten|0,acc=>by simp|m+1,acc=>by rw[Zb,Yb,zbj items m,Zb,Y3,Array.toList_append,Zn]
theorem zhu(items:Array Value)(m:Nat):((Z0 m items).foldl (·++·) #[]).size=items.size*m:=by
 rw[<-X5,zbj]
 induction m with|zero=>simp|succ m ih=>rw[Zb,Y3,<-Zn];simp only[ZZ,List.nil_append] at ih⊢;rw[X5,Nat.mul_succ];omega
theorem zeG(k:Int)(t:Tok)(l:Addr)(items:Array Value)(n:Nat)(dd:Option Addr)(sl:Array (Option Value))(hc:items.isEmpty=false)(h1:1<k)(h2:k<=16777216)(h3:items.size*k.toNat<=sizeLine):
  Meets (Zh.«tuple.__mul__» ⟨[.ref l,.int k t],[]⟩) (λ_ R s=>s.heap.get? l=some {cls:=.type "tuple",dict:=dd,data:=.seq items n,slots:=sl}/\R (.ok (.ret (.ref s.heap.objs.size))) {s with heap:=s.heap.push {cls:=.type "tuple",data:=.seq ((Z0 k.toNat items).foldl (·++·) #[])}}):=
 .of_wp λprog w A R s h=>by
  obtain⟨hp,g,d,tk,os⟩:=s;obtain⟨hl,h⟩:=h
  have hk:(items.size:Int)*k=((items.size*k.toNat:Nat):Int):=by rw[Int.natCast_mul,Int.toNat_of_nonneg (by omega)]
  rw[YK] at h3
  have c1:(decide (k < -(2^63))||decide (k>=2^63))=false:=by simp;omega
  have c2:(items.isEmpty||k==1)=false:=by rw[hc];simp;omega
  have c3:(decide (k<=0)||items.isEmpty)=false:=by rw[hc];simp;omega
  have c4:¬((items.size:Int)*k>(2^63-1) / 8):=by rw[hk];omega
  have c5:Tuple.tupleTooMany ((items.size:Int)*k)=false:=by rw[hk];unfold Tuple.tupleTooMany;rw[YK];exact decide_eq_false (by omega)
  wp_walk
  rw[if_neg (by rw[c1];decide)]
  wp_walk
  dsimp only
  rw[if_neg (by rw[c2];decide)]
  rw[if_neg (by rw[c3];decide)]
  rw[if_neg c4]
  rw[if_neg (by rw[c5];decide)]
  wp_walk
  rw[if_neg (by rw[zhu,YK];omega)]
  wp_walk
  exact⟨_,rfl,h⟩
end PySem
namespace IT
open PySem PySem.Spec L2
section
variable {X:Cx}
theorem Vals.rep(r:Vals xs us):∀m:Nat,Vals (Z0 m xs).flatten (Z0 m us).flatten|0=>.nil|m+1=>by rw[Zb,Zb,Y3,Y3];exact r.append (Vals.rep r m)
theorem zgR{α:Type}(xs:List α):∀m:Nat,(Z0 m xs).flatten.length=xs.length*m|0=>by simp|m+1=>by rw[Zb,Y3,ZZ,zgR xs m,Nat.mul_succ,Nat.add_comm]
theorem zpp:OpR X (YC .Mult) (λx y H Q=>∃p k xs,x=.ref p/\y=.int k/\SqL X.K H p xs/\0<=k/\k<=1000/\xs.length<=1000/\∀r,H r=none->Q (.ref r) (upd H r (.lst (Z0 k.toNat xs).flatten))):=by
 intro pins s σ H x y v u Q I rx ry q;obtain⟨p,k,xs,rfl,rfl,hq,k0,k1,hn,q⟩:=q;cases rx;obtain⟨t,rfl⟩:=ry;obtain⟨its,r,⟨o,n,e,hc,hd,hs⟩,_⟩:=I.list hq;have hl:=r.length;obtain⟨cls,dd,data,sl⟩:=o;simp only at hc hd hs;subst hc hd hs
 have hm:its.toArray.size*k.toNat<=1000*1000:=WX (by rw[ZV];omega) (by omega)
 refine We (T:="list") (U:="int") (by decide) ⟨_,e,rfl⟩ (λs'=>VR s' k t) noFill_list_mul F.fills_int_mul WD repeat_list F.slot_int_index.lookup
  (YR WD (VR s k t) F.entry_int_rmul (F.args_int_rmul_2 _ _) (lm_int_rmul_list_any k t p its.toArray n none sl)
   ⟨e,rfl,⟨_,e,rfl⟩,?_⟩)
 refine YR F.slot_list_mul ⟨_,e,rfl⟩ F.entry_list_mul (F.args_list_mul_2 _ _) (lm_list_mul_any p its.toArray n none sl k t (by unfold Zh.List.listFitsIndex;simp;omega) (by omega) (by unfold Yw;rw[YK];simp only[decide_eq_true_eq];omega)) ⟨e,?_⟩
 have ea:(Z0 (if its.toArray.isEmpty=true then 0 else k.toNat) its.toArray).foldl (λx1 x2=>x1++x2) #[]=((Z0 k.toNat its).flatten).toArray:=by
  apply Array.ext';rw[zbj]
  cases its with|nil=>simp|cons _ _=>simp
 rw[ea]
 exact⟨.ref _,_,I.lnew (t':=s.toks) (Vals.rep r _) (by rw[zgR,YK];have:=WX hn (show k.toNat<=1000 by omega);omega),rfl,q _ I.fresh⟩
end
section
variable {X:Cx}
theorem RepDs.rep(q:RepDs K A H xs vs):∀m:Nat,RepDs K A H (Z0 m xs).flatten (Z0 m vs).flatten|0=>.nil|m+1=>by rw[Zb,Zb,Y3,Y3];exact q.app (RepDs.rep q m)
theorem zgJ:OpR X (YC .Mult) (λx y H Q=>∃p k xs,x=.ref p/\y=.int k/\SqT X.K H p xs/\xs≠[]/\((k=1/\Q (.ref p) H)\/(k=0/\∀r,H r=none->Q (.ref r) (upd H r (.tup [])))\/
  (1<k/\k<=16777216/\xs.length*k.toNat<=sizeLine/\∀r,H r=none->Q (.ref r) (upd H r (.tup (Z0 k.toNat xs).flatten))))):=by
 intro pins s σ H x y v u Q I rx ry q;obtain⟨p,k,xs,rfl,rfl,hq,hn,q⟩:=q;cases rx;obtain⟨t,rfl⟩:=ry;obtain⟨its,r,pt,hz⟩:=I.tuple hq;have hl:=r.length;obtain⟨⟨cls,dd,data,sl⟩,ho,hc,n,hd⟩:=id pt;simp only at hc hd;subst hc hd
 have hne:its.toArray.isEmpty=false:=by
  cases its with
  |nil=>cases xs with
   |nil=>exact absurd rfl hn|cons _ _=>simp at hl
  |cons _ _=>simp
 refine We (T:="tuple") (U:="int") (by decide) ⟨_,ho,rfl⟩ (λs'=>VR s' k t) zbY F.fills_int_mul WD zdn F.slot_int_index.lookup
  (YR WD (VR s k t) F.entry_int_rmul (F.args_int_rmul_2 _ _) (ze6 k t p its.toArray n dd sl)
   ⟨ho,rfl,⟨_,ho,rfl⟩,?_⟩)
 rcases q with⟨rfl,q⟩|⟨rfl,q⟩|⟨k1,k2,k3,q⟩
 ·exact YR Xs ⟨_,ho,rfl⟩ Wa (Wp _ _) (ze5 t p its.toArray n dd sl) ⟨ho,⟨.ref p,H,I,rfl,q⟩⟩
 ·refine YR Xs ⟨_,ho,rfl⟩ Wa (Wp _ _) (zeX t p its.toArray n dd sl hne) ⟨ho,?_⟩
  have hf:H s.heap.objs.size=none:=I.hok.fresh (ZX _);refine⟨.ref s.heap.objs.size,upd H s.heap.objs.size (.tup []),I.laid (t':=s.toks) (λb u e=>Z4 _ e) (ZX _) ?_,rfl,q _ hf⟩;exact⟨XE _,[],.nil,zbD.new _ _⟩
 ·refine YR Xs ⟨_,ho,rfl⟩ Wa (Wp _ _) (zeG k t p its.toArray n dd sl hne k1 k2 (by rw[ZV,<-hl];exact k3)) ⟨ho,?_⟩
  have hf:H s.heap.objs.size=none:=I.hok.fresh (ZX _)
  have e:(Z0 k.toNat its.toArray).foldl (·++·) #[]=((Z0 k.toNat its).flatten).toArray:=by apply Array.ext';rw[zbj];simp
  rw[e];refine⟨.ref s.heap.objs.size,upd H s.heap.objs.size (.tup (Z0 k.toNat xs).flatten),I.laid (t':=s.toks) (λb u e=>Z4 _ e) (ZX _) ?_,rfl,q _ hf⟩
  exact⟨by rw[zgR];exact k3,_,Vals.rep r _,zbD.new _ _⟩
theorem zij(a:Array Nat):∀(n:Nat) (acc:Array Nat),((Z0 n a).foldl (·++·) acc).toList=acc.toList++(Z0 n a.toList).flatten|0,acc=>by simp|n+1,acc=>by rw[Zb,Yb,zij a n (acc++a),Zb,Y3];simp
theorem zlA{x:List Nat}{j:Int}(h:0<=j):PySem.Txt.mul (zaa x) j=zaa (Z0 j.toNat x).flatten:=by
 unfold PySem.Txt.mul
 split
 ·have:j=0:=by omega
  subst this;rfl
 ·split
  ·rename_i z
   simp only[Za,beq_iff_eq,zag] at z
   rcases z with z | z
   ·subst z
    simp
   ·have:x=[]:=XW.mp z
    subst this;simp
  ·show (⟨_⟩:Str)=⟨_⟩
   congr 1
   apply Array.ext';rw[zij];simp[zaa]
theorem znQ:OpD X (YC .Mult) (bop .mul):=by
 intro pins s σ H v u v' u' Q I rv ru q;obtain⟨μ,h,a,b,z,R0,qa,qb,e,k⟩:=q
 cases a with
 | int i=>
  cases b with
  | int j=>
   simp only[RdD,RepD] at qa qb;change (if _=true then _ else _)=some _ at e
   split at e
   ·rename_i hf
    cases e;refine zqq pins s σ H v u v' u' Q I rv ru ⟨i,j,qa,qb,?_,k μ H _ Stp.refl R0 (by simp only[RepD])⟩;rw[Za] at hf
    rcases hf with hf | hf
    ·exact .inl (zdA.mp hf)
    ·exact .inr (zdA.mp hf)
   ·cases e
  |_=>exact zad e
 | tup xs=>
  cases b with
  | int j=>
   simp only[RdD,RepD] at qa qb;obtain⟨p,vs,rfl,q1,z1⟩:=qa;have l1:=z1.length;change (if _=true then _ else _)=some _ at e
   split at e
   ·cases e
   ·rename_i hne
    cases e;simp only[Za,ZJ,not_or,decide_eq_true_eq] at hne;obtain⟨⟨⟨n1,n2⟩,n3⟩,n4⟩:=hne
    have n4:fit (xs.length*j.toNat)=true:=by simpa using n4
    have n4:xs.length*j.toNat<=sizeLine:=of_decide_eq_true n4
    have hn:vs≠[]:=by
     rintro rfl
     cases xs with|nil=>simp at n1|cons _ _=>simp at l1
    by_cases h0:j=0
    ·subst h0
     refine zgJ pins s σ H _ u v' u' Q I rv ru ⟨p,0,vs,rfl,qb,q1,hn,.inr (.inl ⟨rfl,λr hr=>?_⟩)⟩;have s2:Stp μ h H μ h (upd H r (.tup [])):=Stp.fresh hr;refine k μ _ (.ref r) s2 (R0.fresh hr) ?_;simp only[RepD];exact⟨r,[],rfl,SqT.of zai,.nil⟩
    ·by_cases h1:j=1
     ·subst h1
      refine zgJ pins s σ H _ u v' u' Q I rv ru ⟨p,1,vs,rfl,qb,q1,hn,.inl ⟨rfl,k μ H _ Stp.refl R0 ?_⟩⟩;simp only[RepD];rw[show(Z0 (1:Int).toNat xs).flatten=xs from by simp];exact⟨p,vs,rfl,q1,z1⟩
     ·refine zgJ pins s σ H _ u v' u' Q I rv ru ⟨p,j,vs,rfl,qb,q1,hn,.inr (.inr ⟨by omega,by omega,by rw[<-l1];exact n4,λr hr=>?_⟩)⟩
      have s2:Stp μ h H μ h (upd H r (.tup (Z0 j.toNat vs).flatten)):=Stp.fresh hr;refine k μ _ (.ref r) s2 (R0.fresh hr) ?_;simp only[RepD];exact⟨r,_,rfl,SqT.of zai,RepDs.stp s2 R0 (RepDs.rep z1 _)⟩
  |_=>exact zad e
 | str x=>
  cases b with
  | int j=>
   simp only[RdD,RepD] at qa qb;subst qa qb;obtain⟨t1,rfl⟩:=rv;obtain⟨t2,rfl⟩:=ru;change (if(decide (0<=j)&&decide (j<=1000)&&decide (x.length<=1000))=true then some (D.str (Z0 j.toNat x).flatten) else none)=some _ at e
   split at e
   case isFalse=>cases e
   rename_i hc;simp only[Z9,decide_eq_true_eq] at hc;obtain⟨⟨c1,c2⟩,c3⟩:=hc;cases e;have hx:(zaa x).length=x.length:=zag x
   refine PySem.SB.mul ⟨by simp;omega,λz1 z2 z=>?_,λz1 z2=>?_⟩ λt' k'=>?_
   ·rw [hx] at z
    have:(1:Int)<=j:=by omega
    have h9:(1000:Int)<=(2^63-1) / j:=Int.le_ediv_of_mul_le (by omega) (by omega);omega
   ·rw [hx]
    have:x.length*j.toNat<=1000*1000:=WX c3 (by omega)
    exact decide_eq_false (by rw[YK];omega)
   ·exact⟨.str (zaa (Z0 j.toNat x).flatten),H,I.tok k',⟨t',by rw[zlA c1]⟩,k μ H _ Stp.refl R0 (by simp only[RepD])⟩
  |_=>exact zad e
 | lst xs=>
  cases b with
  |int j=>
   obtain⟨p,vs,rfl,q1,z1⟩:=qa;simp only[RdD,RepD] at qb;have l1:=z1.length;change (if(decide (0<=j)&&decide (j<=1000)&&decide (xs.length<=1000))=true then some (D.lst (Z0 j.toNat xs).flatten) else none)=some _ at e
   split at e
   case isFalse=>cases e
   rename_i hc;simp only[Z9,decide_eq_true_eq] at hc;obtain⟨⟨c1,c2⟩,c3⟩:=hc;cases e;refine zpp pins s σ H _ u v' u' Q I rv ru ⟨p,j,vs,rfl,qb,q1,c1,c2,by omega,λr hr=>?_⟩;have s2:Stp μ h H μ h (upd H r (.lst (Z0 j.toNat vs).flatten)):=Stp.fresh hr;refine k μ _ (.ref r) s2 (R0.fresh hr) ?_;simp only[RepD];refine⟨r,_,rfl,.inl ⟨λl=>?_,.inl zai⟩,RepDs.stp s2 R0 (RepDs.rep z1 _)⟩;obtain⟨ws,w,_⟩:=R0.liveAt l
   rw[hr] at w;cases w
  |_=>exact zad e
 |_=>cases b<;>exact zad e
theorem zib(q:RdD K A0 H a v):decide (v=.non)=zgw a:=by
 cases a with|non=>simp only[RdD,RepD] at q;subst q;rfl|bl b=>simp only[RdD,RepD] at q;subst q;rfl|int b=>simp only[RdD,RepD] at q;subst q;rfl|str b=>simp only[RdD,RepD] at q;subst q;rfl|tup b=>simp only[RdD,RepD] at q;obtain⟨p,vs,rfl,_⟩:=q;rfl|lst b=>obtain⟨p,vs,rfl,_⟩:=q;rfl
theorem zoe:OpD X (Zf .Is) (cop .isN):=by
 intro pins s σ H v u v' u' Q I rv ru q;obtain⟨μ,h,a,b,z,R0,qa,qb,e,k⟩:=q
 cases b with
 |non=>
  simp only[RdD,RepD] at qb;replace e:=ZR e;subst e
  exact zqI pins s σ H v u v' u' Q I rv ru ⟨qb,by rw[zib qa];exact k μ H _ Stp.refl R0 (by simp only[RepD])⟩
 | bl c=>
  cases a with|bl d=>simp only[RdD,RepD] at qa qb;replace e:=ZR e;subst e qa qb;have e1:v'=Xa d:=rv;have e2:u'=Xa c:=ru;subst e1 e2;exact PyProof.Rows.is_bool ⟨.bl (d==c),H,I,rfl,k μ H _ Stp.refl R0 (by simp only[RepD])⟩|_=>exact zad e
 |_=>cases a<;>exact zad e
theorem ziY:OpD X (Zf .IsNot) (cop .isnotN):=by
 intro pins s σ H v u v' u' Q I rv ru q;obtain⟨μ,h,a,b,z,R0,qa,qb,e,k⟩:=q
 cases b with
 |non=>
  simp only[RdD,RepD] at qb;replace e:=ZR e;subst e
  exact znN pins s σ H v u v' u' Q I rv ru ⟨qb,by rw[zib qa];exact k μ H _ Stp.refl R0 (by simp only[RepD])⟩
 | bl c=>
  cases a with|bl d=>simp only[RdD,RepD] at qa qb;replace e:=ZR e;subst e qa qb;have e1:v'=Xa d:=rv;have e2:u'=Xa c:=ru;subst e1 e2;exact PyProof.Rows.isnot_bool ⟨.bl (d != c),H,I,rfl,k μ H _ Stp.refl R0 (by simp only[RepD])⟩|_=>exact zad e
 |_=>cases a<;>exact zad e
theorem zjp{α:Type}{xs:List α}{i:Int}{x:α}(e:at' xs i=some x):∃j,ixN xs.length i=some j/\xs[j]?=some x:=by
 unfold at' at e
 cases q:ixn xs.length i with|none=>rw[q] at e;cases e|some j=>rw[q] at e;exact⟨j,q,e⟩
theorem ix':IxR X (λv u H Q=>∃μ h a b z,Rep X.K μ h H/\RdD X.K (Live μ h) H a v/\RdD X.K (Live μ h) H b u/\idxD a b=some z/\∀μ' H' w,Stp μ h H μ' h H'->Rep X.K μ' h H'->RepD X.K (Live μ' h) H' z w->Q w H'):=by
 intro value slice pins s σ H v u v' u' Q I rv ru q hs;obtain⟨μ,h,a,b,z,R0,qa,qb,e,k⟩:=q
 cases a with
 | tup xs=>
  cases b with|int i=>simp only[RdD,RepD] at qa qb;obtain⟨p,vs,rfl,q1,z1⟩:=qa;obtain⟨j,e1,e2⟩:=zjp (show at' xs i=some z from e);obtain⟨w,e3,qw⟩:=z1.get e2;refine zqN value slice pins s σ H _ u v' u' Q I rv ru ⟨p,vs,i,w,rfl,qb,q1,?_,k μ H w Stp.refl R0 qw⟩ hs;unfold atI;rw[<-z1.length,e1];exact e3|_=>exact zad e
 | lst xs=>
  cases b with|int i=>simp only[RdD,RepD] at qb;obtain⟨p,vs,rfl,q1,z1⟩:=qa;obtain⟨j,e1,e2⟩:=zjp (show at' xs i=some z from e);obtain⟨w,e3,qw⟩:=z1.get e2;refine zo6 value slice pins s σ H _ u v' u' Q I rv ru ⟨p,vs,i,w,rfl,qb,q1,?_,k μ H w Stp.refl R0 qw⟩ hs;unfold atI;rw[<-z1.length,e1];exact e3|_=>exact zad e
 | str x=>
  cases b with
  | int i=>
   simp only[RdD,RepD] at qa qb
   (delta idxD at e;(try dsimp only at e))
   split at e
   ·rename_i hf
    cases ec:at' x i with
    |none=>rw[ec] at e;cases e
    |some c=>
     rw[ec] at e;cases e;obtain⟨j,e1,e2⟩:=zjp ec
     refine zpR value slice pins s σ H _ u v' u' Q I rv ru ⟨zaa x,i,c,qa,qb,by rw[zag];exact of_decide_eq_true hf,?_,k μ H _ Stp.refl R0 (by simp only[RepD];rfl)⟩ hs
     show atI x i=some c;unfold atI;rw[e1];exact e2
   ·cases e
  |_=>exact zad e
 |_=>exact zad e
theorem zpY(ha:IE X a f)(hb:IE X b g)(hs:zhe b):IE X (.Subscript a b pos) (λσ=>bnd (f σ) λx=>bnd (g σ) λy=>mD idxD x y):=by refine PE.imp (zsm ix' ha hb hs) λσ H Q q=>?_;obtain⟨μ,h,env,R0,re,r,h',e,k⟩:=q;simp only[mD,zab,zac,zax] at e;obtain⟨x,h1,e1,y,h2,e2,dx,h3,e3,dy,h4,e4,z,h5,⟨e5,rfl⟩,rfl,rfl⟩:=e;refine⟨μ,h,env,R0,re,x,h1,e1,λμ1 H1 v s1 R1 q1=>⟨μ1,h1,env,R1,re.stp s1 R0,y,h2,e2,λμ2 H2 u s2 R2 q2=>?_⟩⟩;obtain⟨rfl,zx⟩:=za5 R2 (q1.stp s2 R1) e3;obtain⟨rfl,zy⟩:=za5 R2 q2 e4;exact⟨μ2,_,dx,dy,z,R2,zx,zy,e5,λμ3 H3 w s3 R3 q3=>k μ3 H3 w ((s1.trans s2).trans s3) R3 q3⟩
end
end IT
namespace HT
open PySem PyProof.Rows
section
variable {prog:ZH}{w:World}{A:Around}{E:Value->Shared->Prop}{s:Shared}
theorem getItem_tuple_whole{lo hi:Option Int}(ht:IsTup s.heap t items)(hs:s.heap.IsSliceOf sl vl vu .none)(pl:IsPart vl lo)(pu:IsPart vu hi)
  (hw:sIx items.size 0 lo=0/\sIx items.size items.size hi=items.size) (h:Q (.ref t) s):wpAny (model prog w) A (VG (.ref t) (.ref sl)) Q E s:=by
 obtain⟨os,hos,hcs,hds⟩:=id hs;have hTs:s.TypeIs (.ref sl) "slice":=⟨os,hos,hcs⟩;unfold VG
 try with_reducible refine YX ?_
 first | refine Z7 (ZY ?_) | skip
 refine Z7 (wpAny_sequenceKey ht.typeIs (by decide) ?_)
 refine Z7 (XZ (name:=Yx "__getitem__") ht.typeIs Zd
  (Xv Zd ht.typeIs entry_tuple_getitem ?_ (args_tuple_getitem _ _)))
 show wpAny _ _ (XC (.ref t) >>= _) _ _ s;refine Z7 (tupleItemsOf_ ht ?_);refine Z7 (wpAny_typeOf hTs ?_);rw[if_pos (by decide)];refine Z7 (zbo hs pl pu ?_)
 have hyes:(((sIx items.size 0 lo:Nat):Int)==0&&(1:Int)==1&&(sIx items.size items.size hi-sIx items.size 0 lo)==items.size)=true:=by rw[hw.1,hw.2];simp
 show wpAny _ _ (if(((sIx items.size 0 lo:Nat):Int)==0&&(1:Int)==1&&(sIx items.size items.size hi-sIx items.size 0 lo)==items.size)=true then _ else _) _ _ s;rw[if_pos hyes];unfold Zh.Tuple.tupleIsExact;refine Z7 (Z7 (wpAny_typeOf ht.typeIs (ZY ?_)));rw[if_pos (by decide)]
 first|exact Z7 (XB (ZY ⟨_,rfl,ZY h⟩))|exact Z7 (XB (Z7 (ZY (ZY ⟨_,rfl,ZY h⟩))))|exact Z7 (XB (Z7 (ZY ⟨_,rfl,ZY h⟩)))
end
end HT
namespace IT
open PySem PySem.Spec L2
section
variable {X:Cx}
theorem zoY:SlR X (λx lo hi H Q=>∃a xs,x=.ref a/\SqT X.K H a xs/\(HT.sIx xs.length 0 lo=0/\HT.sIx xs.length xs.length hi=xs.length)/\Q (.ref a) H):=by
 intro pins s σ H x v vl vu lo hi sl Q I rx hs pl pu h;obtain⟨a,xs,rfl,hx,hw,q⟩:=h;cases rx;obtain⟨its,r,ht,hz⟩:=I.tuple hx
 have hlen:its.toArray.size=xs.length:=by rw[ZV];exact r.length.symm
 refine⟨"tuple",_,Zd.lookup,ht.typeIs,?_⟩
 exact HT.getItem_tuple_whole ht hs pl pu (by rw[hlen];exact hw) ⟨.ref a,H,I,rfl,q⟩
theorem ziq(n d:Nat)(o:Option Int):sIx n d o=HT.sIx n d o:=by cases o<;>rfl
theorem RepDs.cut(q:RepDs K A H xs vs)(lo hi:Option Int):RepDs K A H (IT.cut xs lo hi) (cutV vs lo hi):=by unfold IT.cut cutV;rw[ziq,ziq,q.length];exact(q.drop _).take _
theorem sl':SlR X (λv lo hi H Q=>∃μ h a z,Rep X.K μ h H/\RdD X.K (Live μ h) H a v/\cutD a lo hi=some z/\∀μ' H' w,Stp μ h H μ' h H'->Rep X.K μ' h H'->RepD X.K (Live μ' h) H' z w->Q w H'):=by
 intro pins s σ H x v vl vu lo hi sl Q I rx hs pl pu q;obtain⟨μ,h,a,z,R0,qa,e,k⟩:=q
 cases a with
 | tup xs=>
  simp only[RdD,RepD] at qa;obtain⟨p,vs,rfl,q1,z1⟩:=qa;cases e
  by_cases hw:HT.sIx vs.length 0 lo=0/\HT.sIx vs.length vs.length hi=vs.length
  ·refine zoY pins s σ H _ v vl vu lo hi sl Q I rx hs pl pu ⟨p,vs,rfl,q1,hw,k μ H _ Stp.refl R0 ?_⟩
   simp only[RepD];refine⟨p,vs,rfl,q1,?_⟩
   have e2:cut xs lo hi=xs:=by unfold cut;rw[ziq,ziq,z1.length,hw.1,hw.2,Yh,Nat.sub_zero,<-z1.length,V2]
   rw[e2];exact z1
  ·refine zqf pins s σ H _ v vl vu lo hi sl Q I rx hs pl pu ⟨p,vs,rfl,q1,hw,λr hr=>?_⟩
   have s2:Stp μ h H μ h (upd H r (.tup (cutV vs lo hi))):=Stp.fresh hr;refine k μ _ (.ref r) s2 (R0.fresh hr) ?_;simp only[RepD];exact⟨r,cutV vs lo hi,rfl,SqT.of zai,RepDs.stp s2 R0 (z1.cut lo hi)⟩
 |lst xs=>
  obtain⟨p,vs,rfl,q1,z1⟩:=qa;cases e;refine zox pins s σ H _ v vl vu lo hi sl Q I rx hs pl pu ⟨p,vs,rfl,q1,λr hr=>?_⟩;have s2:Stp μ h H μ h (upd H r (.lst (cutV vs lo hi))):=Stp.fresh hr;refine k μ _ (.ref r) s2 (R0.fresh hr) ?_;simp only[RepD];refine⟨r,cutV vs lo hi,rfl,.inl ⟨λl=>?_,.inl zai⟩,RepDs.stp s2 R0 (z1.cut lo hi)⟩;obtain⟨ws,w,_⟩:=R0.liveAt l
  rw[hr] at w;cases w
 | str xs=>
  (delta cutD at e;(try dsimp only at e))
  split at e
  ·rename_i hf
   cases e;simp only[RdD,RepD] at qa;subst qa;obtain⟨t,rfl⟩:=(show ∃t',v=Y1 (zaa xs) t' from rx)
   have hz:(zaa xs).length<=sizeLine:=by rw[zag];exact of_decide_eq_true hf
   have fin:∀t' k',EP X pins σ Q (.str (Txt.slice (zaa xs) lo hi) t') {s with toks:=k'}:=λt' k'=>⟨.str (Txt.slice (zaa xs) lo hi),H,I.tok _,⟨_,rfl⟩,k μ H _ Stp.refl R0 (by rw[zkd];simp only[RepD])⟩
   obtain⟨os,hos,hcs,hds⟩:=id hs
   have part:∀{v:Value} {o:Option Int},IsPart v o->∃p:Option (Int×Tok),v=partValue p/\p.map (·.1)=o:=by
    intro v o p
    cases p with|none=>exact⟨none,rfl,rfl⟩|int i t=>exact⟨some (i,t),rfl,rfl⟩
   obtain⟨p1,rfl,e1⟩:=part pl;obtain⟨p2,rfl,e2⟩:=part pu;refine⟨"str",_,PySem.F.slot_str_getitem.lookup,XQ _ _ _,wpAny_getItem_str_slice (l:=p1) (u:=p2) (st:=none) ⟨os,hos,hcs,hds⟩ rfl ?_⟩;unfold sliceMade slicePicked;rw[e1,e2];exact post_val_or_str ⟨Zc (Txt.slice_le _ lo hi) hz,fin⟩
  ·cases e
 |_=>cases e
inductive tO(K:Z8)(f:IT.Env->M R)(σ:St)(H:Hp)(Q:Option Int->Hp->Prop):Prop where|mk (μ:List Addr) (h:Sto) (env:IT.Env) (R0:Rep K μ h H) (re:RepE K μ h H env σ) (d:D) (h':Sto) (o:Option Int) (e:f env h=some (.d d,h')) (ep:part d=some o) (k:∀μ' H',Stp μ h H μ' h' H'->Rep K μ' h' H'->Q o H')
theorem PO.imp(h:PO X oe t)(i:∀σ H Q,t' σ H Q->t σ H Q):PO X oe t':=λpins s σ H Q I q=>h pins s σ H Q I (i σ H Q q)
theorem zoT:PO X none (tO X.K λ_=>ok (.d .non)):=by refine PO.imp zoG λσ H Q q0=>?_;obtain⟨μ,h,env,R0,re,d,h',o,e,ep,k⟩:=q0;simp only[zac,R.d.injEq] at e;obtain⟨rfl,rfl⟩:=e;simp only[part,Z6] at ep;subst ep;exact k μ H Stp.refl R0
theorem zje(h:IE X e f):PO X (some e) (tO X.K f):=by
 intro pins s σ H Q I ⟨μ,h0,env,R0,re,d,h',o,ef,ep,k⟩;rw[evalPart_some];refine thn (h pins s σ H (λx H1=>(∃i,x=.int i/\Q (some i) H1)\/(x=.non/\Q none H1)) I ⟨μ,h0,env,R0,re,.d d,h',ef,λμ1 H1 v s1 R1 q1=>?_⟩) λu s1 ⟨x,H1,I1,r1,q1⟩=>?_
 ·cases d with|int i=>simp only[RepR,RepD] at q1;simp only[part,Z6] at ep;subst ep;exact .inl ⟨i,q1,k μ1 H1 s1 R1⟩|non=>simp only[RepR,RepD] at q1;simp only[part,Z6] at ep;subst ep;exact .inr ⟨q1,k μ1 H1 s1 R1⟩|_=>simp[part] at ep
 ·rcases q1 with⟨i,rfl,q⟩|⟨rfl,q⟩
  ·obtain ⟨t,rfl⟩:=r1
   exact⟨some i,H1,I1,.int i t,q⟩
  ·cases r1
   exact⟨none,H1,I1,.none,q⟩
theorem zqd(ha:IE X a f)(hl:PO X lo (tO X.K g))(hu:PO X hi (tO X.K k)):IE X (.Subscript a (.Slice lo hi none p2) pos)
  (λσ=>bnd (f σ) λx=>bnd (g σ) λl=>bnd (k σ) λu=>bnd (rd x) λx=>bnd (rd l) λl=>bnd (rd u) λu=>bnd (opt (sliD x l u)) λz=>ok (.d z)):=by
 refine PE.imp (zlX sl' ha hl hu) λσ H Q q0=>?_;obtain⟨μ,h,env,R0,re,r,h',e,kk⟩:=q0;simp only[zab,zac,zax] at e;obtain⟨x,h1,e1,l,h2,e2,u,h3,e3,dx,h4,e4,dl,h5,e5,du,h6,e6,z,h7,⟨e7,rfl⟩,rfl,rfl⟩:=e
 (delta sliD at e7;(try dsimp only at e7))
 have isd:∀(r:R) (d:D) (h h':Sto),rd r h=some (d,h')->∀o,part d=some o->r=.d d/\h'=h:=by
  intro r d h h' e o ep
  cases r with|d x=>simp only[rd,zac] at e;exact⟨by rw[e.1],e.2.symm⟩|loc l=>obtain⟨o,_,_,rfl,_⟩:=zey e;simp[part] at ep
 cases pl:part dl with
 |none=>rw[pl] at e7;cases e7
 | some lo'=>
  cases pu:part du with|none=>rw[pl,pu] at e7;cases e7|some hi'=>rw[pl,pu] at e7;replace e7:cutD dx lo' hi'=some z:=e7;obtain⟨rfl,hh5⟩:=isd l dl h4 h5 e5 lo' pl;subst hh5;obtain⟨rfl,hh6⟩:=isd u du _ h6 e6 hi' pu;subst hh6;refine⟨μ,h,env,R0,re,x,h1,e1,λμ1 H1 v s1 R1 q1=>⟨μ1,h1,env,R1,re.stp s1 R0,dl,h2,lo',e2,pl,λμ2 H2 s2 R2=>⟨μ2,h2,env,R2,re.stp (s1.trans s2) R0,du,h3,hi',e3,pu,λμ3 H3 s3 R3=>?_⟩⟩⟩;obtain⟨rfl,zx⟩:=za5 R3 ((q1.stp s2 R1).stp s3 R2) e4;exact⟨μ3,_,dx,z,R3,zx,e7,λμ4 H4 w s4 R4 q4=>kk μ4 H4 w (((s1.trans s2).trans s3).trans s4) R4 q4⟩
inductive znu(K:Z8)(g:List D->Option D)(vs:List V)(H:Hp)(Q:VK):Prop where|mk (μ:List Addr) (h:Sto) (ds:List D) (z:D) (R0:Rep K μ h H) (pr:Paired (RdD K (Live μ h) H) ds vs) (e:g ds=some z) (k:∀μ' H' w,Stp μ h H μ' h H'->Rep K μ' h H'->RepD K (Live μ' h) H' z w->Q w H')
def zmz(X:Cx)(f:Value)(g:List D->Option D):Prop:=zdr X f λvs H Q=>znu X.K g vs H Q
theorem zdb
  (q:tE X.K (λσ=>bnd (fs σ) λrs=>bnd (rds rs) λds=>bnd (opt (biD t ds)) λz=>ok (.d z)) σ H Q):
  tAs X.K fs σ H λvs H1=>znu X.K (biD t) vs H1 Q:=by
 obtain⟨μ,h,env,R0,re,r,h',e,k⟩:=q;simp only[zab,zac,zax] at e;obtain⟨rs,h1,e1,ds,h2,e2,z,h3,⟨e3,rfl⟩,rfl,rfl⟩:=e;refine⟨μ,h,env,R0,re,rs,h1,e1,λμ1 H1 vs s1 R1 q1=>?_⟩;obtain⟨rfl,zs⟩:=zk0 R1 q1 e2;exact⟨μ1,_,ds,z,R1,zs,e3,λμ2 H2 w s2 R2 q2=>k μ2 H2 w (s1.trans s2) R2 q2⟩
theorem zk1:zmz X (.builtin "len") (biD .len):=by
 intro pins s σ H vs us Q I r q;obtain⟨μ,h,ds,z,R0,pr,e,k⟩:=q
 cases pr with
 |nil=>exact zad e
 | @cons d v ds vs qd pr=>
  cases pr with
  |cons _ _=>cases d<;>exact zad e
  | nil=>
   cases d with
   |tup xs=>
    simp only[RdD,RepD] at qd;obtain⟨p,ws,rfl,q1,z1⟩:=qd;replace e:=ZR e;subst e
    exact zfv pins s σ H _ us Q I r ⟨.ref p,ws.length,rfl,.inr ⟨ws,q1,rfl⟩,k μ H _ Stp.refl R0 (by simp only[RepD];rw[z1.length])⟩
   |lst xs=>
    obtain⟨p,ws,rfl,q1,z1⟩:=qd;replace e:=ZR e;subst e
    exact zfv pins s σ H _ us Q I r ⟨.ref p,ws.length,rfl,.inl ⟨ws,q1,rfl⟩,k μ H _ Stp.refl R0 (by simp only[RepD];rw[z1.length])⟩
   | str x=>
    simp only[RdD,RepD] at qd;subst qd
    (delta biD at e;(try dsimp only at e))
    split at e
    ·rename_i hf
     cases e
     exact zfv pins s σ H _ us Q I r ⟨.str (zaa x),x.length,rfl,⟨by rw[zag];exact of_decide_eq_true hf,by rw[zag]⟩,k μ H _ Stp.refl R0 (by simp only[RepD])⟩
    ·cases e
   |_=>exact zad e
theorem zhq:zmz X (.type "tuple") (biD .tuple):=by
 intro pins s σ H vs us Q I r q;obtain⟨μ,h,ds,z,R0,pr,e,k⟩:=q
 cases pr with
 |nil=>exact zad e
 | @cons d v ds vs qd pr=>
  cases pr with
  |cons _ _=>cases d<;>exact zad e
  | nil=>
   cases d with
   |tup xs=>
    simp only[RdD,RepD] at qd;obtain⟨p,ws,rfl,q1,z1⟩:=qd;replace e:=ZR e;subst e
    exact zce pins s σ H _ us Q I r ⟨p,ws,rfl,.inr ⟨q1,k μ H _ Stp.refl R0 (by simp only[RepD];exact⟨p,ws,rfl,q1,z1⟩)⟩⟩
   |lst xs=>obtain⟨p,ws,rfl,q1,z1⟩:=qd;replace e:=ZR e;subst e;refine zce pins s σ H _ us Q I r ⟨p,ws,rfl,.inl ⟨q1,λl hl=>?_⟩⟩;have s2:Stp μ h H μ h (upd H l (.tup ws)):=Stp.fresh hl;refine k μ _ (.ref l) s2 (R0.fresh hl) ?_;simp only[RepD];exact⟨l,ws,rfl,SqT.of zai,RepDs.stp s2 R0 z1⟩|_=>exact zad e
theorem zjc:∀{xs:List D} {vs:List V} {n:Int},RepDs K A H xs vs->sumI xs=some n->∃ns:List Int,vs=ns.map V.int/\ns.sum=n
 | [],vs,n,q,e=>by simp only[RepDs] at q;simp only[sumI,Z6] at e;exact⟨[],q,e⟩
 | x :: xs,vs,n,q,e=>by
  simp only[RepDs] at q;obtain⟨v,r,rfl,q1,q2⟩:=q
  cases x with
  | int i=>
   simp only[sumI] at e
   cases es:sumI xs with
   |none=>rw[es] at e;cases e
   |some m=>
    rw[es] at e;simp only[Z6] at e;obtain⟨ns,rfl,hs⟩:=zjc q2 es;simp only[RepD] at q1
    exact⟨i::ns,by rw[q1];rfl,by rw[Xj,hs,e]⟩
  |_=>simp[sumI] at e
theorem zlb(hc:X.calm=true):zmz X (.builtin "sum") (biD .sum):=by
 intro pins s σ H vs us Q I r q;obtain⟨μ,h,ds,z,R0,pr,e,k⟩:=q
 cases pr with
 |nil=>exact zad e
 | @cons d v ds vs qd pr=>
  cases pr with
  |cons _ _=>cases d<;>exact zad e
  | nil=>
   cases d with
   | lst xs=>
    obtain⟨p,ws,rfl,q1,z1⟩:=qd
    (delta biD at e;(try dsimp only at e))
    cases es:sumI xs with
    |none=>rw[es] at e;cases e
    |some n=>
     rw[es] at e;simp only[Z6] at e;subst e;obtain⟨ns,rfl,hs⟩:=zjc z1 es;obtain⟨u,rfl,rx⟩:=zgT r;cases rx;obtain⟨its,ri,pl,hz⟩:=I.list (show SqL X.K H p (ns.map V.int) from q1);have hi:=ziV ri;obtain⟨xs',hx⟩:=hi.allInts.items
     refine sum_intListG (xs:=xs') (I.ok.hd hc) (by rw[<-hx];exact pl.isList) λh' tk t' hk=>?_
     refine⟨.int n,H,I.kept (t':=tk) hk,⟨t',?_⟩,k μ H _ Stp.refl R0 (by simp only[RepD])⟩;rw[preSum_eq,Y7 (by simp)];have e5:=hi.numsOf
     have e6:its=(intItems xs').toList:=by rw[<-hx]
     rw[e6,nums_intItems] at e5;rw[e5,hs]
   |_=>exact zad e
end
section
variable {X:Cx}
theorem Rep.placeL(R0:Rep K μ h H){l:Nat}{o:Ob}(e:μ[l]?=some a)(ho:h[l]?=some o)(il:o.isL=true):∃vs,H a=some (.lst vs)/\RepDs K (Live μ h) H o.items vs:=(R0.obj l a o e ho).isL il
theorem Rep.placeO(R0:Rep K μ h H){l:Nat}(e:μ[l]?=some a):∃o,h[l]?=some o:=by
 have hl:l<h.length:=by rw[<-R0.len];exact(Z3.mp e).1
 exact⟨h[l],Z2 hl⟩
theorem zjV{f:IT.Env->M R}(ho:IE X o f)(ha:IA X (e::es) fs)(hname:name=("append":Str))
  (hbase:YG o name X.env (eval o X.env)=eval o X.env)
  (hfew:((backTo cpos (ZT (e::es) X.env)).all (λx=>!x.1)&&(Xl cpos (Ym [] X.env)).all (λx=>x.1.isSome)
   && decide ((e::es).length+([]:List Yq).length+(if([]:List Yq).isEmpty then 0 else 1)<30))=true)
  (hline:(apos.endLine==cpos.line)=true) (hs:ZT (e::es) X.env=(false,eval e X.env)::ZT es X.env) (hplain:(backTo cpos (ZT es X.env)).any (·.1)=false):
  IE X (.Call (.Attribute o name apos) (e::es) [] cpos) (λσ=>bnd (f σ) λx=>bnd (zcX x) λ_=>bnd (fs σ) λrs=>meth .append x rs):=by
 subst hname;refine PE.imp (zkW PySem.F.plainAttrs_list PySem.F.slot_list_append PySem.F.type_list_append zkF ho ha hbase hfew hline hs hplain) λσ H Q q0=>?_;obtain⟨μ,h,env,R0,re,r,h',e,k⟩:=q0;simp only[zab] at e;obtain⟨x,h1,e1,_,h1',e0,rs,h2,e2,e3⟩:=e;obtain⟨l,o1,rfl,ho1,il1,rfl⟩:=zer e0;refine⟨μ,h,env,R0,re,.loc l,_,e1,λμ1 H1 v s1 R1 q1=>?_⟩
 ·skip
  obtain⟨a,ea,rfl⟩:=q1;obtain⟨vs1,hH1,z1⟩:=R1.placeL ea ho1 il1;refine⟨.inl ⟨rfl,vs1,.inl (.inl hH1)⟩,μ1,_,env,R1,re.stp s1 R0,rs,h2,e2,λμ2 H2 ws s2 R2 q2=>?_⟩
  cases q2 with
  |nil=>exact zad e3
  | @cons rr w rs' ws' qr q2=>
   cases q2 with
   |cons _ _=>exact zad e3
   | nil=>
    (delta meth at e3;(try dsimp only at e3);simp only[zab] at e3)
    obtain⟨d,h3,e4,e5⟩:=e3;obtain⟨s3,R3,zd⟩:=zj0 R2 qr e4;have ea2:=s2.pre l a ea
    split at e5
    ·rename_i xs hx
     split at e5
     ·rename_i hlen
      simp only[Z6,ZS] at e5;obtain⟨rfl,rfl⟩:=e5;obtain⟨vs3,hH3,z3⟩:=R3.placeL ea2 hx rfl
      have hlen':vs3.length<sizeLine:=by
       have:=z3.length
       have h4:xs.length<big:=of_decide_eq_true hlen;have h5:big=sizeLine:=rfl;simp only[Ob.items] at this;omega
      refine⟨a,vs3,w,rfl,rfl,hH3,hlen',?_⟩;obtain⟨s4,R4⟩:=write R3 ea2 hx (z3.app (RepDs.one zd));exact k μ2 _ .non (((s1.trans s2).trans s3).trans s4) R4 (by simp only[RepR,RepD])
     ·cases e5
    ·cases e5
def spF(K:Z8)(np:Nat)(m:List R->M R):Sp:=λvs H Q _=>vs.length=np/\∃μ h rs,Rep K μ h H/\zaM K μ h H rs vs/\Post K μ h H (RepR K) (m rs h) Q
structure zos(X:Cx)(n:Nat)(x:Str)(np:Nat)(dfl:List D)(m:List R->M R):Prop where
 ex:∃f fd ps dvs,FnOk X.prog X.w X.K X.mg X.base CX0 n f fd ps (spF X.K np m)/\X.mg x=some (.ref f)/\YO X.K (.ref f)=true/\(∀A H,RepDs X.K A H dfl dvs)/\(∀j,j<=dfl.length->∃ds,zdk X.K fd ps ds/\Vals (dvs.drop j) ds)
 fill:∀rs,m rs=m (zar np dfl rs)
 len:∀rs h p,m rs h=some p->(zar np dfl rs).length=np
theorem za8(h:rs.length+dfl.length<np):zar np dfl rs=rs:=by unfold zar;rw[if_pos h]
theorem zaK(h:¬rs.length+dfl.length<np):zar np dfl rs=rs++(dfl.drop (rs.length+dfl.length-np)).map R.d:=by unfold zar;rw[if_neg h]
theorem zaM.app(a:zaM K μ h H rs vs)(b:zaM K μ h H ss ws):zaM K μ h H (rs++ss) (vs++ws):=by
 induction a with|nil=>exact b|cons q _ ih=>exact .cons q ih
theorem RepDs.rs:∀{ds:List D} {vs:List V},RepDs K (Live μ h) H ds vs->zaM K μ h H (ds.map R.d) vs| [],vs,q=>by simp only[RepDs] at q;subst q;exact .nil|x::xs,vs,q=>by simp only[RepDs] at q;obtain⟨v,r,rfl,h1,h2⟩:=q;exact .cons h1 h2.rs
theorem zi9{p pos:Pos}{fs:IT.Env->M (List R)}(hF:zos X n x np dfl m)(hr:Room n X.A)(hg:Gl X x)(ha:IA X (e::es) fs)(hf:∀σ h rs h',fs σ h=some (rs,h')->rs.length=(e::es).length)
  (hdb:(x==("__debug__":Str))=false) (he:ZT (e::es) X.env=(false,eval e X.env)::ZT es X.env) (hpl:(backTo pos (ZT es X.env)).any (·.1)=false):
  IE X (.Call (.Name x p) (e::es) [] pos) (λσ=>bnd (fs σ) λrs=>m rs):=by
 obtain⟨f,fd,ps,dvs,F,hm,hk,hd,hb⟩:=hF.ex
 by_cases hj:(e::es).length+dfl.length-np<=dfl.length/\¬(e::es).length+dfl.length<np
 ·obtain ⟨hj,hj2⟩:=hj
  obtain⟨ds,hb,hv⟩:=hb _ hj;refine PE.imp (zg5 F hr hg hm hk hb hv zpJ ha hdb he hpl) λσ H Q q0=>?_;obtain⟨μ,h,env,R0,re,r,h',ee,k⟩:=q0;simp only[zab] at ee;obtain⟨rs,h1,e1,e2⟩:=ee;refine⟨μ,h,env,R0,re,rs,h1,e1,λμ1 H1 vs s1 R1 q1=>?_⟩;have hlen:=hF.len _ _ _ e2;rw[hF.fill rs] at e2
  have qq:zaM X.K μ1 h1 H1 (zar np dfl rs) (vs++dvs.drop ((e::es).length+dfl.length-np)):=by
   rw[zaK (by rw[hf _ _ _ _ e1];exact hj2),hf _ _ _ _ e1]
   exact q1.app (RepDs.drop _ (hd _ _)).rs
  exact⟨by rw[<-qq.length];exact hlen,μ1,h1,zar np dfl rs,R1,qq,r,h',e2,λμ2 H2 v s2 R2 q2=>k μ2 H2 v (s1.trans s2) R2 q2⟩
 ·obtain ⟨ds,hb,hv⟩:=hb dfl.length (ZX _)
  refine PE.imp (zg5 F hr hg hm hk hb hv zpJ ha hdb he hpl) λσ H Q q0=>?_;obtain⟨μ,h,env,R0,re,r,h',ee,k⟩:=q0;simp only[zab] at ee;obtain⟨rs,h1,e1,e2⟩:=ee;refine⟨μ,h,env,R0,re,rs,h1,e1,λμ1 H1 vs s1 R1 q1=>?_⟩
  exfalso
  have hlen:=hF.len _ _ _ e2;have hrs:=hf _ _ _ _ e1
  by_cases hs:rs.length+dfl.length<np
  ·rw [za8 hs] at hlen
   omega
  ·rw [zaK hs] at hlen
   simp only[ZZ,Z1,YU] at hlen;omega
inductive tG(K:Z8)(t:Tg)(v:V)(σ:St)(H:Hp)(Q:St->Hp->Prop):Prop where|mk (μ:List Addr) (h:Sto) (env:IT.Env) (r:R) (env':IT.Env) (R0:Rep K μ h H) (re:RepE K μ h H env σ) (qr:RepR K μ h H r v) (e:zaF t r env h=some (env',h)) (k:∀σ',RepE K μ h H env' σ'->Q σ' H)
inductive tGs(K:Z8)(ts:List Tg)(vs:List V)(σ:St)(H:Hp)(Q:St->Hp->Prop):Prop where|mk (μ:List Addr) (h:Sto) (env:IT.Env) (xs:List D) (env':IT.Env) (R0:Rep K μ h H) (re:RepE K μ h H env σ) (qr:RepDs K (Live μ h) H xs vs) (e:bindTs ts xs env h=some (env',h)) (k:∀σ',RepE K μ h H env' σ'->Q σ' H)
theorem PG.imp(h:PG X tg t)(i:∀v σ H Q,t' v σ H Q->t v σ H Q):PG X tg t':=λpins s σ H v u Q I r q=>h pins s σ H v u Q I r (i v σ H Q q)
theorem PGs.imp(h:PGs X tg t)(i:∀v σ H Q,t' v σ H Q->t v σ H Q):PGs X tg t':=λpins s σ H v u Q I r q=>h pins s σ H v u Q I r (i v σ H Q q)
theorem zou(hN:X.N.Nodup)(hi:X.N[i]?=some x)(hx:Loc X.env.scope x)(hf:X.fn x=true\/X.env.scope.names.lookup x=some .local):PG X (.Name x pos) (tG X.K (.name i)):=by refine PG.imp (zhg hN hi hx hf) λv σ H Q q_=>?_;obtain⟨μ,h,env,r,env',R0,re,qr,e,k⟩:=q_;simp only[zaF,zac] at e;obtain⟨rfl,_⟩:=e;exact k _ (re.set i qr)
theorem zoH:PGs X [] (tGs X.K []):=by
 refine PGs.imp zjZ λvs σ H Q q_=>?_;obtain⟨μ,h,env,xs,env',R0,re,qx,e,k⟩:=q_
 cases xs with|nil=>simp only[RepDs] at qx;simp only[bindTs,zac] at e;obtain⟨rfl,_⟩:=e;exact⟨qx,k σ re⟩|cons _ _=>exact zad e
theorem zaQ:∀(t:Tg) (r:R) (env env':IT.Env) (h h':Sto),zaF t r env h=some (env',h')->h'=h:=by
 intro t
 refine Tg.rec (motive_1:=λt=>∀(r:R) (env env':IT.Env) (h h':Sto),zaF t r env h=some (env',h')->h'=h)
  (motive_2:=λts=>∀(xs:List D) (env env':IT.Env) (h h':Sto),bindTs ts xs env h=some (env',h')->h'=h) ?_ ?_ ?_ ?_ t
 ·intro i r env env' h h' e
  simp only[zaF,zac] at e;exact e.2.symm
 ·intro ts ih r env env' h h' e
  simp only[zaF,zab] at e;obtain⟨d,h1,e1,e2⟩:=e
  have hh:h1=h:=by
   cases r with|d x=>simp only[rd,zac] at e1;exact e1.2.symm|loc l=>exact(zey e1).choose_spec.2.2.2
  subst hh
  cases d with|tup xs=>exact ih xs env env' _ h' e2|_=>cases e2
 ·intro xs env env' h h' e
  cases xs with|nil=>simp only[bindTs,zac] at e;exact e.2.symm|cons _ _=>exact zad e
 ·intro t ts iht ihts xs env env' h h' e
  cases xs with
  |nil=>exact zad e
  |cons x xs=>
   simp only[bindTs,zab] at e;obtain⟨env1,h1,e1,e2⟩:=e
   have:=iht _ _ _ _ _ e1
   subst this;exact ihts _ _ _ _ _ e2
theorem zbH:∀(ts:List Tg) (xs:List D) (env env':IT.Env) (h h':Sto),bindTs ts xs env h=some (env',h')->xs.length=ts.length| [],[],_,_,_,_,_=>rfl| [],_::_,_,_,_,_,e=>by exact zad e|_::_,[],_,_,_,_,e=>by exact zad e|t::ts,x::xs,env,env',h,h',e=>by simp only[bindTs,zab] at e;obtain⟨env1,h2,e3,e4⟩:=e;simp only[Zz];rw[zbH ts xs env1 env' h2 h' e4]
theorem zl6(h1:PG X e (tG X.K t))(h2:PGs X es (tGs X.K ts))(hs:(Zt (e::es) X.env).map (·.2)=assign e X.env::(Zt es X.env).map (·.2)):PGs X (e::es) (tGs X.K (t::ts)):=by
 refine PGs.imp (zfh h1 h2 hs) λvs σ H Q q_=>?_;obtain⟨μ,h,env,xs,env',R0,re,qx,e,k⟩:=q_
 cases xs with
 |nil=>exact zad e
 |cons x xs=>
  simp only[RepDs] at qx;obtain⟨v,r,rfl,q1,q2⟩:=qx;simp only[bindTs,zab] at e;obtain⟨env1,h1',e1,e2⟩:=e
  have:=zaQ _ _ _ _ _ _ e1
  subst this;refine⟨v,r,rfl,μ,_,env,.d x,env1,R0,re,q1,e1,λσ1 re1=>⟨μ,_,env1,xs,env',R0,re1,q2,e2,k⟩⟩
theorem zqz(hc:X.calm=true)(h:PGs X es (tGs X.K ts))(hl:es.length=ts.length)(hn:(Zt es X.env).length=es.length)(hst:(Zt es X.env).findIdx? (·.1)=none):PG X (.Tuple es n pos) (tG X.K (.tup ts)):=by
 refine PG.imp (znd (n:=es.length) hc h hn hst) λv σ H Q q_=>?_;obtain⟨μ,h,env,r,env',R0,re,qr,e,k⟩:=q_;simp only[zaF,zab] at e;obtain⟨d,h1,e1,e2⟩:=e;obtain⟨rfl,zd⟩:=za5 R0 qr e1
 cases d with|tup xs=>simp only[RdD,RepD] at zd;obtain⟨a,vs,rfl,q1,z1⟩:=zd;refine⟨a,vs,rfl,q1,?_,μ,_,env,xs,env',R0,re,z1,e2,k⟩;rw[<-z1.length,hl];exact zbH _ _ _ _ _ _ e2|_=>cases e2
def RepI(K:Z8)(μ:List Addr)(h:Sto)(H:Hp):Ite->V->Prop|.r r,v=>RepR K μ h H r v|.en i r,v=>∃p w,v=.ref p/\H p=some (.tup [.int i,w])/\RepR K μ h H r w
inductive tGI(K:Z8)(t:Tg)(v:V)(σ:St)(H:Hp)(Q:St->Hp->Prop):Prop where|mk (μ:List Addr) (h:Sto) (env:IT.Env) (x:Ite) (env':IT.Env) (R0:Rep K μ h H) (re:RepE K μ h H env σ) (qx:RepI K μ h H x v) (e:zan t x env h=some (env',h)) (k:∀σ',RepE K μ h H env' σ'->Q σ' H)
inductive tGe(K:Z8)(a b:Tg)(vs:List V)(σ:St)(H:Hp)(Q:St->Hp->Prop):Prop where|mk (μ:List Addr) (h:Sto) (env:IT.Env) (i:Int) (r:R) (w:V) (env1 env':IT.Env) (R0:Rep K μ h H) (re:RepE K μ h H env σ) (ev:vs=[.int i,w]) (qr:RepR K μ h H r w) (e1:zaF a (.d (.int i)) env h=some (env1,h)) (e2:zaF b r env1 h=some (env',h)) (k:∀σ',RepE K μ h H env' σ'->Q σ' H)
theorem zr1(ha:PG X ea (tG X.K a))(hb:PG X eb (tG X.K b))(h1:(Zt [ea,eb] X.env).map (·.2)=assign ea X.env::(Zt [eb] X.env).map (·.2))(h2:(Zt [eb] X.env).map (·.2)=assign eb X.env::(Zt [] X.env).map (·.2)):PGs X [ea,eb] (tGe X.K a b):=by refine PGs.imp (zfh ha (zfh hb zjZ h2) h1) λvs σ H Q q0=>?_;obtain⟨μ,h,env,i,r,w,env1,env',R0,re,rfl,qr,e1,e2,k⟩:=q0;exact⟨.int i,[w],rfl,μ,h,env,.d (.int i),env1,R0,re,by simp only[RepR,RepD],e1,λσ1 re1=>⟨w,[],rfl,μ,h,env1,r,env',R0,re1,qr,e2,λσ2 re2=>⟨rfl,k σ2 re2⟩⟩⟩
theorem zcn(e:zan t x env h=some (env',h')):h'=h:=by
 cases x with
 |r r=>rw[zan] at e;exact zaQ _ _ _ _ _ _ e
 | en i r=>
  match t,e with
  |.tup [a,b],e=>
   rw[zan,zab] at e;obtain⟨env1,h1,e1,e2⟩:=e
   have:=zaQ _ _ _ _ _ _ e1
   subst this;exact zaQ _ _ _ _ _ _ e2
  |.name _,e=>exact zad e|.tup [],e=>exact zad e|.tup [_],e=>exact zad e|.tup (_::_::_::_),e=>exact zad e
theorem zl0(hg:PG X e (tG X.K (.name i))):PG X e (tGI X.K (.name i)):=by
 refine PG.imp hg λv σ H Q q0=>?_;obtain⟨μ,h,env,x,env',R0,re,qx,eb,k⟩:=q0
 cases x with|r r=>exact⟨μ,h,env,r,env',R0,re,qx,by rw[zan] at eb;exact eb,k⟩|en i r=>exact zad eb
theorem zpf(hn:ts.length≠2)(hg:PG X e (tG X.K (.tup ts))):PG X e (tGI X.K (.tup ts)):=by
 refine PG.imp hg λv σ H Q q0=>?_;obtain⟨μ,h,env,x,env',R0,re,qx,eb,k⟩:=q0
 cases x with
 |r r=>exact⟨μ,h,env,r,env',R0,re,qx,by rw[zan] at eb;exact eb,k⟩
 |en i r=>
  match ts,hn,eb with| [],_,eb=>exact zad eb| [_],_,eb=>exact zad eb| [_,_],hn,_=>exact absurd rfl hn|_::_::_::_,_,eb=>exact zad eb
theorem znI(hc:X.calm=true)(hs:PGs X [ea,eb] (tGs X.K [a,b]))(he:PGs X [ea,eb] (tGe X.K a b))(hn:(Zt [ea,eb] X.env).length=2)(hst:(Zt [ea,eb] X.env).findIdx? (·.1)=none):PG X (.Tuple [ea,eb] n pos) (tGI X.K (.tup [a,b])):=by
 have both:PGs X [ea,eb] (λvs σ H Q=>tGs X.K [a,b] vs σ H Q\/tGe X.K a b vs σ H Q):=λpins s σ H v u Q I r q=>by
  rcases q with q | q
  ·exact hs pins s σ H v u Q I r q
  ·exact he pins s σ H v u Q I r q
 refine PG.imp (znd (n:=2) hc both hn hst) λv σ H Q q0=>?_;obtain⟨μ,h,env,x,env',R0,re,qx,eb,k⟩:=q0
 cases x with
 | r r=>
  rw[zan] at eb;simp only[zaF,zab] at eb;obtain⟨d,h1,e1,e2⟩:=eb;obtain⟨rfl,zd⟩:=za5 R0 qx e1
  cases d with|tup xs=>simp only[RdD,RepD] at zd;obtain⟨p,vs,rfl,q1,z1⟩:=zd;refine⟨p,vs,rfl,q1,?_,.inl ⟨μ,_,env,xs,env',R0,re,z1,e2,k⟩⟩;rw[<-z1.length];exact zbH _ _ _ _ _ _ e2|_=>cases e2
 |en i r=>
  obtain⟨p,w,rfl,hp,qr⟩:=qx;rw[zan,zab] at eb;obtain⟨env1,h1,e1,e2⟩:=eb
  have:=zaQ _ _ _ _ _ _ e1
  subst this;exact⟨p,[.int i,w],rfl,SqT.of hp,rfl,.inr ⟨μ,_,env,i,r,w,env1,env',R0,re,rfl,qr,e1,e2,k⟩⟩
end
structure Wlk(K:Z8)(J:L2.It)(w:Wk)(μ:List Addr)(h:Sto)(H:Hp):Prop where
 go:∀μ1 h1 H1 (i:Nat) x,Stp μ h H μ1 h1 H1->Rep K μ1 h1 H1->zaE w.l h h1=true->w.xs[i]?=some x->J.go i H1/\∀v H',J.yld i H1 v H'->Stp μ1 h1 H1 μ1 h1 H'/\Rep K μ1 h1 H'/\RepI K μ1 h1 H' x v
 stop:∀μ1 h1 H1,Stp μ h H μ1 h1 H1->Rep K μ1 h1 H1->zaE w.l h h1=true->J.stop w.xs.length H1
theorem zf5{xs:List D}{i:Nat}(e:(xs.map dI)[i]?=some x):∃d,xs[i]?=some d/\x=.r (.d d):=by rw[Zs,ZW] at e;obtain⟨d,e1,e2⟩:=e;exact⟨d,e1,e2.symm⟩
section
variable {K:Z8}{μ:List Addr}{h:Sto}{H:Hp}
theorem zhB{a:Addr}{xs:List D}(R0:Rep K μ h H)(q:LsR K (Live μ h) H a vs)(z:RepDs K (Live μ h) H xs vs):Wlk K (Itl K a) ⟨xs.map dI,none⟩ μ h H:=by
 refine⟨λμ1 h1 H1 i x st R1 _ e=>?_,λμ1 h1 H1 st R1 _=>?_⟩
 ·obtain ⟨d,ed,rfl⟩:=zf5 e
  have q1:=st.lsR q;have z1:=RepDs.stp st R0 z;obtain⟨v,e1,z2⟩:=z1.get ed;refine⟨⟨vs,v,q1.sq,e1⟩,λv' H' q_=>?_⟩;obtain⟨hH,hv⟩:=q_;subst hH
  have:=hv vs q1.sq
  rw[e1] at this;cases this;exact⟨Stp.refl,R1,z2⟩
 ·exact⟨vs,(st.lsR q).sq,by rw[Z1,<-z.length];exact ZX _⟩
theorem zon{a:Addr}{xs:List D}(R0:Rep K μ h H)(q:SqT K H a vs)(z:RepDs K (Live μ h) H xs vs):Wlk K (Itt K a) ⟨xs.map dI,none⟩ μ h H:=by
 have qs:∀μ1 h1 H1,Stp μ h H μ1 h1 H1->SqT K H1 a vs:=λμ1 h1 H1 st=>q.imp (st.rdT R0 a vs) λz=>z;refine⟨λμ1 h1 H1 i x st R1 _ e=>?_,λμ1 h1 H1 st R1 _=>?_⟩
 ·obtain ⟨d,ed,rfl⟩:=zf5 e
  have q1:=qs _ _ _ st;have z1:=RepDs.stp st R0 z;obtain⟨v,e1,z2⟩:=z1.get ed;refine⟨⟨vs,v,q1,e1⟩,λv' H' q_=>?_⟩;obtain⟨hH,hv⟩:=q_;subst hH
  have:=hv vs q1
  rw[e1] at this;cases this;exact⟨Stp.refl,R1,z2⟩
 ·exact⟨vs,qs _ _ _ st,by rw[Z1,<-z.length];exact ZX _⟩
theorem Ob.same_isL{o o':Ob}(s:o.same o'=true)(il:o.isL=true):o'.isL=true/\o'.items=o.items:=by
 cases o with|lst xs=>simp only[Ob.same,Z9] at s;exact⟨s.1,(D.sames_eq _ _ s.2).symm⟩|fro xs=>simp only[Ob.same,Z9] at s;exact⟨s.1,(D.sames_eq _ _ s.2).symm⟩|ins _ _=>cases il|ols _=>cases il|dic _=>cases il
theorem zfJ:∀{a b:List (D×D)},zbz a b=true->a=b| [],[],_=>rfl| [],_::_,h=>by cases h|_::_,[],h=>by cases h| (p1,p2)::r,(q1,q2)::t,h=>by simp only[zbz,Z9] at h;rw[D.same_eq _ _ h.1.1,D.same_eq _ _ h.1.2,zfJ h.2]
theorem zdw:∀a:List (D×D),zbz a a=true| []=>rfl|p::r=>by simp only[zbz,D.same_refl,zdw r,Bool.and_self]
theorem ze3(ho:h[l]?=some o)(s:zaE (some l) h h1=true):∃o',h1[l]?=some o'/\o.same o'=true:=by
 simp only[zaE,ho] at s
 cases q:h1[l]? with|none=>rw[q] at s;cases s|some o'=>rw[q] at s;exact⟨o',rfl,s⟩
theorem zli{a:Addr}{l:Nat}(R0:Rep K μ h H)(ea:μ[l]?=some a)(ho:h[l]?=some o)(il:o.isL=true):Wlk K (Itl K a) ⟨o.items.map dI,some l⟩ μ h H:=by
 refine⟨λμ1 h1 H1 i x st R1 sy e=>?_,λμ1 h1 H1 st R1 sy=>?_⟩
 ·obtain ⟨d,ed,rfl⟩:=zf5 e
  obtain⟨o',ho',eo⟩:=ze3 ho sy;obtain⟨il',eo⟩:=Ob.same_isL eo il;obtain⟨vs,q1,z1⟩:=R1.placeL (st.pre l a ea) ho' il';rw[eo] at z1;obtain⟨v,e1,z2⟩:=z1.get ed;refine⟨⟨vs,v,.inl (.inl q1),e1⟩,λv' H' q_=>?_⟩;obtain⟨hH,hv⟩:=q_;subst hH
  have:=hv vs (.inl (.inl q1))
  rw[e1] at this;cases this;exact⟨Stp.refl,R1,z2⟩
 ·obtain ⟨o',ho',eo⟩:=ze3 ho sy
  obtain⟨il',eo⟩:=Ob.same_isL eo il;obtain⟨vs,q1,z1⟩:=R1.placeL (st.pre l a ea) ho' il';rw[eo] at z1
  exact⟨vs,.inl (.inl q1),by rw[Z1,<-z1.length];exact ZX _⟩
theorem zd7{α β:Type}{F:α->β->Prop}:∀{xs:List α} {ys:List β} {i:Nat} {x:α},Paired F xs ys->xs[i]?=some x->∃y,ys[i]?=some y/\F x y|_,_,_,_,.nil,e=>by simp at e|_,_,0,_,.cons r _,e=>by simp at e;subst e;exact⟨_,rfl,r⟩|_,_,i+1,x,.cons _ t,e=>by obtain⟨y,h1,h2⟩:=zd7 (i:=i) (x:=x) t (by simpa using e);exact⟨y,by simpa using h1,h2⟩
theorem zjP{l:Nat}{ls:List Nat}(R0:Rep K μ h H)(ea:μ[l]?=some a)(ho:h[l]?=some (.ols ls)):Wlk K (Itl K a) ⟨ls.map λl=>.r (.loc l),some l⟩ μ h H:=by
 have at1:∀μ1 h1 H1,Stp μ h H μ1 h1 H1->Rep K μ1 h1 H1->zaE (some l) h h1=true->∃vs,H1 a=some (.lst vs)/\Paired (λ(l:Nat) (v:V)=>∃b,μ1[l]?=some b/\v=.ref b) ls vs:=by
  intro μ1 h1 H1 st R1 sy;obtain⟨o',ho',eo⟩:=ze3 ho sy
  cases o' with
  |ols ls'=>
   simp only[Ob.same] at eo
   have:=ZP eo
   subst this;exact R1.obj l a _ (st.pre l a ea) ho'
  |_=>cases eo
 refine⟨λμ1 h1 H1 i x st R1 sy e=>?_,λμ1 h1 H1 st R1 sy=>?_⟩
 ·rw [Zs,ZW] at e
  obtain⟨k,e,rfl⟩:=e;obtain⟨vs,q1,z1⟩:=at1 _ _ _ st R1 sy;obtain⟨v,e1,b,eb,rfl⟩:=zd7 z1 e;refine⟨⟨vs,.ref b,.inl (.inl q1),e1⟩,λv' H' q_=>?_⟩;obtain⟨hH,hv⟩:=q_;subst hH
  have:=hv vs (.inl (.inl q1))
  rw[e1] at this;cases this;exact⟨Stp.refl,R1,b,eb,rfl⟩
 ·obtain ⟨vs,q1,z1⟩:=at1 _ _ _ st R1 sy
  exact⟨vs,.inl (.inl q1),by rw[Z1,<-z1.length];exact ZX _⟩
theorem zf6:∀(n:Nat) (lo:Int) (i:Nat) (x:D),(zbg lo n)[i]?=some x->i<n/\x=.int (lo+i)
 |0,lo,i,x,e=>by simp[zbg] at e
 | n+1,lo,i,x,e=>by
  cases i with
  |zero=>simp[zbg] at e;exact⟨by omega,by rw[<-e];simp⟩
  |succ i=>
   simp only[zbg,XX] at e;obtain⟨h1,h2⟩:=zf6 n (lo+1) i x e;refine⟨by omega,?_⟩;rw[h2]
   congr 1
   push_cast
   omega
theorem zdf:∀(n:Nat) (lo:Int),(zbg lo n).length=n|0,_=>rfl|n+1,lo=>by simp[zbg,zdf n]
theorem zoC(lo:Int)(n:Nat):Wlk K (Itr lo n) ⟨(zbg lo n).map dI,none⟩ μ h H:=by
 refine⟨λμ1 h1 H1 i x st R1 _ e=>?_,λμ1 h1 H1 st R1 _=>?_⟩
 ·obtain ⟨d,ed,rfl⟩:=zf5 e
  obtain⟨h1',rfl⟩:=zf6 n lo i d ed
  exact⟨h1',λv H' ⟨hH,hv⟩=>by subst hH;exact⟨Stp.refl,R1,by rw[hv];simp only[RepI,RepR,RepD]⟩⟩
 ·show n<=((zbg lo n).map dI).length
  rw[Z1,zdf];exact ZX _
end
def Its(x:Str):L2.It:=⟨λi _=>i<x.cps.size,λi H v H'=>H'=H/\∃c,x.cps[i]?=some c/\v=.str ⟨#[c]⟩,λi _=>x.cps.size<=i⟩
theorem zpD{K:Z8}{μ:List Addr}(x:List Nat):Wlk K (Its (zaa x)) ⟨(x.map λc=>D.str [c]).map dI,none⟩ μ h H:=by
 refine⟨λμ1 h1 H1 i d st R1 _ e=>?_,λμ1 h1 H1 st R1 _=>?_⟩
 ·obtain ⟨d,ed,rfl⟩:=zf5 e
  simp only[Zs,ZW] at ed;obtain⟨c,hc,rfl⟩:=ed;refine⟨?_,λv H' ⟨hH,c',hc',hv⟩=>?_⟩
  ·show i<x.toArray.size
   simpa using(Z3.mp hc).1
  ·subst hH
   refine⟨Stp.refl,R1,?_⟩
   have e2:x[i]?=some c':=by simpa[zaa] using hc'
   rw[hc] at e2;cases e2;rw[hv];simp only[RepI,RepR,RepD];rfl
 ·show x.toArray.size<=_
  simp
theorem zlW(x:Str)(t:Tok)(it:Addr):Turn P w K tg (Its x) [it] it (λi h=>h.IsStrIter it (W3 x) x t i) where
 mem:=by simp
 obj:=λi h st b hb=>by
  have e:b=it:=by simpa using hb
  subst e;obtain⟨o,e,c,d⟩:=st
  exact⟨o,e,λv z=>by rw[d] at z;cases z⟩
 keep:=λi h h' st k=>by obtain⟨o,e,r⟩:=st;exact⟨o,k it (by simp) o e,r⟩
 item:=by
  intro X hP hw hK hc i pins s σ H E I hf st hg;subst hP hw hK;obtain⟨f0,f1,f2,f3,f4,f5⟩:=hf it (by simp);have hg':i<x.cps.size:=hg;obtain⟨c,hx⟩:∃c,x.cps[i]?=some c:=⟨x.cps[i]'hg',by simp⟩
  have go:∀h',h'.IsStrIter it (W3 x) x t (i+1)->Wx it s.heap h'->∃u,some (Y1 ⟨#[c]⟩ s.toks)=some u ∧
    wpAny (model X.prog X.w) X.A (Xf tg (.ref it) u) (λ_ s2=>∃x' H',Inv X pins σ H' s2/\RelV x' u/\(Its x).yld i H x' H'/\s2.heap.IsStrIter it (W3 x) x t (i+1)/\∀b∈[it],H' b=none) E {s with heap:=h',toks:=s.toks+1}:=by
   intro h' st' sb;have I1:Inv X pins σ H {s with heap:=h',toks:=s.toks+1}:=I.turned (t':=s.toks+1) (λb o hb e=>(sb.2 b hb).trans e) f0 f1 f3 f4 f5;obtain⟨o,e,cl,d⟩:=id st';refine⟨_,rfl,zmt (s:={s with heap:=h',toks:=s.toks+1}) e cl d ?_ ⟨.str ⟨#[c]⟩,H,I1,⟨_,rfl⟩,⟨rfl,_,hx,rfl⟩,st',λb hb=>(hf b hb).1⟩⟩;unfold W3
   split<;>decide
  unfold W3 at st go⊢
  split at st
  ·rename_i ha
   simp only[ha,if_true] at go⊢;exact wpAny_pyNext_ascii_item st hx go
  ·rename_i ha
   simp only[ha] at go⊢;exact wpAny_pyNext_wide_item st hx go
 done:=by
  intro X hP hw hK hc i pins s σ H E I hf st hg;subst hP hw hK;obtain⟨f0,f1,f2,f3,f4,f5⟩:=hf it (by simp)
  have hx:x.cps[i]?=none:=by
   have hg':x.cps.size<=i:=hg
   simp;omega
  unfold W3 at st
  split at st
  ·exact wpAny_pyNext_ascii_end (I.ok.hd hc) st hx λh' eb=>⟨rfl,I.turned (t':=s.toks) (λb o hb e=>eb b o hb e) f0 f1 f3 f4 f5⟩
  ·exact wpAny_pyNext_wide_end (I.ok.hd hc) st hx λh' eb=>⟨rfl,I.turned (t':=s.toks) (λb o hb e=>eb b o hb e) f0 f1 f3 f4 f5⟩
 self:=λ_ _ _ _ _ st h=>by
  unfold W3 at st
  split at st
  ·exact wpAny_pyIter_striter_ascii st h
  ·exact wpAny_pyIter_striter_wide st h
inductive tI(K:Z8)(f:IT.Env->M Wk)(σ:St)(H:Hp)(R:It->Hp->Prop):Prop where|mk (μ:List Addr) (h:Sto) (env:IT.Env) (R0:Rep K μ h H) (re:RepE K μ h H env σ) (w:Wk) (h':Sto) (e:f env h=some (w,h')) (k:∀μ' H' J,Stp μ h H μ' h' H'->Rep K μ' h' H'->Wlk K J w μ' h' H'->w.xs.length<=sizeLine->R J H')
section
variable {X:Cx}{tg:Expr}
theorem PI.imp(h:PI X tg l t)(i:∀σ H R,t' σ H R->t σ H R):PI X tg l t':=λpins s σ H R I q=>h pins s σ H R I (i σ H R q)
theorem zrN(hl:PE X l tl):PI X tg l (λσ H R=>tl σ H λx H1=>(∃a xs,x=.ref a/\SqL X.K H1 a xs/\(xs.length<=sizeLine->R (Itl X.K a) H1))\/(∃a xs,x=.ref a/\SqT X.K H1 a xs/\(xs.length<=sizeLine->R (Itt X.K a) H1))\/(∃z:Str,x=.str z/\R (Its z) H1)):=by
 intro pins s σ H R I h;refine thn (hl pins s σ H _ I h) λv s1 q_=>?_;obtain⟨x,H1,I1,r1,q1⟩:=q_
 rcases q1 with⟨a,xs,e,hq,q⟩|⟨a,xs,e,hq,q⟩|⟨z,e,q⟩
 ·subst e
  cases r1;obtain⟨its,rv,p,hz⟩:=I1.list hq;refine WW p.isList ?_;refine⟨s1.heap.objs.size,[s1.heap.objs.size],_,_,H1,rfl,I1.kept (t':=s1.toks) λb o e=>Z4 _ e,zjA a _,⟨_,ZC _ rfl,rfl,rfl⟩,λb hb=>?_,q hz⟩
  have e:b=s1.heap.objs.size:=by simpa using hb
  subst e;exact I1.fpOk (ZX _) (I1.hok.fresh (ZX _))
 ·subst e
  cases r1;obtain⟨its,rv,p,hz⟩:=I1.tuple hq;refine wpAny_pyIter_tuple (show s1.heap.IsTuple a its.toArray from p) ?_;refine⟨s1.heap.objs.size,[s1.heap.objs.size],_,_,H1,rfl,I1.kept (t':=s1.toks) λb o e=>Z4 _ e,ziW a _,⟨_,ZC _ rfl,rfl,rfl⟩,λb hb=>?_,q hz⟩
  have e:b=s1.heap.objs.size:=by simpa using hb
  subst e;exact I1.fpOk (ZX _) (I1.hok.fresh (ZX _))
 ·subst e
  obtain⟨t,rfl⟩:=(show ∃t',v=Y1 z t' from r1);refine wpAny_pyIter_strU ?_;refine⟨s1.heap.objs.size,[s1.heap.objs.size],_,_,H1,rfl,I1.kept (t':=s1.toks) λb o e=>Z4 _ e,zlW z t _,⟨_,ZC _ rfl,rfl,rfl⟩,λb hb=>?_,q⟩
  have e:b=s1.heap.objs.size:=by simpa using hb
  subst e;exact I1.fpOk (ZX _) (I1.hok.fresh (ZX _))
theorem zcA(e:zcW r h=some (o,h')):h'=h/\match o with
  |some ls=>∃l,r=.loc l/\h[l]?=some (.ols ls)
  |none=>True:=by
 cases r with
 |d x=>simp only[zcW,Z6,ZS] at e;obtain⟨rfl,rfl⟩:=e;exact⟨rfl,trivial⟩
 | loc l=>
  (delta zcW at e;(try dsimp only at e))
  split at e
  ·rename_i ls hl
   simp only[Z6,ZS] at e;obtain⟨rfl,rfl⟩:=e;exact⟨rfl,l,rfl,hl⟩
  ·simp only[Z6,ZS] at e
   obtain⟨rfl,rfl⟩:=e;exact⟨rfl,trivial⟩
def WkIs(K:Z8)(v:V)(w:Wk)(μ:List Addr)(h:Sto)(H:Hp):Prop:=(∃a vs,v=.ref a/\SqL K H a vs/\vs.length=w.xs.length/\Wlk K (Itl K a) w μ h H)\/(∃a vs,v=.ref a/\SqT K H a vs/\vs.length=w.xs.length/\Wlk K (Itt K a) w μ h H)\/(∃z:Str,v=.str z/\w.xs.length<=sizeLine/\Wlk K (Its z) w μ h H)
theorem zsG(R1:Rep K μ h H)(q1:RepR K μ h H r v)(e:zaP r h=some (w,h')):h'=h/\WkIs K v w μ h H:=by
 (delta zaP at e;simp only[zab] at e)
 obtain⟨o,h1,e1,e2⟩:=e;obtain⟨rfl,ho⟩:=zcA e1
 cases o with
 |some ls=>
  obtain⟨l,rfl,ho⟩:=ho;obtain⟨a,ea,rfl⟩:=q1;simp only[zac] at e2;obtain⟨rfl,rfl⟩:=e2;obtain⟨vs,q2,z2⟩:=R1.obj l a _ ea ho
  exact⟨rfl,.inl ⟨a,vs,rfl,.inl (.inl q2),by rw[Z1];exact z2.length.symm,zjP R1 ea ho⟩⟩
 | none=>
  simp only[zab] at e2;obtain⟨d,h2,e3,e4⟩:=e2
  cases r with
  |loc l=>
   obtain⟨a,ea,rfl⟩:=q1;obtain⟨o,ho,il,rfl,rfl⟩:=zey e3;obtain⟨vs,q2,z2⟩:=R1.placeL ea ho il
   (delta wkOf items at e4;(try dsimp only at e4);simp only[zac] at e4)
   obtain⟨rfl,rfl⟩:=e4
   exact⟨rfl,.inl ⟨a,vs,rfl,.inl (.inl q2),by rw[Z1];exact z2.length.symm,zli R1 ea ho il⟩⟩
  | d x=>
   simp only[rd,zac] at e3;obtain⟨rfl,rfl⟩:=e3
   cases x with
   |tup xs=>
    (delta wkOf items at e4;(try dsimp only at e4);simp only[zac] at e4)
    obtain⟨rfl,rfl⟩:=e4;simp only[RepR,RepD] at q1;obtain⟨a,vs,rfl,q2,z2⟩:=q1
    exact⟨rfl,.inr (.inl ⟨a,vs,rfl,q2,by rw[Z1];exact z2.length.symm,zon R1 q2 z2⟩)⟩
   |lst xs=>
    (delta wkOf items at e4;(try dsimp only at e4);simp only[zac] at e4)
    obtain⟨rfl,rfl⟩:=e4;simp only[RepR,RepD] at q1;obtain⟨a,vs,rfl,q2,z2⟩:=q1
    exact⟨rfl,.inl ⟨a,vs,rfl,q2.sq,by rw[Z1];exact z2.length.symm,zhB R1 q2 z2⟩⟩
   | str xs=>
    (delta wkOf items at e4;(try dsimp only at e4))
    split at e4
    ·rename_i hf
     obtain⟨rfl,rfl⟩:=zac.mp e4;simp only[RepR,RepD] at q1;subst q1
     exact⟨rfl,.inr (.inr ⟨zaa xs,rfl,by rw[Z1,Z1];exact of_decide_eq_true hf,zpD xs⟩)⟩
    ·cases e4
   |_=>exact zad e4
theorem zqs(hl:IE X l f):PI X tg l (tI X.K λσ=>bnd (f σ) λr=>zaP r):=by
 refine PI.imp (zrN hl) λσ H R q0=>?_;obtain⟨μ,h,env,R0,re,w,h',e,k⟩:=q0;simp only[zab] at e;obtain⟨r,h1,e1,e2⟩:=e;refine⟨μ,h,env,R0,re,r,h1,e1,λμ1 H1 v s1 R1 q1=>?_⟩;obtain⟨rfl,W⟩:=zsG R1 q1 e2
 rcases W with⟨a,vs,rfl,q2,hl,W⟩|⟨a,vs,rfl,q2,hl,W⟩|⟨z,rfl,hz,W⟩
 ·exact .inl ⟨a,vs,rfl,q2,λhz=>k μ1 H1 _ s1 R1 W (by rw[<-hl];exact hz)⟩
 ·exact .inr (.inl ⟨a,vs,rfl,q2,λhz=>k μ1 H1 _ s1 R1 W (by rw[<-hl];exact hz)⟩)
 ·exact .inr (.inr ⟨z,rfl,k μ1 H1 _ s1 R1 W hz⟩)
theorem zqj(hg:Gl X "range")(hm:X.mg "range"=none)(ha:IE X e f)(hs:ZT [e] X.env=[(false,eval e X.env)]):PI X tg (.Call (.Name "range" p) [e] [] pos) (tI X.K λσ=>bnd (f σ) λr=>zft r):=by
 refine PI.imp (zk4 hg hm (zat ha zaW hs) hs) λσ H R q0=>?_;obtain⟨μ,h,env,R0,re,w,h',e,k⟩:=q0;simp only[zab] at e;obtain⟨r,h1,e1,e2⟩:=e;refine⟨μ,h,env,R0,re,r,h1,e1,λμ1 H1 v s1 R1 q1=>?_⟩
 (delta zft at e2;(try dsimp only at e2))
 split at e2
 ·rename_i n
  split at e2
  ·rename_i hb
   rw[Z9] at hb;obtain⟨rfl,rfl⟩:=zac.mp e2;simp only[RepR,RepD] at q1;have h3:n<=16777216:=of_decide_eq_true hb.2
   exact⟨n,by rw[q1],of_decide_eq_true hb.1,by omega,k μ1 H1 _ s1 R1 (zoC 0 n.toNat) (by show((zbg 0 n.toNat).map dI).length<=sizeLine;rw[Z1,zdf];show n.toNat<=16777216;omega)⟩
  ·cases e2
 ·cases e2
def zsH(K:Z8)(μ:List Addr)(h:Sto)(D:Ends)(fl:Fl)(σ:St)(H:Hp):Prop:=match fl with|.nx=>D.nx σ H|.brk=>D.bk σ H|.cnt=>D.ct σ H|.ret r=>∀v,RepR K μ h H r v->D.rt v H
inductive tS(K:Z8)(f:IT.Env->M (Fl×IT.Env))(D:Ends)(σ:St)(H:Hp):Prop where|mk (μ:List Addr) (h:Sto) (env:IT.Env) (R0:Rep K μ h H) (re:RepE K μ h H env σ) (fl:Fl) (env':IT.Env) (h':Sto) (e:f env h=some ((fl,env'),h')) (k:∀μ' H' σ',Stp μ h H μ' h' H'->Rep K μ' h' H'->RepE K μ' h' H' env' σ'->zsH K μ' h' D fl σ' H')
theorem PS.imp(h:PS X st t)(i:∀D σ H,t' D σ H->t D σ H):PS X st t':=λpins s σ H D I q=>h pins s σ H D I (i D σ H q)
theorem PSs.imp(h:PSs X st t)(i:∀D σ H,t' D σ H->t D σ H):PSs X st t':=λpins s σ H D I q=>h pins s σ H D I (i D σ H q)
theorem zmZ(he:IE X e f):PS X (.Return (some e) pos) (tS X.K λσ=>bnd (f σ) λr=>ok (.ret r,σ)):=by refine PS.imp (zhX he) λD σ H q0=>?_;obtain⟨μ,h,env,R0,re,fl,env',h',e,k⟩:=q0;simp only[zab,zac,ZS] at e;obtain⟨r,h1,e1,⟨rfl,rfl⟩,rfl⟩:=e;exact⟨μ,h,env,R0,re,r,h1,e1,λμ1 H1 v s1 R1 q1=>k μ1 H1 σ s1 R1 (re.stp s1 R0) v q1⟩
theorem zro(he:IE X e f)(hs:W7 e none pos.line X.env=pure false):PS X (.Expr e pos) (tS X.K λσ=>bnd (f σ) λ_=>ok (.nx,σ)):=by refine PS.imp (zgS he hs) λD σ H q0=>?_;obtain⟨μ,h,env,R0,re,fl,env',h',e,k⟩:=q0;simp only[zab,zac,ZS] at e;obtain⟨r,h1,e1,⟨rfl,rfl⟩,rfl⟩:=e;exact⟨μ,h,env,R0,re,r,h1,e1,λμ1 H1 v s1 R1 q1=>k μ1 H1 σ s1 R1 (re.stp s1 R0)⟩
theorem zm3(he:IE X e f)(hg:PG X tge (tG X.K t))(hs:Xo [tge] e pos.line X.env=pure false)(hw:Xn [tge] e X.env=pure none)(h1:(Zt [tge] X.env).map (·.2)=[assign tge X.env]):
  PS X (.Assign [tge] e pos) (tS X.K λσ=>bnd (f σ) λr=>bnd (zaF t r σ) λσ'=>ok (.nx,σ')):=by
 refine PS.imp (zhH he hg hs hw h1) λD σ H q0=>?_;obtain⟨μ,h,env,R0,re,fl,env',h',e,k⟩:=q0;simp only[zab,zac,ZS] at e;obtain⟨r,h1,e1,env1,h2,e2,⟨rfl,rfl⟩,rfl⟩:=e
 have:=zaQ _ _ _ _ _ _ e2
 subst this;exact⟨μ,h,env,R0,re,r,_,e1,λμ1 H1 v s1 R1 q1=>⟨μ1,_,env,r,env1,R1,re.stp s1 R0,q1,e2,λσ' re'=>k μ1 H1 σ' s1 R1 re'⟩⟩
theorem znY(he:IE X e f)(ho:IE X o g)(hi:IE X i k)
  (ha:∀v,assign (.Subscript o i p2) X.env v=(do let ov<-holding [v] (eval o X.env);let iv<-holding [v,ov] (eval i X.env);Ww p2;holding [v,ov,iv] (setItem ov iv v);release [v,ov,iv] []))
  (hs:Xo [.Subscript o i p2] e pos.line X.env=pure false) (hw:Xn [.Subscript o i p2] e X.env=pure none) (h1:(Zt [.Subscript o i p2] X.env).map (·.2)=[assign (.Subscript o i p2) X.env]):
  PS X (.Assign [.Subscript o i p2] e pos) (tS X.K λσ=>bnd (f σ) λr=>bnd (g σ) λx=>bnd (k σ) λy=>bnd (fz r) λd=>bnd (rd y) λy=>bnd (zdU x y d) λ_=>ok (.nx,σ)):=by
 refine PS.imp (zhH he (znl ho hi zlx ha) hs hw h1) λD σ H q0=>?_;obtain⟨μ,h,env,R0,re,fl,env',h',e,kk⟩:=q0;simp only[zab,zac,ZS] at e;obtain⟨r,h1,e1,x,h2,e2,y,h3,e3,d,h4,e4,dy,h5,e5,_,h6,e6,⟨rfl,rfl⟩,rfl⟩:=e;refine⟨μ,h,env,R0,re,r,h1,e1,λμ1 H1 v s1 R1 q1=>⟨μ1,h1,env,R1,re.stp s1 R0,x,h2,e2,λμ2 H2 u s2 R2 q2=>⟨μ2,h2,env,R2,re.stp (s1.trans s2) R0,y,h3,e3,λμ3 H3 w s3 R3 q3=>?_⟩⟩⟩;obtain⟨s4,R4,zd⟩:=zj0 R3 ((q1.stp s2 R1).stp s3 R2) e4;obtain⟨rfl,zy⟩:=za5 R4 (q3.stp s4 R3) e5
 (delta zdU at e6;(try dsimp only at e6))
 split at e6
 ·rename_i l k'
  obtain⟨a,ea,rfl⟩:=(q2.stp s3 R2).stp s4 R3
  split at e6
  ·rename_i xs hx
   split at e6
   ·rename_i j hj
    simp only[Z6,ZS] at e6;obtain⟨_,rfl⟩:=e6;obtain⟨vs4,hH4,z4⟩:=R4.placeL ea hx rfl;simp only[RdD,RepD] at zy
    refine⟨a,vs4,k',j,rfl,zy,hH4,by rw[<-z4.length];exact hj,?_⟩
    obtain⟨s5,R5⟩:=write R4 ea hx (z4.set zd j);exact kk μ3 _ σ ((((s1.trans s2).trans s3).trans s4).trans s5) R5 (re.stp ((((s1.trans s2).trans s3).trans s4).trans s5) R0)
   ·cases e6
  ·cases e6
 ·cases e6
theorem zse(hc:IT' X c ft)(ha:PSs X a (tS X.K fa))(hb:PSs X b (tS X.K fb)):
  PS X (.If c a b pos) (tS X.K λσ=>bnd (ft σ) λt=>if t then fa σ else fb σ):=by
 refine PS.imp (zq0 hc ha hb) λD σ H q0=>?_;obtain⟨μ,h,env,R0,re,fl,env',h',e,k⟩:=q0;simp only[zab] at e;obtain⟨t,h1,e1,e2⟩:=e;refine⟨μ,h,env,R0,re,t,h1,e1,λμ1 H1 v s1 R1 hv=>?_⟩;subst hv
 cases t with|true=>simp only[if_true] at e2⊢;exact⟨μ1,h1,env,R1,re.stp s1 R0,fl,env',h',e2,λμ2 H2 σ2 s2 R2 q2=>k μ2 H2 σ2 (s1.trans s2) R2 q2⟩|false=>simp only[ZM,if_false] at e2⊢;exact⟨μ1,h1,env,R1,re.stp s1 R0,fl,env',h',e2,λμ2 H2 σ2 s2 R2 q2=>k μ2 H2 σ2 (s1.trans s2) R2 q2⟩
theorem zks:PSs X [] (tS X.K λσ=>ok (.nx,σ)):=by refine PSs.imp zlp λD σ H q0=>?_;obtain⟨μ,h,env,R0,re,fl,env',h',e,k⟩:=q0;simp only[zac,ZS] at e;obtain⟨⟨rfl,rfl⟩,rfl⟩:=e;exact k μ H σ Stp.refl R0 re
theorem zeM(h1:PS X st (tS X.K f))(h2:PSs X sts (tS X.K g)):PSs X (st::sts) (tS X.K λσ=>bnd (f σ) λp=>match p.1 with | .nx=>g p.2 | _=>ok p):=by
 refine PSs.imp (zcZ h1 h2) λD σ H q0=>?_;obtain⟨μ,h,env,R0,re,fl,env',h',e,k⟩:=q0;simp only[zab] at e;obtain⟨⟨fl1,env1⟩,h1,e1,e2⟩:=e;refine⟨μ,h,env,R0,re,fl1,env1,h1,e1,λμ1 H1 σ1 s1 R1 q1=>?_⟩
 cases fl1 with|nx=>exact⟨μ1,h1,env1,R1,q1,fl,env',h',e2,λμ2 H2 σ2 s2 R2 q2=>k μ2 H2 σ2 (s1.trans s2) R2 q2⟩|brk=>simp only[zac,ZS] at e2;obtain⟨⟨rfl,rfl⟩,rfl⟩:=e2;exact k μ1 H1 σ1 s1 R1 q1|cnt=>simp only[zac,ZS] at e2;obtain⟨⟨rfl,rfl⟩,rfl⟩:=e2;exact k μ1 H1 σ1 s1 R1 q1|ret r=>simp only[zac,ZS] at e2;obtain⟨⟨rfl,rfl⟩,rfl⟩:=e2;exact k μ1 H1 σ1 s1 R1 q1
theorem Ob.same_refl{o:Ob}(n:∀c fs,o≠.ins c fs):o.same o=true:=by
 cases o with|lst xs=>simp only[Ob.same,Ob.isL,Ob.items,Yl];exact D.sames_refl _|fro xs=>simp only[Ob.same,Ob.isL,Ob.items,Yl];exact D.sames_refl _|ins c fs=>exact absurd rfl (n c fs)|ols ls=>simp only[Ob.same,beq_self_eq_true]|dic kvs=>exact zdw kvs
theorem Ob.same_trans{a b c:Ob}(h1:a.same b=true)(h2:b.same c=true):a.same c=true:=by
 cases a with
 |ins _ _=>cases h1
 |dic ls=>
  cases b with|dic ls'=>have:=zfJ (show zbz ls ls'=true from h1);subst this;exact h2|_=>cases h1
 |ols ls=>
  cases b with|ols ls'=>simp only[Ob.same] at h1;have:=ZP h1;subst this;exact h2|_=>cases h1
 |lst xs=>obtain⟨i1,e1⟩:=Ob.same_isL h1 rfl;obtain⟨i2,e2⟩:=Ob.same_isL h2 i1;simp only[Ob.same,i2,Yl];rw[e2,e1];exact D.sames_refl _|fro xs=>obtain⟨i1,e1⟩:=Ob.same_isL h1 rfl;obtain⟨i2,e2⟩:=Ob.same_isL h2 i1;simp only[Ob.same,i2,Yl];rw[e2,e1];exact D.sames_refl _
def WlOk(w:Wk)(h:Sto):Prop:=∀i,w.l=some i->∃o,h[i]?=some o/\∀c fs,o≠.ins c fs
theorem zcJ(l:Option Nat)(h:Sto)(hl:∀i,l=some i->∃o,h[i]?=some o/\∀c fs,o≠.ins c fs):zaE l h h=true:=by
 cases l with|none=>rfl|some i=>obtain⟨o,ho,n⟩:=hl i rfl;simp only[zaE,ho];exact Ob.same_refl n
theorem zaH(a:zaE l h h1=true)(b:zaE l h1 h2=true):zaE l h h2=true:=by
 cases l with
 |none=>rfl
 | some i=>
  simp only[zaE] at a b⊢
  cases e0:h[i]? with
  |none=>rw[e0] at a;cases a
  | some o0=>
   cases e1:h1[i]? with
   |none=>rw[e0,e1] at a;cases a
   | some o1=>
    cases e2:h2[i]? with|none=>rw[e1,e2] at b;cases b|some o2=>rw[e0,e1] at a;rw[e1,e2] at b;exact Ob.same_trans a b
theorem zrL(hp:V4 (model X.prog X.w) X.A X.env X.xe)(hc:X.calm=true)(hi:PI X tg iter (tI X.K fi))(hg:PG X tg (tGI X.K t))(hb:PSs X body (tS X.K fb))
  (hs:∀x,Yt iter X.env x=pure x) (hwl:∀σ h w h',fi σ h=some (w,h')->WlOk w h'):
  PS X (.For tg iter body [] pos) (tS X.K λσ=>bnd (fi σ) λw=>loop w.l (λx σ=>bnd (zan t x σ) λσ'=>fb σ') w.xs σ):=by
 refine PS.imp (zm8 hp hc hi hg hb hs) λD σ H q0=>?_;obtain⟨μ,h,env,R0,re,fl,env',h',e,k⟩:=q0;simp only[zab] at e;obtain⟨w,h1,e1,e2⟩:=e;refine⟨μ,h,env,R0,re,w,h1,e1,λμ1 H1 J s1 R1 W1 _=>?_⟩
 refine ⟨λi m σ2 H2=>∃μ2 h2 env2,Stp μ1 h1 H1 μ2 h2 H2/\zaE w.l h1 h2=true/\Rep X.K μ2 h2 H2/\RepE X.K μ2 h2 H2 env2 σ2/\i+m=w.xs.length ∧
   loop w.l (λx σ=>bnd (zan t x σ) λσ'=>fb σ') (w.xs.drop i) env2 h2=some ((fl,env'),h'),⟨w.xs.length,μ1,h1,env,Stp.refl,zcJ _ _ (hwl _ _ _ _ e1),R1,re.stp s1 R0,by omega,by rw[Yh];exact e2⟩,?_⟩
 rintro i m σ2 H2 ⟨μ2,h2,env2,s2,sy2,R2,re2,him,el⟩
 cases hx:w.xs[i]? with
 |none=>
  have hi':w.xs.length<=i:=by simpa using hx
  have hi2:i=w.xs.length:=by omega
  subst hi2;rw[Yo (ZX _)] at el;simp only[loop,zac,ZS] at el;obtain⟨⟨rfl,rfl⟩,rfl⟩:=el;exact .inl ⟨W1.stop μ2 h2 H2 s2 R2 sy2,k μ2 H2 σ2 (s1.trans s2) R2 re2⟩
 | some x=>
  have hil:i<w.xs.length:=(Z3.mp hx).1
  have hdrop:w.xs.drop i=x::w.xs.drop (i+1):=by
   rw[Yd hil]
   have:=(Z3.mp hx).2
   rw[this]
  rw[hdrop] at el;simp only[loop] at el;obtain⟨go,yld⟩:=W1.go μ2 h2 H2 i x s2 R2 sy2 hx
  cases ef:bnd (zan t x env2) (λσ'=>fb σ') h2 with
  |none=>rw[ef] at el;cases el
  | some p=>
   obtain⟨⟨fl3,env3⟩,h3⟩:=p;rw[ef] at el;simp only[zab] at ef;obtain⟨env4,h4,e4,e5⟩:=ef
   have:=zcn e4
   subst this
   refine .inr ⟨go,λσ' H'=>∃m',m'<m/\∃μ5 h5 env5,Stp μ1 h1 H1 μ5 h5 H'/\zaE w.l h1 h5=true/\Rep X.K μ5 h5 H'/\RepE X.K μ5 h5 H' env5 σ'/\(i+1)+m'=w.xs.length ∧
    loop w.l (λx σ=>bnd (zan t x σ) λσ'=>fb σ') (w.xs.drop (i+1)) env5 h5=some ((fl,env'),h'),λσ' H' hN=>hN,λv H' hy=>?_⟩
   obtain⟨sy,Ry,zx⟩:=yld v H' hy;refine⟨μ2,_,env2,x,env4,Ry,re2.stp sy R2,zx,e4,λσ4 re4=>⟨μ2,_,env4,Ry,re4,fl3,env3,h3,e5,λμ5 H5 σ5 s5' R5 re5=>?_⟩⟩;have s5:=sy.trans s5'
   cases fl3 with
   | nx=>
    simp only at el
    split at el
    ·rename_i sy5
     exact⟨m-1,by omega,μ5,h3,env3,s2.trans s5,zaH sy2 sy5,R5,re5,by omega,el⟩
    ·cases el
   | cnt=>
    simp only at el
    split at el
    ·rename_i sy5
     exact⟨m-1,by omega,μ5,h3,env3,s2.trans s5,zaH sy2 sy5,R5,re5,by omega,el⟩
    ·cases el
   |brk=>simp only[Z6,ZS] at el;obtain⟨⟨rfl,rfl⟩,rfl⟩:=el;exact k μ5 H5 σ5 ((s1.trans s2).trans s5) R5 re5|ret r=>simp only[Z6,ZS] at el;obtain⟨⟨rfl,rfl⟩,rfl⟩:=el;exact k μ5 H5 σ5 ((s1.trans s2).trans s5) R5 re5
end
end IT
namespace PySem
section
variable {prog:ZH}{w:World}{A:Around}{R:Result->Shared->Prop}{s:Shared}
theorem zgE(I:Nat->Shared->Prop)
  (turn : ∀n s,I n s->wpAny (model prog w) A (pyNext it) (λr s₁=>match r with
   |none=>R (.ok .next) s₁
   | some v=>wpAny (model prog w) A (Xf target it v) (λ_ s₁'=>wpAny (model prog w) A (assign target env v) (λ_ s₂=>
     wpAny (model prog w) A (forIn ifs true λc r=>if r=true then do let ok<-isTrue c env (eval c env);pure (Ys ok) else pure (Ys r)) (λok s₃=>
      if ok=true then wpAny (model prog w) A (eval elt env) (λx s₄=>wpAny (model prog w) A (call (.builtin "list.append") [acc,x]) (λ_ s₅=>∃m,m<n/\I m s₅) (λ_ _=>False) s₄) (λ_ _=>False) s₃
      else ∃m,m<n/\I m s₃) (λ_ _=>False) s₂) (λ_ _=>False) s₁') (λ_ _=>False) s₁) (λ_ _=>False) s)
  (n:Nat) (h:I n s):
  XH (model prog w) A (.compLoop (.ListComp elt [⟨target,iter,ifs,0⟩] scope pos) 0 it acc env) R s:=by
 refine codeAny_loop rfl I (λn s hI=>?_) n h
 show wpAny _ A ((compTurn (.ListComp elt [⟨target,iter,ifs,0⟩] scope pos) 0 it acc env).onRaise (λx=>do VD x env;theTreesLotGoes x)) _ _ s
 refine wpAny_noted ?_;rw[compTurn_list];refine Z7 (XJ (Z7 (ZI (turn n s hI) (λr s₁ h₁=>?_) λ_ _ h'=>h'.elim)))
 cases r with
 |none=>exact ZY h₁
 | some v=>
  refine Z7 (ZI h₁ (λ_ s₁' h₁'=>?_) λ_ _ h'=>h'.elim);refine Z7 (ZI h₁' (λ_ s₂ h₂=>Z7 (ZI h₂ (λok s₃ h₃=>?_) λ_ _ h'=>h'.elim)) λ_ _ h'=>h'.elim)
  cases ok with|false=>exact ZY ⟨rfl,h₃⟩|true=>exact Z7 (Z7 (ZI h₃ (λx s₄ h₄=>Z7 (ZI h₄ (λ_ s₅ h₅=>ZY (ZY ⟨rfl,h₅⟩)) λ_ _ h'=>h'.elim)) λ_ _ h'=>h'.elim))
end
theorem zb7(h:∀x∈scope.names,x.2=.free->∃c,env.cells.lookup x.1=some c):
  ∃cl,closureFor scope env=pure cl/\(∀x c,cl.lookup x=some c->env.cells.lookup x=some c)/\∀x∈scope.names,x.2=.free->∃c,cl.lookup x.1=some c:=by
 unfold closureFor
 have gen:∀(l:List (Str×X0)) (cs:List (Str×Addr)),(∀x∈l,x.2=.free->∃c,env.cells.lookup x.1=some c)->(∀x c,cs.lookup x=some c->env.cells.lookup x=some c) →
   ∃ cl,(forIn l cs λ(x:Str×X0) (r:List (Str×Addr))=>(if x.2==.free then do let c<-cellOf env x.1;pure (Ys ((x.1,c)::r)) else pure (Ys r):Sem (ForInStep (List (Str×Addr)))))=pure cl ∧
    (∀x c,cl.lookup x=some c->env.cells.lookup x=some c)/\(∀x c,cs.lookup x=some c->∃c',cl.lookup x=some c')/\∀x∈l,x.2=.free->∃c,cl.lookup x.1=some c:=by
  intro l
  induction l with
  |nil=>intro cs _ h2;exact⟨cs,rfl,h2,λx c e=>⟨c,e⟩,λx hx=>absurd hx (by simp)⟩
  | cons y l ih=>
   intro cs h1 h2
   by_cases hy:y.2=.free
   ·obtain ⟨c,hc⟩:=h1 y (by simp) hy
    have hcell:cellOf env y.1=pure c:=by unfold cellOf;rw[hc]
    obtain ⟨cl,e,a1,a2,a3⟩:=ih ((y.1,c)::cs) (λx hx=>h1 x (by simp[hx])) (λx c' e=>by
     rw[ZD] at e
     split at e
     ·rename_i hb
      cases e;rw[ZP hb];exact hc
     ·exact h2 x c' e)
    refine⟨cl,?_,a1,λx c' e'=>?_,λx hx hf=>?_⟩
    ·rw [List.forIn_cons,if_pos (by rw[hy];rfl),hcell]
     exact e
    ·by_cases hb:(x==y.1)=true
     ·exact a2 x c (by rw[ZD,hb])
     ·exact a2 x c' (by rw[ZD];simp only[WS] at hb;rw[hb];exact e')
    ·rcases ZE.mp hx with rfl | hx
     ·exact a2 x.1 c (by rw[ZD];simp)
     ·exact a3 x hx hf
   ·obtain ⟨cl,e,a1,a2,a3⟩:=ih cs (λx hx=>h1 x (by simp[hx])) h2
    refine⟨cl,?_,a1,a2,λx hx hf=>?_⟩
    ·rw [List.forIn_cons,if_neg (by intro z;exact hy (ZP z))]
     exact e
    ·rcases ZE.mp hx with rfl | hx
     ·exact absurd hf hy
     ·exact a3 x hx hf
 obtain⟨cl,e,a1,_,a3⟩:=gen scope.names [] h (λx c e=>by simp at e);refine⟨cl,?_,a1,a3⟩
 show(forIn scope.names ([]:List (Str×Addr)) (λ(x:Str×X0) (r:List (Str×Addr))=>(if x.2==.free then do let c<-cellOf env x.1;pure (Ys ((x.1,c)::r)) else pure (Ys r):Sem (ForInStep (List (Str×Addr))))) >>= λcs=>pure cs)=pure cl
 rw[e];rfl
end PySem
namespace IT
open PySem PySem.Spec L2
def clrS:List Nat->St->St| [],σ=>σ|i::r,σ=>clrS r (σ.set i none)
theorem zeP:∀(own:List Nat) (σ:St),(clrS own σ).length=σ.length| [],_=>rfl|i::r,σ=>by simp[clrS,zeP r]
theorem zeE:∀(own:List Nat) (σ:St) (i:Nat) (v:V),(clrS own σ)[i]?=some (some v)->σ[i]?=some (some v)/\i∉own
 | [],σ,i,v,e=>⟨e,by simp⟩
 | j::r,σ,i,v,e=>by
  obtain⟨e1,n1⟩:=zeE r (σ.set j none) i v e
  by_cases hij:i=j
  ·subst hij
   rw[List.getElem?_set] at e1;simp only[if_true] at e1
   split at e1<;>cases e1
  ·rw [Zv (YZ hij)] at e1
   exact⟨e1,by simp[hij,n1]⟩
def blk(X:Cx)(N':List Str)(s₂:Shared)(H₂:Hp)(cenv:Yz)(fp:List Addr)(pins:List (Addr×Obj)):Cx:={X with N:=N',s₀:=s₂,H₀:=H₂,env:=cenv,outer:=X.stack,ex:=fp,fn:=λ_=>false,pn:=X.pn++pins}
def PTs(X:Cx)(ifs:List Expr)(t:TT):Prop:=
 ∀ (pins:List (Addr×Obj)) (s:Shared) (σ:St) (H:Hp) (Q:Bool->Hp->Prop),Inv X pins σ H s->t σ H Q →
  wpAny (model X.prog X.w) X.A (forIn ifs true λc r=>if r=true then do let ok<-isTrue c X.env (eval c X.env);pure (Ys ok) else pure (Ys r)) (TP X pins σ Q) X.xe s
theorem zoN:PTs X [] (λ_ H Q=>Q true H):=λpins s σ H Q I q=>wpAny_tests_nil ⟨H,I,q⟩
theorem zoP(h:PT X c t):PTs X [c] t:=λpins s σ H Q I q=>wpAny_tests_one (h pins s σ H Q I q)
def zhn(wi:TI)(own:List Nat)(g:TG)(tc:TT)(te:TE):TE:=λσ H Q=>wi σ H λJ H1=>∃W:Nat->Nat->List V->Hp->Prop,(∃m,W 0 m [] H1)/\∀i m vs H,W i m vs H →
 (J.stop i H/\vs.length<=sizeLine/\∀a,H a=none->Q (.ref a) (upd H a (.lst vs)))\/
 (J.go i H/\vs.length<sizeLine/\∀x H',J.yld i H x H'->g x (clrS own σ) H' λσ2 H2=>tc σ2 H2 λb H3=>if b=true then te σ2 H3 λv H4=>∃m',m'<m/\W (i+1) m' (vs++[v]) H4 else ∃m',m'<m/\W (i+1) m' vs H3)
section
variable {X:Cx}
theorem znv{cl:List (Str×Addr)}(hcell:∀y∈scope.names,y.2≠.cell)(hcl2:∀x∈scope.names,x.2=.free->∃c,cl.lookup x.1=some c):∀x,Vis (relabel scope X.env) x->(relabel scope X.env).names.lookup x≠some .local->∃c,cl.lookup x=some c:=by
 intro x hv hnl
 have : ∀(l:List (Str×X0)),(∀y∈l,y.2≠.cell)->(∀y∈l,y.2=.free->∃c,cl.lookup y.1=some c)->∀k,(k=.cell\/k=.free) →
   (l.map λ(n,k)=>if(k==WM&&X.env.scope.kind==.function&&X.env.kindOf n==some .cell) then(n,X0.cell) else(n,k)).lookup x=some k->∃c,cl.lookup x=some c:=by
  intro l
  induction l with
  |nil=>intro _ _ k _ e;simp at e
  | cons y l ih=>
   intro h1 h2 k hkk e;obtain⟨n,kd⟩:=y;rw[ZL] at e
   by_cases hb:(kd==WM&&X.env.scope.kind==.function&&X.env.kindOf n==some .cell)=true
   ·simp only[hb,if_true] at e
    rw[ZD] at e
    split at e
    ·rename_i hx
     rw[ZP hx];refine h2 (n,kd) (by simp) ?_;rw[Z9,Z9] at hb;exact ZP hb.1.1
    ·exact ih (λy hy=>h1 y (by simp[hy])) (λy hy=>h2 y (by simp[hy])) k hkk e
   ·simp only[hb] at e
    rw[ZD] at e
    split at e
    ·rename_i hx
     have e':kd=k:=by simpa using e
     subst e';rw[ZP hx]
     rcases hkk with z | z
     ·exact absurd z (h1 (n,kd) (by simp))
     ·exact h2 (n,kd) (by simp) z
    ·exact ih (λy hy=>h1 y (by simp[hy])) (λy hy=>h2 y (by simp[hy])) k hkk e
 rcases hv with z | z | z
 ·exact absurd z hnl
 ·exact this scope.names hcell hcl2 .cell (.inl rfl) z
 ·exact this scope.names hcell hcl2 .free (.inr rfl) z
theorem zoy{own:List Nat}{H₂:Hp}{s₂:Shared}{fp:List Addr}{h₄:Heap}{tk:Nat}
  (hkind:scope.kind=.function) (hcell:∀y∈scope.names,y.2≠.cell)
  (hN:∀(i:Nat) (x:Str),N'[i]?=some x->Vis (relabel scope X.env) x->i∈own\/(X.N[i]?=some x/\(X.env.kindOf x=some .cell\/X.env.kindOf x=some .free)/\(relabel scope X.env).names.lookup x≠some .local))
  (hlen:N'.length=X.N.length) (hcl1:∀x c,cl.lookup x=some c->X.env.cells.lookup x=some c) (hcl2:∀x∈scope.names,x.2=.free->∃c,cl.lookup x.1=some c)
  (I:Inv X pins σ H₂ s₂) (hf:∀b∈fp,FpOk X pins H₂ b) (hex:∀b∈fp,b<s₂.heap.objs.size)
  (hk:∀b o,s₂.heap.get? b=some o->h₄.get? b=some o) (hns:∃m,h₄.Ns (s₂.heap.objs.size+1) m) (hacc:h₄.get? s₂.heap.objs.size=some {cls:=.type "list",data:=.seq #[]}):
  Inv (blk X N' s₂ H₂ (YY scope cl (s₂.heap.objs.size+1) X.env) fp pins) [(s₂.heap.objs.size,{cls:=.type "list",data:=.seq #[]})] (clrS own σ) H₂ {s₂ with heap:=h₄,toks:=tk}:=by
 have fsub:∀b∈frs X.stack,b=X.env.locals\/b∈X.fs:=λb hb=>ZE.mp (I.stkSub b hb);have fresh:∀b,s₂.heap.objs.size<=b->H₂ b=none:=λb hb=>I.hok.fresh hb
 have flt:∀b∈frs X.stack,b<s₂.heap.objs.size:=λb hb=>by obtain⟨_,o,ho,_⟩:=I.stack.mem hb;exact ZU ho
 have vis_free:=znv (X:=X) hcell hcl2
 refine ⟨⟨I.ok.mod,?_,I.ok.glob,I.ok.blt,Xx _,λx y c e1 e2=>I.ok.inj x y c (hcl1 x c e1) (hcl1 y c e2),λx hx=>?_,λx c e=>absurd (show false=true from e) Y8,I.ok.hd,I.ok.frames,.inl rfl,λb hb=>⟨?_,λx c e=>?_⟩,I.bs,Zc I.ok.bsz I.sz,λb o e hb=>?_,λb hb hb2=>?_,I.stack,I.stkFree⟩,
  rfl,I.bare,Un.kept hk,?_,λx c e=>?_,fresh _ (Xx _),λx c e=>I.freeC x c (hcl1 x c e),λp hp=>?_,I.hok.kept hk,?_⟩
 ·exact hkind
 ·rcases hx with z | z
  ·exact vis_free x (.inr (.inl z)) (by
    have z':(relabel scope X.env).names.lookup x=some .cell:=z
    rw[z'];decide)
  ·exact vis_free x (.inr (.inr z)) (by
    have z':(relabel scope X.env).names.lookup x=some .free:=z
    rw[z'];decide)
 ·exact ZK (Y2 (hex b hb))
 ·exact(hf b hb).2.2.2.2.1 x c (hcl1 x c e)
 ·rcases (hf b hb).2.2.2.1 with z | z
  ·exact I.ok.noex b o e z
  ·have h1:b<X.base.objs.size:=ZU e
   have h2:=I.ok.bsz;exact absurd (ZF h1 (Zc h2 z)) (YH _)
 ·rcases fsub b hb2 with z | z
  ·exact(hf b hb).2.1 z
  ·exact(hf b hb).2.2.1 z
 ·obtain ⟨m,hm⟩:=hns
  obtain⟨mX,_,hl⟩:=I.loc;refine⟨m,hm,λi x v e1 e2 e3=>?_⟩;obtain⟨e2',ni⟩:=zeE own σ i v e2
  rcases hN i x e1 e3 with z|⟨z,zk,nl⟩
  ·exact absurd z ni
  ·have vx:Vis X.env.scope x:=by
    rcases zk with q | q
    ·exact .inr (.inl q)
    ·exact .inr (.inr q)
   obtain⟨u,ru,lk⟩:=hl i x v z e2' vx;refine⟨u,ru,?_⟩
   rcases lk with⟨q,_⟩|⟨_,c,ec,hcv⟩
   ·rcases zk with q' | q'
    ·rw[q] at q';cases q'
    ·rw[q] at q';cases q'
   ·obtain ⟨c',ec'⟩:=vis_free x e3 nl
    have:=hcl1 x c' ec'
    rw[ec] at this;cases this;refine .inr ⟨?_,c,ec',hcv.keeps hk⟩
    rcases e3 with q | q | q
    ·exact absurd q nl
    ·exact .inl q
    ·exact .inr q
 ·obtain ⟨v,q⟩:=I.cell x c (hcl1 x c e)
  exact⟨v,q.keeps hk⟩
 ·rcases Zu.mp hp with z | z
  ·obtain ⟨e1,e2,e3,e4,e5⟩:=I.pin p z
   refine⟨hk _ _ e1,e2,ZK (Y2 (ZU e1)),λhb=>?_,e5⟩
   rcases fsub p.1 hb with q | q
   ·exact e3 q
   ·exact e4 q
  ·have ep:p=(s₂.heap.objs.size,({cls:=.type "list",data:=.seq #[]}:Obj)):=by simpa using z
   subst ep;exact⟨hacc,fresh _ (ZX _),ZK (Xr _),λhb=>absurd (flt _ hb) (YH _),λv q=>by cases q⟩
 ·show (clrS own σ).length=N'.length
  rw[zeP,hlen];exact I.len
theorem zf8{own:List Nat}{σ σ':St}{H₂ H':Hp}{s₂ s':Shared}{fp:List Addr}
  (hcell:∀y∈scope.names,y.2≠.cell)
  (hN:∀(i:Nat) (x:Str),N'[i]?=some x->Vis (relabel scope X.env) x->i∈own\/(X.N[i]?=some x/\(X.env.kindOf x=some .cell\/X.env.kindOf x=some .free)/\(relabel scope X.env).names.lookup x≠some .local))
  (hlen:N'.length=X.N.length) (hcl1:∀x c,cl.lookup x=some c->X.env.cells.lookup x=some c) (hcl2:∀x∈scope.names,x.2=.free->∃c,cl.lookup x.1=some c)
  (I:Inv X pins σ H₂ s₂) (hf:∀b∈fp,FpOk X pins H₂ b) (J:Inv (blk X N' s₂ H₂ (YY scope cl C X.env) fp pins) pl σ' H' s'):Inv (blk X N' s₂ H₂ (YY scope cl C X.env) fp pins) pl (clrS own σ) H' s':=by
 refine⟨J.ok,J.os,J.bare,J.base,?_,J.cell,J.free,J.freeC,J.pin,J.hok,?_⟩
 ·obtain ⟨m,hm,_⟩:=J.loc
  obtain⟨mX,_,hl⟩:=I.loc;refine⟨m,hm,λi x v e1 e2 e3=>?_⟩;obtain⟨e2',ni⟩:=zeE own σ i v e2
  rcases hN i x e1 e3 with z|⟨z,zk,nl⟩
  ·exact absurd z ni
  ·have vx:Vis X.env.scope x:=by
    rcases zk with q | q
    ·exact .inr (.inl q)
    ·exact .inr (.inr q)
   obtain⟨u,ru,lk⟩:=hl i x v z e2' vx;refine⟨u,ru,?_⟩
   rcases lk with⟨q,_⟩|⟨_,c,ec,o,ho,hd⟩
   ·rcases zk with q' | q'
    ·rw[q] at q';cases q'
    ·rw[q] at q';cases q'
   ·obtain ⟨c',ec'⟩:=znv (X:=X) hcell hcl2 x e3 nl
    have:=hcl1 x c' ec'
    rw[ec] at this;cases this
    have hcv:s'.heap.IsCell c (some u):=by obtain⟨sl,q⟩:=J.base.any ho (I.freeC x c ec) λhb=>(hf c hb).2.2.2.2.1 x c ec rfl;exact⟨_,q,hd⟩
    refine .inr ⟨?_,c,ec',hcv⟩
    rcases e3 with q | q | q
    ·exact absurd q nl
    ·exact .inl q
    ·exact .inr q
 ·show (clrS own σ).length=N'.length
  rw[zeP,hlen];exact I.len
theorem zlS
  (I:Inv X pins σ H₂ s₂) (hf:∀b∈fp,FpOk X pins H₂ b) (J:Inv (blk X N' s₂ H₂ cenv fp pins) pl σ' H' s') (hacc:s₂.heap.objs.size<=acc) (hn:H' acc=none)
  (ho:s'.heap.get? acc=some {cls:=.type "list",data:=.seq its.toArray n}) (r:Vals vs its) (hz:vs.length<=sizeLine):Inv X pins σ (upd H' acc (.lst vs)) s':=by
 have lt:∀b o,s₂.heap.get? b=some o->b≠acc:=λb o e z=>absurd (ZF (ZU e) (by rw[z];exact hacc)) (YH _)
 refine I.call' (ch:=fp) J.os ⟨J.base.keep,J.base.slot,λb o e n hx=>?_,J.base.there,λb xs e=>?_,λb o u e=>?_,λb ps e=>?_⟩ (λb u e=>?_) J.bare (λb hb=>?_)
 ·rw [zah (lt b o e)]
  exact J.base.free b o e n hx
 ·have:=J.base.tups b xs e
  rw[zah (zak this hn)];exact this
 ·have:=J.base.frzs b o u e
  rw[zah (zak this hn)];exact this
 ·obtain ⟨more,this⟩:=J.base.tbls b ps e
  refine⟨more,?_⟩;rw[zah (zak this hn)];exact this
 ·by_cases hb:b=acc
  ·subst hb
   rw[zai] at e;cases e;exact⟨hz,its,n,r,ho⟩
  ·rw [zah hb] at e
   exact(J.hok b u e).stay (λc o _ q=>q) (λc q=>by rw[zah (zak q hn)];exact q) λc xs q=>by rw[zah (zak q hn)];exact q
 ·obtain ⟨_,h1,_,h3,h4,h5⟩:=hf b hb
  exact⟨h3,h1,h4,h5⟩
end
section
variable {X:Cx}
structure Gone(X:Cx)(pins:List (Addr×Obj))(H:Hp)(C:Addr)(s:Shared):Prop where
 ns:∃m,s.heap.Ns C m
 free:H C=none
 loc:C≠X.env.locals
 fs:C∉X.fs
 new:X.s₀.heap.objs.size<=C
 cel:∀x c,X.env.cells.lookup x=some c->c≠C
 pin:∀p∈X.pn++pins,p.1≠C
inductive CI(P:List Value->Nat->Hp->Shared->Prop)(tn:Nat->Heap->Prop)(fp:List Addr)(W:Nat->Nat->List V->Hp->Prop)(n:Nat)(s':Shared):Prop|mk (i:Nat) (vs:List V) (H':Hp) (its:List Value) (nn:Nat) (J:P its nn H' s') (st:tn i s'.heap) (fr:∀b∈fp,H' b=none) (rv:Vals vs its) (w:W i n vs H')
theorem zf4
  {cl:List (Str×Addr)} {RR:Value->Addr->Result->Shared->Prop}
  (hx:X.xe=λ_ _=>False) (hc:X.calm=true) (hkind:scope.kind=.function) (hcell:∀y∈scope.names,y.2≠.cell)
  (hN:∀(i:Nat) (x:Str),N'[i]?=some x->Vis (relabel scope X.env) x->i∈own\/(X.N[i]?=some x/\(X.env.kindOf x=some .cell\/X.env.kindOf x=some .free)/\(relabel scope X.env).names.lookup x≠some .local))
  (hlen:N'.length=X.N.length) (hcl1:∀x c,cl.lookup x=some c->X.env.cells.lookup x=some c) (hcl2:∀x∈scope.names,x.2=.free->∃c,cl.lookup x.1=some c)
  (hi:PI X tg iter wi)
  (hB:∀s₂ H₂ C fp,PG (blk X N' s₂ H₂ (YY scope cl C X.env) fp pins) tg g/\PTs (blk X N' s₂ H₂ (YY scope cl C X.env) fp pins) ifs tc/\PE (blk X N' s₂ H₂ (YY scope cl C X.env) fp pins) elt te)
  (I:Inv X pins σ H s) (q:zhn wi own g tc te σ H Q)
  (hRR:∀a C s' H',Inv X pins σ H' s'->Q (.ref a) H'->Gone X pins H' C s'->RR (.ref a) C (.ok .next) s'):
  wpAny (model X.prog X.w) X.A (eval iter X.env) (λx s₁=>wpAny (model X.prog X.w) X.A (pyIter x) (λit s₂=>wpAny (model X.prog X.w) X.A (newList []) (λacc s₃=>
   wpAny (model X.prog X.w) X.A (newFunctionEnv scope X.env.globals cl [] X.env.qual none .none (some X.env)) (λcenv s₄=>
    XH (model X.prog X.w) X.A (.compStart (.ListComp elt [⟨tg,iter,ifs,0⟩] scope pos) 0 it acc {cenv with scope:=relabel scope X.env}) (RR acc cenv.locals) s₄) X.xe s₃) X.xe s₂) X.xe s₁) X.xe s:=by
 refine thn (hi pins s σ H _ I q) λv s1 h1=>thn h1 λitv s2 h2=>?_;obtain⟨it,fp,tn,J,H2,e,I2,T,st2,f2,W,⟨m0,w0⟩,turn⟩:=h2;subst e
 refine XG (wpAny_newFunctionEnv hcell (by intro y hy;simp at hy) (λh₁ hns₁ hsb₁=>?_) hkind)
 dsimp only at hns₁ hsb₁⊢;generalize hG:s2.heap.push {cls:=.type "list",dict:=none,data:=.seq ([]:List Value).toArray}=G at hns₁ hsb₁⊢
 have hGs:G.objs.size=s2.heap.objs.size+1:=by rw[<-hG,Xw]
 rw[hGs] at hns₁ hsb₁⊢;have hold:∀b o,s2.heap.get? b=some o->h₁.get? b=some o:=λb o e=>hsb₁.extBut b o (ZK (Y2 (ZU e))) (Z4 _ (hG▸Z4 _ e));have hacc:h₁.get? s2.heap.objs.size=some {cls:=.type "list",data:=.seq #[]}:=hsb₁.extBut _ _ (ZK (Xr _)) (Z4 _ (hG▸ZC _ rfl))
 have hex:∀b∈fp,b<s2.heap.objs.size:=λb hb=>by obtain⟨o,ho,_⟩:=T.obj _ _ st2 b hb;exact ZU ho
 have J0:=zoy (X:=X) (own:=own) (tk:=s2.toks+([]:List (Str×Value)).length) hkind hcell hN hlen hcl1 hcl2 I2 f2 hex hold ⟨_,hns₁⟩ hacc;have st4:tn 0 h₁:=T.keep _ _ _ st2 λb hb o e=>hold b o e
 have frame:∀b∈frs X.stack,b≠X.env.locals->b∈X.fs:=λb hb hne=>by
  rcases ZE.mp (I2.stkSub b hb) with z | z
  ·exact absurd z hne
  ·exact z
 have stat:∀{H':Hp} {pl:List (Addr×Obj)},(∀b∈fp,H' b=none)->(∀p∈pl,∀b∈fp,p.1≠b)->∀b∈fp,FpOk (blk X N' s2 H2 (YY scope cl (s2.heap.objs.size+1) X.env) fp pins) pl H' b:=by
  intro H' pl hn hp b hb;obtain⟨g0,g1,g2,g3,g4,g5⟩:=f2 b hb;refine⟨hn b hb,ZK (Y2 (hex b hb)),λhs=>?_,.inl hb,λx c e=>g4 x c (hcl1 x c e),λp hpp=>?_⟩
  ·exact g2 (frame b hs g1)
  ·rcases Zu.mp hpp with z | z
   ·exact g5 p z
   ·exact hp p z b hb
 have accne:∀b∈fp,s2.heap.objs.size≠b:=λb hb z=>absurd (hex b hb) (by rw[<-z];exact YH _)
 have loop:XH (model X.prog X.w) X.A (.compLoop (.ListComp elt [⟨tg,iter,ifs,0⟩] scope pos) 0 (.ref it) (.ref s2.heap.objs.size) (YY scope cl (s2.heap.objs.size+1) X.env)) (RR (.ref s2.heap.objs.size) (s2.heap.objs.size+1))
   {s2 with heap:=h₁,toks:=s2.toks+([]:List (Str×Value)).length}:=by
  refine zgE (CI (λits nn H' s'=>Inv (blk X N' s2 H2 (YY scope cl (s2.heap.objs.size+1) X.env) fp pins) [(s2.heap.objs.size,{cls:=.type "list",data:=.seq its.toArray nn})] (clrS own σ) H' s') tn fp W) ?_ m0 ⟨0,[],H2,[],0,J0,st4,λb hb=>(f2 b hb).1,.nil,w0⟩
  rintro n s3 ⟨i,vs,H3,its,nn,J3,st3,fr3,rv,w3⟩
  have pne:∀p∈[(s2.heap.objs.size,({cls:=.type "list",data:=.seq its.toArray nn}:Obj))],∀b∈fp,p.1≠b:=by
   intro p hp b hb
   have ep:p=(s2.heap.objs.size,({cls:=.type "list",data:=.seq its.toArray nn}:Obj)):=by simpa using hp
   rw[ep];exact accne b hb
  rcases turn i n vs H3 w3 with⟨stop,hz,qn⟩|⟨go,hz,step⟩
  ·refine ZI (T.done (blk X N' s2 H2 (YY scope cl (s2.heap.objs.size+1) X.env) fp pins) rfl rfl rfl hc i _ s3 _ H3 (λ_ _=>False) J3 (stat fr3 pne) st3 stop) (λr s4 q_=>?_) λ_ _ z=>z
   obtain⟨hr,I4⟩:=q_;subst hr;obtain⟨ea,na,_,_,_⟩:=I4.pin (s2.heap.objs.size,_) (ZA _ (Zi.mpr rfl));have I5:=zlS (X:=X) I2 f2 I4 (ZX _) na ea rv hz;obtain⟨m,hm,_⟩:=I4.loc;refine hRR _ _ s4 _ I5 (qn _ na) ⟨⟨m,hm⟩,?_,?_,λhb=>?_,?_,λx c e=>?_,λp hp=>?_⟩
   ·rw [zah (X9 (Xr _))]
    exact I4.free
   ·exact X9 (Y2 I2.lt)
   ·exact I2.nofs (Xx _) hb
   ·exact Zc I2.sz (Xx _)
   ·obtain ⟨v,z⟩:=I2.cell x c e
    exact ZK (Y2 z.lt)
   ·exact ZK (Y2 (ZU (I2.pin p hp).1))
  ·refine ZI (T.item (blk X N' s2 H2 (YY scope cl (s2.heap.objs.size+1) X.env) fp pins) rfl rfl rfl hc i _ s3 _ H3 (λ_ _=>False) J3 (stat fr3 pne) st3 go) (λr s4 q_=>?_) λ_ _ z=>z
   obtain⟨u,hr,h4⟩:=q_;subst hr;refine ZI h4 (λ_ s5 q_=>?_) λ_ _ z=>z;obtain⟨x,H5,I5,r5,y5,st5,fr5⟩:=q_;have I5':=I5.pinned (stat fr5 pne) (T.obj _ _ st5);obtain⟨hg,ht,he⟩:=hB s2 H2 (s2.heap.objs.size+1) fp
   have nx:∀{e:Value} {s:Shared},(blk X N' s2 H2 (YY scope cl (s2.heap.objs.size+1) X.env) fp pins).xe e s->False:=λz=>by have z':X.xe _ _:=z;rw[hx] at z';exact z'
   refine ZI (hg _ s5 _ H5 x u _ I5' r5 (step x H5 y5)) (λ_ s6 q_=>?_) λ_ _ z=>nx z;obtain⟨σ6,H6,I6,q6⟩:=q_;refine ZI (ht _ s6 σ6 H6 _ I6 q6) (λok s7 q_=>?_) λ_ _ z=>nx z;obtain⟨H7,I7,q7⟩:=q_
   have keepIt:∀{σ8:St} {H8:Hp} {s8:Shared},Inv (blk X N' s2 H2 (YY scope cl (s2.heap.objs.size+1) X.env) fp pins) ([(s2.heap.objs.size,({cls:=.type "list",data:=.seq its.toArray nn}:Obj))]++zgk fp s5.heap) σ8 H8 s8 →
     tn (i+1) s8.heap/\∀b∈fp,H8 b=none:=λ{σ8 H8 s8} I8=>by
    refine⟨T.keep _ _ _ st5 λb hb o e=>(I8.pin (b,o) (ZA _ (ZA _ (zbE hb e)))).1,λb hb=>?_⟩;obtain⟨o,e,d⟩:=T.obj _ _ st5 b hb;exact(I8.pin (b,o) (ZA _ (ZA _ (zbE hb e)))).2.1
   cases ok with
   |false=>simp only[ZM,if_false] at q7⊢;obtain⟨m',hm',w7⟩:=q7;obtain⟨k1,k2⟩:=keepIt I7;exact⟨m',hm',i+1,vs,H7,its,nn,zf8 hcell hN hlen hcl1 hcl2 I2 f2 I7.unpinned,k1,k2,rv,w7⟩
   | true=>
    simp only[if_true] at q7⊢;refine ZI (he _ s7 σ6 H7 _ I7 q7) (λy s8 q_=>?_) λ_ _ z=>nx z;obtain⟨vy,H8,I8,r8,m',hm',w8⟩:=q_;obtain⟨k1,k2⟩:=keepIt I8;obtain⟨ea,na,nl,nf,nd⟩:=I8.unpinned.pin (s2.heap.objs.size,_) (ZA _ (Zi.mpr rfl));have hl:=rv.length
    refine YR F.slot_list_append ⟨_,ea,rfl⟩ F.entry_list_append (F.args_list_append_2 _ _) (PySem.list_append s2.heap.objs.size its.toArray nn y (by rw[ZV];omega)) ⟨ea,?_⟩
    have J8:=zf8 hcell hN hlen hcl1 hcl2 I2 f2 (I8.unpinned);have J8':Inv (blk X N' s2 H2 (YY scope cl (s2.heap.objs.size+1) X.env) fp pins) [] (clrS own σ) H8 s8:=J8.pins_of λp hp=>absurd hp (by simp);have up:=Yg (X6 λx_1=>x_1.push y) ea rfl;obtain⟨n',en⟩:∃n',X6 (λx_1=>x_1.push y) ({cls:=.type "list",data:=.seq its.toArray nn}:Obj)={cls:=.type "list",data:=.seq (its.toArray.push y) n'}:=⟨_,rfl⟩
    have J9:=J8'.turned (t':=s8.toks) (it:=s2.heap.objs.size) (h':=s8.heap.update s2.heap.objs.size (X6 λx_1=>x_1.push y)) (λb o hb e=>(YT _ _ (YZ hb)).trans e) na nl (.inr (ZX _))
     (fun x c e=>by
      obtain⟨v,z⟩:=I2.cell x c (hcl1 x c e)
      exact ZK z.lt)
     (fun p hp=>by
      have hp':p∈X.pn++pins:=by simpa[blk] using hp
      exact ZK (ZU (I2.pin p hp').1))
    refine⟨m',hm',i+1,vs++[vy],H8,its++[y],n',?_,T.keep _ _ _ k1 λb hb o e=>(YT _ _ (accne b hb)).trans e,k2,rv.append (.cons r8 .nil),w8⟩;refine J9.pins_of λp hp=>?_
    have ep:p=(s2.heap.objs.size,({cls:=.type "list",data:=.seq (its++[y]).toArray n'}:Obj)):=by simpa using hp
    subst ep;refine⟨?_,na,nl,nf,λv q=>by cases q⟩;show(s8.heap.update s2.heap.objs.size (X6 λx_1=>x_1.push y)).get? s2.heap.objs.size=_;rw[up];show some (X6 (λx_1=>x_1.push y) ({cls:=.type "list",data:=.seq its.toArray nn}:Obj))=_;rw[en];simp
 exact codeAny_compStart_list loop (T.self _ 0 _ _ _ st4 loop)
end
section
variable {X:Cx}
structure zit(X:Cx)(scope:Scope)(N':List Str)(own:List Nat):Prop where
 kind:scope.kind=.function
 cell:∀y∈scope.names,y.2≠.cell
 names:∀x∈scope.names,x.2=.local->scope.names.lookup x.1=some .local
 free:∀x∈scope.names,x.2=.free->X.env.kindOf x.1=some .cell\/X.env.kindOf x.1=some .free
 slots:∀(i:Nat) (x:Str),N'[i]?=some x->Vis (relabel scope X.env) x->i∈own\/(X.N[i]?=some x/\(X.env.kindOf x=some .cell\/X.env.kindOf x=some .free)/\(relabel scope X.env).names.lookup x≠some .local)
 len:N'.length=X.N.length
theorem Gone.turned(g:Gone X pins H C s)(I:Inv X pins σ H s)(sb:Wx C s.heap h'):Inv X pins σ H {s with heap:=h'}:=I.turned (t':=s.toks) (λb o hb e=>(sb.2 b hb).trans e) g.free g.loc (.inr g.new) g.cel g.pin
theorem znX
  (hx:X.xe=λ_ _=>False) (hc:X.calm=true) (K:zit X scope N' own) (hi:PI X tg iter wi)
  (hB:∀cl pins s₂ H₂ C fp,PG (blk X N' s₂ H₂ (YY scope cl C X.env) fp pins) tg g/\PTs (blk X N' s₂ H₂ (YY scope cl C X.env) fp pins) ifs tc/\PE (blk X N' s₂ H₂ (YY scope cl C X.env) fp pins) elt te)
  (hs:∀x,Yt iter X.env x=pure x):PE X (.ListComp elt [⟨tg,iter,ifs,0⟩] scope pos) (zhn wi own g tc te):=by
 intro pins s σ H Q I q;obtain⟨cl,hclos,hcl1,hcl2⟩:=zb7 (scope:=scope) (env:=X.env) (λx hx hf=>I.ok.has x.1 (K.free x hx hf));rw[eval_ListComp];refine wpAny_comprehension_free (use:=none) rfl hs hclos K.kind K.names (zf4 hx hc K.kind K.cell K.slots K.len hcl1 hcl2 hi (hB cl pins) I q ?_);intro a C s' H' I' q' gn;obtain⟨m,hm⟩:=gn.ns;exact⟨m,hm,λh' sb=>⟨.ref a,H',gn.turned I' sb,rfl,q'⟩⟩
theorem zdm
  (hx:X.xe=λ_ _=>False) (hc:X.calm=true) (K:zit X scope N' own) (hi:PI X tg iter wi)
  (hB:∀cl pins s₂ H₂ C fp,PG (blk X N' s₂ H₂ (YY scope cl C X.env) fp pins) tg g/\PTs (blk X N' s₂ H₂ (YY scope cl C X.env) fp pins) ifs tc/\PE (blk X N' s₂ H₂ (YY scope cl C X.env) fp pins) elt te)
  (hs:∀x,Yt iter X.env x=pure x) (hsw:W7 (.ListComp elt [⟨tg,iter,ifs,0⟩] scope pos) (some (.Name y py)) spos.line X.env=pure true)
  (hg:PG X (.Name y py) (zjv iy)):PS X (.Assign [.Name y py] (.ListComp elt [⟨tg,iter,ifs,0⟩] scope pos) spos) (tAsg (zhn wi own g tc te) (zjv iy)):=by
 intro pins s σ H D I q;obtain⟨cl,hclos,hcl1,hcl2⟩:=zb7 (scope:=scope) (env:=X.env) (λx hx hf=>I.ok.has x.1 (K.free x hx hf));rw[exec_Assign_Name_used _ _ _ _ hsw];refine Z7 (XJ (Z7 ?_));show wpAny _ X.A (do let _<-comprehension (.ListComp elt [⟨tg,iter,ifs,0⟩] scope pos) scope X.env _ (newList []) false (eval iter X.env) (some (assign (.Name y py) X.env))) _ _ s
 refine Z7 (ZI (wpAny_comprehension_free (use:=some (assign (.Name y py) X.env)) (Q:=λ_ s'=>SP X pins D .next s') rfl hs hclos K.kind K.names
  (zf4 hx hc K.kind K.cell K.slots K.len hcl1 hcl2 hi (hB cl pins) I q ?_)) (λ_ s' hq=>ZY (ZY hq)) λ_ _ e=>e)
 intro a C s' H' I' q' gn;obtain⟨m,o,es,ep,ho,hd,hr⟩:=id gn.ns
 have Ip:Inv X (pins++[(C,o)]) σ H' s':=I'.pins_of λp hp=>(Zu.mp hp).elim (λz=>I'.pin p (ZA _ z)) λz=>by
  have ep:p=(C,o):=by simpa using z
  subst ep
  exact⟨ho,gn.free,gn.loc,gn.fs,λv z=>by rw[hd] at z;cases z⟩
 refine thn (hg _ s' σ H' (.ref a) (.ref a) _ Ip rfl q') λ_ s'' q_=>?_;obtain⟨σ2,H2,I2,q2⟩:=q_;obtain⟨e1,e2,_,_,_⟩:=I2.pin (C,o) (ZA _ (ZA _ (Zi.mpr rfl)));have gn2:Gone X pins H2 C s'':=⟨⟨m,o,es,ep,e1,hd,hr⟩,e2,gn.loc,gn.fs,gn.new,gn.cel,gn.pin⟩;exact⟨m,⟨o,es,ep,e1,hd,hr⟩,λh' sb=>⟨σ2,H2,gn2.turned I2.unpinned sb,q2⟩⟩
theorem RepE.clr:∀(own:List Nat) {env:IT.Env} {σ:St},RepE K μ h H env σ->RepE K μ h H (clr own env) (clrS own σ)
 | [],env,σ,q=>q
 | i::r,env,σ,q=>by
  refine RepE.clr r ⟨by simp[q.len],λj rr e=>?_⟩
  by_cases hj:j=i
  ·subst hj
   rw[List.getElem?_set] at e;simp only[if_true] at e
   split at e<;>cases e
  ·rw [Zv (YZ hj)] at e⊢
   exact q.get j rr e
structure ElK{α:Type}(K:Z8)(kp:R->M α)(Rel:List Addr->Sto->Hp->α->V->Prop):Prop where
 kp:∀{μ h H r v d h'},Rep K μ h H->RepR K μ h H r v->kp r h=some (d,h')->Stp μ h H μ h' H/\Rep K μ h' H/\Rel μ h' H d v
 stp:∀{μ h H μ' h' H' d v},Stp μ h H μ' h' H'->Rep K μ h H->Rel μ h H d v->Rel μ' h' H' d v
def zf1{α:Type}(kp:R->M α)(t:Tg)(ft:IT.Env->M Bool)(fe:IT.Env->M R)(σ:IT.Env)(x:Ite):M (Option α):=bnd (zan t x (clr t.slots σ)) λσ'=>bnd (ft σ') λb=>if b then bnd (fe σ') λr=>bnd (kp r) λd=>ok (some d) else ok none
def tLsG{α:Type}(K:Z8)(Rel:List Addr->Sto->Hp->α->V->Prop)(f:IT.Env->M (List α)):TE:=λσ H Q=>∃μ h env,Rep K μ h H/\RepE K μ h H env σ/\∃xs h',f env h=some (xs,h') ∧
 ∀μ' H' a vs,Stp μ h H μ' h' H'->Rep K μ' h' H'->Paired (Rel μ' h' H') xs vs->H' a=none->Q (.ref a) (upd H' a (.lst vs))
theorem zeh{α β:Type}{F:α->β->Prop}:∀{xs xs':List α} {ys ys':List β},Paired F xs ys->Paired F xs' ys'->Paired F (xs++xs') (ys++ys')|_,_,_,_,.nil,q=>q|_,_,_,_,.cons r t,q=>.cons r (zeh t q)
inductive CR{α:Type}(K:Z8)(Rel:List Addr->Sto->Hp->α->V->Prop)(tr:List Ite->M (List α))(w:Wk)(μ1:List Addr)(h1:Sto)(H1:Hp)(h':Sto)(zs:List α)(i m:Nat)(vs:List V)(H2:Hp):Prop|mk (μ2:List Addr) (h2:Sto) (ys rest:List α) (s2:Stp μ1 h1 H1 μ2 h2 H2) (sy2:zaE w.l h1 h2=true) (R2:Rep K μ2 h2 H2) (zy:Paired (Rel μ2 h2 H2) ys vs) (him:i+m=w.xs.length) (hyl:ys.length<=i) (el':tr (w.xs.drop i) h2=some (rest,h')) (eys:ys++rest=zs)
theorem zd9{α:Type}{K:Z8}{kp:R->M α}{Rel:List Addr->Sto->Hp->α->V->Prop}(el:ElK K kp Rel){t:Tg}{fi:IT.Env->M Wk}{ft:IT.Env->M Bool}{fe:IT.Env->M R}(hwl:∀σ h w h',fi σ h=some (w,h')->WlOk w h'){σ:St}{H:Hp}{Q:VK}
  (q:tLsG K Rel (λσ=>bnd (fi σ) λw=>za1 w.l (zf1 kp t ft fe σ) w.xs) σ H Q):zhn (tI K fi) t.slots (tGI K t) (tTv K ft) (tE K fe) σ H Q:=by
 obtain⟨μ,h,env,R0,re,zs,h',e,k⟩:=q;simp only[zab] at e;obtain⟨w,h1,e1,e2⟩:=e;refine⟨μ,h,env,R0,re,w,h1,e1,λμ1 H1 J s1 R1 W1 hz=>?_⟩
 refine⟨CR K Rel (za1 w.l (zf1 kp t ft fe env)) w μ1 h1 H1 h' zs,⟨w.xs.length,μ1,h1,[],zs,Stp.refl,zcJ _ _ (hwl _ _ _ _ e1),R1,.nil,by omega,ZX _,by rw[Yh];exact e2,rfl⟩,?_⟩
 rintro i m vs H2 ⟨μ2,h2,ys,rest,s2,sy2,R2,zy,him,hyl,el',eys⟩
 have hl:=zy.length
 cases hxx:w.xs[i]? with
 |none=>
  have hi':w.xs.length<=i:=by simpa using hxx
  have hi2:i=w.xs.length:=by omega
  subst hi2;rw[Yo (ZX _)] at el';simp only[za1,zac] at el';obtain⟨rfl,rfl⟩:=el';rw[Zg] at eys;subst eys;exact .inl ⟨W1.stop μ2 h2 H2 s2 R2 sy2,by omega,λa ha=>k μ2 H2 a vs (s1.trans s2) R2 zy ha⟩
 | some x=>
  have hil:i<w.xs.length:=(Z3.mp hxx).1
  have hdrop:w.xs.drop i=x::w.xs.drop (i+1):=by
   rw[Yd hil]
   have:=(Z3.mp hxx).2
   rw[this]
  rw[hdrop] at el';simp only[za1] at el';obtain⟨go,yld⟩:=W1.go μ2 h2 H2 i x s2 R2 sy2 hxx
  cases ef:zf1 kp t ft fe env x h2 with
  |none=>rw[ef] at el';cases el'
  | some p=>
   obtain⟨od,h3⟩:=p;rw[ef] at el';simp only[zf1,zab] at ef;obtain⟨env4,h4,e4,tt,h5,e5,e6⟩:=ef
   have:=zcn e4
   subst this;refine .inr ⟨go,by omega,λv H' hy=>?_⟩;obtain⟨sY,RY,zx⟩:=yld v H' hy;refine⟨μ2,_,clr t.slots env,x,env4,RY,RepE.clr _ ((re.stp (s1.trans s2) R0).stp sY R2),zx,e4,λσ4 re4=>⟨μ2,_,env4,RY,re4,tt,h5,e5,λμ5 H5 b s5' R5 hb=>?_⟩⟩;have s5:=sY.trans s5';subst hb;simp only at el'
   split at el'
   ·rename_i sy3
    simp only[zab,zac] at el';obtain⟨rest',h6,el'',er,rfl⟩:=el'
    cases tt with
    |false=>simp only[ZM,if_false,zac] at e6⊢;obtain⟨rfl,rfl⟩:=e6;refine⟨m-1,by omega,μ5,_,ys,rest',s2.trans s5,zaH sy2 sy3,R5,L2.Paired.mapP zy λd v z=>el.stp s5 R2 z,by omega,by omega,el'',?_⟩;rw[<-eys,<-er]
    |true=>
     simp only[if_true,zab,zac] at e6⊢;obtain⟨r,h7,e7,d,h8,e8,rfl,rfl⟩:=e6;refine⟨μ5,h5,env4,R5,re4.stp s5' RY,r,h7,e7,λμ6 H6 v6 s6 R6 q6=>?_⟩;obtain⟨s7,R7,zd⟩:=el.kp R6 q6 e8
     refine⟨m-1,by omega,μ6,_,ys++[d],rest',((s2.trans s5).trans s6).trans s7,zaH sy2 sy3,R7,zeh (L2.Paired.mapP zy λd v z=>el.stp s7 R6 (el.stp s6 R5 (el.stp s5 R2 z))) (.cons zd .nil),by omega,by simp;omega,el'',?_⟩
     rw[<-eys,<-er];simp
   ·cases el'
theorem zsF(K:Z8):ElK K fz (λμ h H d v=>RepD K (Live μ h) H d v):=⟨zj0,λs r q=>RepD.stp s r q⟩
theorem zrT(K:Z8):ElK K zcE (λμ h H l v=>∃b,μ[l]?=some b/\v=.ref b):=by
 refine⟨λ{μ h H r v d h'} R0 q e=>?_,λs r ⟨b,e1,e2⟩=>⟨b,s.pre _ _ e1,e2⟩⟩
 cases r with
 |d x=>cases e
 | loc l=>
  (delta zcE at e;(try dsimp only at e))
  split at e
  ·simp only[Z6,ZS] at e
   obtain⟨rfl,rfl⟩:=e;exact⟨Stp.refl,R0,q⟩
  ·simp only[Z6,ZS] at e
   obtain⟨rfl,rfl⟩:=e;exact⟨Stp.refl,R0,q⟩
  ·cases e
theorem zhR:∀{K:Z8} {A:Addr->Prop} {H:Hp} {xs:List D} {vs:List V},Paired (RepD K A H) xs vs->RepDs K A H xs vs|_,_,_,_,_,.nil=>.nil|_,_,_,_,_,.cons r t=>.cons r (zhR t)
def zpO(t:Tg)(ft:IT.Env->M Bool)(fe:IT.Env->M R)(σ:IT.Env)(x:Ite):M (Option D):=zf1 fz t ft fe σ x
theorem zkq{t:Tg}{fi:IT.Env->M Wk}(hwl:∀σ h w h',fi σ h=some (w,h')->WlOk w h'){H:Hp}{Q:VK}
  (q:tLs K (λσ=>bnd (fi σ) λw=>za1 w.l (zpO t ft fe σ) w.xs) σ H Q):zhn (tI K fi) t.slots (tGI K t) (tTv K ft) (tE K fe) σ H Q:=by
 refine zd9 (zsF K) hwl ?_;obtain⟨μ,h,env,R0,re,zs,h',e,k⟩:=q;exact⟨μ,h,env,R0,re,zs,h',e,λμ' H' a vs st R1 z ha=>k μ' H' a vs st R1 (zhR z) ha⟩
end
end IT
namespace IT
open PySem PySem.Spec L2
section
variable {X:Cx}
theorem zil:PS X st (tS X.K λ_ _=>none):=λpins s σ H D I ⟨μ,h,env,R0,re,fl,env',h',e,k⟩=>by cases e
theorem zl3:IE X e (λ_ _=>none):=λpins s σ H Q I ⟨μ,h,env,R0,re,r,h',e,k⟩=>by cases e
theorem RepDs.signs:∀x:List Nat,RepDs K A H (x.map λc=>D.str [c]) (x.map λc=>V.str (zaa [c]))| []=>.nil|c::x=>by show RepDs K A H (_::_) (_::_);simp only[RepDs];exact⟨_,_,rfl,by simp only[RepD],RepDs.signs x⟩
theorem zeC(hc:X.calm=true):zdr X (.type "list") (λxs H Q=>(∃p ys,xs=[.ref p]/\(SqL X.K H p ys\/SqT X.K H p ys)/\∀l,H l=none->Q (.ref l) (upd H l (.lst ys)))\/∃z:List Nat,xs=[.str (zaa z)]/\z.length<=sizeLine/\∀l,H l=none->Q (.ref l) (upd H l (.lst (z.map λc=>.str (zaa [c]))))):=by
 intro pins s σ H xs us Q I r h
 rcases h with h|⟨z,rfl,hz,q⟩
 ·exact zgB pins s σ H xs us Q I r h
 obtain⟨u,rfl,rx⟩:=zgT r;obtain⟨t,rfl⟩:=rx
 refine call_list_str (I.ok.hd hc) (zaa z) t (λh' tk acc' c' kp e hi=>?_) (by rw[show(zaa z).cps.size=z.length from by simp[zaa]];exact hz)
 refine⟨.ref s.heap.objs.size,_,I.laid (t':=tk) kp (ZX _) (show zaI X.prog X.w _ h' _ (.lst (z.map λc=>.str (zaa [c]))) from⟨by rw[Z1];exact hz,acc'.toList,c',?_,by simpa using e⟩),rfl,q _ (I.hok.fresh (ZX _))⟩
 refine zjb (by rw[Z1];have q:=hi.1;rw[show(zaa z).cps.size=z.length from by simp[zaa]] at q;rw[<-q];rfl) λj x v e1 e2=>?_
 rw[Zs,ZW] at e1;obtain⟨c,e3,rfl⟩:=e1;obtain⟨c',t',e4,rfl⟩:=hi.2 j v (by simpa using e2)
 have e5:c'=c:=by
  have:(zaa z).cps[j]?=z[j]?:=by simp[zaa]
  rw[this,e3] at e4;exact(ZR e4).symm
 subst e5;exact⟨t',rfl⟩
theorem zsD(hc:X.calm=true)(hg:Gl X "list")(hm:X.mg "list"=none)(he:IE X e f)(hs:ZT [e] X.env=[(false,eval e X.env)]):IL X (.Call (.Name "list" p) [e] [] pos) (λσ=>bnd (f σ) λr=>bnd (rd r) λd=>opt (zdH d)):=by
 refine PE.imp (zc7 (zeC hc) hg hm PyProof.Rows.boot_list (zat he zaW hs) (by decide) (by decide) hs rfl) λσ H Q q0=>?_;obtain⟨μ,h,env,R0,re,xs,h',e,k⟩:=q0;simp only[zab,zax] at e;obtain⟨r,h1,e1,d,h2,e2,e3,rfl⟩:=e;refine⟨μ,h,env,R0,re,r,h1,e1,λμ1 H1 v s1 R1 q1=>?_⟩;obtain⟨rfl,z⟩:=za5 R1 q1 e2
 cases d with
 |tup ys=>simp only[RdD,RepD] at z;obtain⟨a,vs,rfl,q,zs⟩:=z;simp only[zdH,Z6] at e3;subst e3;exact .inl ⟨a,vs,rfl,.inr q,λl hl=>k μ1 H1 l vs s1 R1 zs hl⟩|lst ys=>obtain⟨a,vs,rfl,q,zs⟩:=z;simp only[zdH,Z6] at e3;subst e3;exact .inl ⟨a,vs,rfl,.inl q,λl hl=>k μ1 H1 l vs s1 R1 zs hl⟩
 |str x=>
  simp only[RdD,RepD] at z;subst z;change (if _=true then _ else _)=some _ at e3
  split at e3
  case isFalse=>cases e3
  rename_i hf;cases e3;exact .inr ⟨x,rfl,of_decide_eq_true hf,λl hl=>k μ1 H1 l _ s1 R1 (RepDs.signs x) hl⟩
 |_=>simp[zdH] at e3
theorem zqw(ha:IE X a f)(hb:IE X b g):IL X (.BinOp a .Add b pos) (λσ=>bnd (f σ) λx=>bnd (g σ) λy=>bnd (rd x) λx=>bnd (rd y) λy=>opt (catD x y)):=by
 refine PE.imp (zrR zjR ha hb) λσ H Q q0=>?_;obtain⟨μ,h,env,R0,re,xs,h',e,k⟩:=q0;simp only[zab,zax] at e;obtain⟨x,h1,e1,y,h2,e2,dx,h3,e3,dy,h4,e4,e5,rfl⟩:=e;refine⟨μ,h,env,R0,re,x,h1,e1,λμ1 H1 v s1 R1 q1=>⟨μ1,h1,env,R1,re.stp s1 R0,y,h2,e2,λμ2 H2 u s2 R2 q2=>?_⟩⟩;obtain⟨rfl,zx⟩:=za5 R2 (q1.stp s2 R1) e3;obtain⟨rfl,zy⟩:=za5 R2 q2 e4
 cases dx with
 | lst xs1=>
  cases dy with
  | lst xs2=>
   (delta catD at e5;(try dsimp only at e5))
   split at e5
   ·rename_i hf
    cases e5;obtain⟨p,vs,rfl,q1,z1⟩:=zx;obtain⟨p',vs',rfl,q2,z2⟩:=zy;have l1:=z1.length;have l2:=z2.length;have hlen:xs1.length+xs2.length<=sizeLine:=of_decide_eq_true hf;exact⟨p,p',vs,vs',rfl,rfl,q1,q2,by omega,λr hr=>k μ2 H2 r _ (s1.trans s2) R2 (z1.app z2) hr⟩
   ·cases e5
  |_=>exact zad e5
 |_=>cases dy<;>exact zad e5
theorem zgy:∀{xs:List D} {bs:List Bool},zas xs=some bs->bs.length=xs.length
 | [],bs,e=>by simp only[zas,Z6] at e;subst e;rfl
 | x :: xs,bs,e=>by
  simp only[zas] at e
  split at e
  ·split at e
   ·rename_i es
    simp only[Z6] at e;subst e;simp only[Zz,zgy es]
   ·cases e
  ·cases e
theorem zhW:∀{xs:List D} {bs:List Bool} {i:Nat} {d:D},zas xs=some bs->xs[i]?=some d->∃b,bs[i]?=some b/\tru d=some b
 | [],bs,i,d,e,ed=>by simp at ed
 | x :: xs,bs,i,d,e,ed=>by
  simp only[zas] at e
  split at e
  ·rename_i b eb
   split at e
   ·rename_i l es
    simp only[Z6] at e;subst e
    cases i with|zero=>simp only[W4,Z6] at ed;subst ed;exact⟨b,rfl,eb⟩|succ i=>obtain⟨c,e1,e2⟩:=zhW (i:=i) (d:=d) es (by simpa using ed);exact⟨c,by simpa using e1,e2⟩
   ·cases e
  ·cases e
theorem zju(bs:List Bool):(Zk bs.length).all (λi=>bs.getD i false)=bs.all id:=by
 rw[YW,Zl,Zl];constructor
 ·intro h b hb
  obtain⟨i,hi,e⟩:=X3 hb
  have:=h i (by simpa using hi)
  rw[Zr,Z2 hi] at this
  simpa[e] using this
 ·intro h i hi
  have hi':i<bs.length:=by simpa using hi
  rw[Zr,Z2 hi'];exact h _ (XV hi')
theorem zkN(bs:List Bool):(Zk bs.length).any (λi=>bs.getD i false)=bs.any id:=by
 rw[YW,List.any_eq_true,List.any_eq_true];constructor
 ·rintro⟨i,hi,h⟩
  have hi':i<bs.length:=by simpa using hi
  rw[Zr,Z2 hi'] at h;exact⟨_,XV hi',by simpa using h⟩
 ·rintro⟨b,hb,h⟩
  obtain⟨i,hi,e⟩:=X3 hb;refine⟨i,by simpa using hi,?_⟩;rw[Zr,Z2 hi]
  simpa[e] using h
def zgH(prog:ZH)(w:World)(A:Around)(Hs:Shared->Prop)(P:Nat->Value->Prop)(tr:Nat->Bool):Prop:=∀i v (t:Shared) (Q:Bool->Shared->Prop) (E:Value->Shared->Prop),P i v->Hs t->(∀tk,Q (tr i) {t with toks:=tk})->wpAny (model prog w) A (truthy v) Q E t
theorem zbI(h:i<n):(Zk n).drop i=i::(Zk n).drop (i+1):=by rw[Yd (by simpa using h)];simp
section
variable {prog:ZH}{w:World}{A:Around}{R:Result->Shared->Prop}{I:Addr}{fp wr:List Addr}{n:Nat}{P:Nat->Value->Prop}{St:Nat->Heap->Prop}{Hs:Shared->Prop}
theorem zk5(W:Walks prog w A.in1 I fp wr n P St)(tr:Nat->Bool)(hs:∀t h' tk,Hs t->(∀b o,b∉wr->t.heap.get? b=some o->h'.get? b=some o)->Hs {t with heap:=h',toks:=tk})(htr:zgH prog w A.in1 Hs P tr)(k:Nat):
  ∀ (i:Nat) (t:Shared),n-i=k->i<=n->St i t.heap->Hs t →
   (∀h' tk,(∀b o,b∉wr->t.heap.get? b=some o->h'.get? b=some o)->R (.ok (.ret (.bool (((Zk n).drop i).any tr)))) {t with heap:=h',toks:=tk})->XH (model prog w) A (.builtin "any.loop" ⟨[.ref I],[]⟩) R t:=by
 induction k with
 |zero=>
  intro i t hk hi st ht hR
  obtain rfl:i=n:=by omega
  refine YD F.entry_any_loop ?_;rw[YJ WR _];refine Z7 (m:=pyNext (.ref I)) (W.done t _ _ st λh' tk e=>Z7 (XB (ZY ?_)));have z:=hR h' tk e
  rwa [Yo (by simp)] at z
 | succ k ih=>
  intro i t hk hi st ht hR
  have hlt:i<n:=by omega
  refine YD F.entry_any_loop ?_;rw[YJ WR _];refine Z7 (m:=pyNext (.ref I)) (W.item i t _ _ hlt st λv h' tk hP st' e=>Z7 (YX (htr i v _ _ _ hP (hs t h' tk ht e) λtk2=>Z7 (wpAny_letGo ?_))))
  cases hb:tr i with
  |false=>
   simp only[ZM,if_false];refine ZY ⟨Xi WR _,ih (i+1) _ (by omega) hlt st' (hs t h' tk2 ht e) λh2 tk3 e2=>?_⟩;have z:=hR h2 tk3 λb o hbw eb=>e2 b o hbw (e b o hbw eb)
   rwa [zbI hlt,V6,hb,WL] at z
  |true=>
   simp only[if_true];refine Z7 (XB (ZY ?_));have z:=hR h' tk2 e
   rwa [zbI hlt,V6,hb,Bool.true_or] at z
theorem zjY(W:Walks prog w A.in1 I fp wr n P St)(tr:Nat->Bool)(hs:∀t h' tk,Hs t->(∀b o,b∉wr->t.heap.get? b=some o->h'.get? b=some o)->Hs {t with heap:=h',toks:=tk})(htr:zgH prog w A.in1 Hs P tr)(k:Nat):
  ∀ (i:Nat) (t:Shared),n-i=k->i<=n->St i t.heap->Hs t →
   (∀h' tk,(∀b o,b∉wr->t.heap.get? b=some o->h'.get? b=some o)->R (.ok (.ret (.bool (((Zk n).drop i).all tr)))) {t with heap:=h',toks:=tk})->XH (model prog w) A (.builtin "all.loop" ⟨[.ref I],[]⟩) R t:=by
 induction k with
 |zero=>
  intro i t hk hi st ht hR
  obtain rfl:i=n:=by omega
  refine YD F.entry_all_loop ?_;rw[YJ WQ _];refine Z7 (m:=pyNext (.ref I)) (W.done t _ _ st λh' tk e=>Z7 (XB (ZY ?_)));have z:=hR h' tk e
  rwa [Yo (by simp)] at z
 | succ k ih=>
  intro i t hk hi st ht hR
  have hlt:i<n:=by omega
  refine YD F.entry_all_loop ?_;rw[YJ WQ _];refine Z7 (m:=pyNext (.ref I)) (W.item i t _ _ hlt st λv h' tk hP st' e=>Z7 (YX (htr i v _ _ _ hP (hs t h' tk ht e) λtk2=>Z7 (wpAny_letGo ?_))))
  cases hb:tr i with
  |true=>
   simp only[if_true];refine ZY ⟨Xi WQ _,ih (i+1) _ (by omega) hlt st' (hs t h' tk2 ht e) λh2 tk3 e2=>?_⟩;have z:=hR h2 tk3 λb o hbw eb=>e2 b o hbw (e b o hbw eb)
   rwa [zbI hlt,X8,hb,Yl] at z
  |false=>
   simp only[ZM,if_false];refine Z7 (XB (ZY ?_));have z:=hR h' tk2 e
   rwa [zbI hlt,X8,hb,Yv] at z
end
theorem zda(hc:X.calm=true)(all:Bool):zmz X (.builtin (if all then "all" else "any")) (biD (if all then .all else .any)):=by
 intro pins s σ H vs us Q I r q;obtain⟨μ,h,ds,z,R0,pr,e,k⟩:=q
 cases pr with
 |nil=>cases all<;>exact zad e
 | @cons d v ds vs qd pr=>
  cases pr with
  |cons _ _=>cases all<;>cases d<;>exact zad e
  | nil=>
   cases d with
   | lst xs=>
    obtain⟨p,ws,rfl,q1,z1⟩:=qd
    have eb:∃bs,zas xs=some bs/\z=.bl (if all then bs.all id else bs.any id):=by
     cases hb:zas xs with|none=>cases all<;>(change (match zas xs with | some bs=>_ | none=>_)=_ at e;rw[hb] at e;exact zad e)|some bs=>cases all<;>(change (match zas xs with | some bs=>_ | none=>_)=_ at e;rw[hb] at e;exact⟨bs,rfl,(ZR e).symm⟩)
    obtain⟨bs,eb,rfl⟩:=eb;obtain⟨u,rfl,rx⟩:=zgT r;cases rx;obtain⟨its,ri,pl,hz⟩:=I.list q1;have hl1:=z1.length;have hl2:=ri.length;have hl3:=zgy eb
    have hne:p≠s.heap.objs.size:=by obtain⟨o,n,eo,_⟩:=id pl;exact ZK (ZU eo)
    have W:=Walks.list (prog:=X.prog) (w:=X.w) (A:=X.A.in1) (I.ok.hd hc) s.heap.objs.size p hne its.toArray
    let Hs:Shared->Prop:=λt=>∃h' tk,t={s with heap:=h',toks:=tk}/\∀a o,s.heap.get? a=some o->h'.get? a=some o
    have hs:∀t h' tk,Hs t->(∀b o,b∉[s.heap.objs.size]->t.heap.get? b=some o->h'.get? b=some o)->Hs {t with heap:=h',toks:=tk}:=by
     rintro t h' tk ⟨h1,tk1,rfl,e1⟩ e2
     exact⟨h',tk,rfl,λa o ea=>e2 a o (by simp;exact ZK (ZU ea)) (e1 a o ea)⟩
    have htr:zgH X.prog X.w X.A.in1 Hs (λi v=>its.toArray[i]?=some v) (λi=>bs.getD i false):=by
     rintro i v t Q1 E1 ei ⟨h1,tk1,rfl,e1⟩ hq
     have ei':its[i]?=some v:=by simpa using ei
     have hi:i<its.length:=(Z3.mp ei').1;obtain⟨d,ed⟩:∃d,xs[i]?=some d:=⟨xs[i]'(by omega),Z2 _⟩;obtain⟨b,e2,e3⟩:=zhW eb ed;obtain⟨v2,e4,e5⟩:=z1.get ed
     have rv:RelV v2 v:=by
      have:=zlO ri e4 hi
      rwa [(Z3.mp ei').2] at this
     have e6:bs.getD i false=b:=by rw[Zr,e2];rfl
     simp only[e6] at hq;exact zkx (I.kept (t':=tk1) e1) (RdD.of e5) rv e3 hq
    have st0:(s.heap.push {cls:=.type "list_iterator",data:=.fields #[.ref p,.int 0 0]}).IsListIter s.heap.objs.size p 0/\(s.heap.push {cls:=.type "list_iterator",data:=.fields #[.ref p,.int 0 0]}).IsList p its.toArray:=by refine⟨⟨_,ZC _ rfl,rfl,rfl⟩,?_⟩;obtain⟨o,eo,hcl,n,hd⟩:=pl.isList;exact⟨o,Z4 _ eo,hcl,n,hd⟩
    have hs0:Hs {s with heap:=s.heap.push {cls:=.type "list_iterator",data:=.fields #[.ref p,.int 0 0]}}:=⟨_,s.toks,rfl,λa o ea=>Z4 _ ea⟩
    have hsz:its.toArray.size=bs.length:=by simp;omega
    have fin:∀(b:Bool) (h':Heap) (tk:Nat),(∀b o,b∉[s.heap.objs.size]->(s.heap.push {cls:=.type "list_iterator",data:=.fields #[.ref p,.int 0 0]}).get? b=some o->h'.get? b=some o)->Q (.bl b) H->EP X pins σ Q (.bool b) {s with heap:=h',toks:=tk}:=by
     intro b h' tk hk q
     refine⟨.bl b,H,I.kept (t':=tk) λa o ea=>hk a o (by simp;exact ZK (ZU ea)) (Z4 _ ea),rfl,q⟩
    have hq:=k μ H (.bl (if all then bs.all id else bs.any id)) Stp.refl R0 (by simp only[RepD])
    cases all with|true=>refine call_function_tree F.kind_all F.plain_all F.entry_all (F.args_all1 _) ?_;unfold Zh.«all»;refine Z7 (m:=oneArg "all" _) (ZY (Z7 (WW pl.isList (ZY ⟨Xi WQ _,zjY W _ hs htr _ 0 _ rfl (XE _) st0 hs0 λh' tk hk=>?_⟩))));rw[Yh,hsz,zju];exact fin _ h' tk hk hq|false=>refine call_function_tree F.kind_any F.plain_any F.entry_any (F.args_any1 _) ?_;unfold Zh.«any»;refine Z7 (m:=oneArg "any" _) (ZY (Z7 (WW pl.isList (ZY ⟨Xi WR _,zk5 W _ hs htr _ 0 _ rfl (XE _) st0 hs0 λh' tk hk=>?_⟩))));rw[Yh,hsz,zkN];exact fin _ h' tk hk hq
   |_=>cases all<;>exact zad e
end
def tyS:Ty->String|.int=>"int"|.str=>"str"|.bool=>"bool"|.list=>"list"|.tuple=>"tuple"
section
variable {K:Z8}
theorem zoL(t:Ty):Ze K (.type "NoneType") (.type (tyS t))=some (isiD t .non):=by cases t<;>rfl
theorem zry(t:Ty)(b:Bool):Ze K (.type "bool") (.type (tyS t))=some (isiD t (.bl b)):=by cases t<;>rfl
theorem zoj(t:Ty)(i:Int):Ze K (.type "int") (.type (tyS t))=some (isiD t (.int i)):=by cases t<;>rfl
theorem zoQ(t:Ty)(x:List Nat):Ze K (.type "str") (.type (tyS t))=some (isiD t (.str x)):=by cases t<;>rfl
theorem zoZ(t:Ty)(x:List D):Ze K (.type "tuple") (.type (tyS t))=some (isiD t (.tup x)):=by cases t<;>rfl
theorem zpv(t:Ty)(x:List D):Ze K (.type "list") (.type (tyS t))=some (isiD t (.lst x)):=by cases t<;>rfl
end
section
variable {X:Cx}
theorem zie(t:Ty):zdr X (.builtin "isinstance") (λvs H Q=>∃A d v,RdD X.K A H d v/\vs=[v,.ty (tyS t)]/\Q (.bl (isiD t d)) H):=by
 intro pins s σ H vs us Q I r q;obtain⟨A,d,v,qd,rfl,q⟩:=q
 cases r with
 | cons r1 r=>
  cases r with
  | cons r2 r=>
   cases r;rename_i u1 u2;have e2:u2=Yi (tyS t):=r2;subst e2;have fin:∀tk:Nat,EP X pins σ Q (.bool (isiD t d)) {s with toks:=tk}:=λtk=>⟨.bl (isiD t d),H,I.tok tk,rfl,q⟩
   cases d with
   |non=>
    simp only[RdD,RepD] at qd;subst qd
    have e1:u1=XD:=r1;subst e1;exact Ya PySem.W.kitx_none I.kIn WP (zoL t) (λz=>nomatch z) fin
   |bl b=>
    simp only[RdD,RepD] at qd;subst qd
    have e1:u1=Xa b:=r1;subst e1;exact Ya PySem.W.kitx_bool I.kIn WP (zry t b) (λz=>nomatch z) fin
   |int i=>
    simp only[RdD,RepD] at qd;subst qd
    obtain⟨t',e1⟩:=(show ∃t',u1=Value.int i t' from r1);subst e1;exact Ya PySem.W.kitx_int I.kIn WP (zoj t i) (λz=>nomatch z) fin
   |str x=>
    simp only[RdD,RepD] at qd;subst qd
    obtain⟨t',e1⟩:=(show ∃t',u1=Y1 (zaa x) t' from r1);subst e1;exact Ya PySem.W.kitx_str I.kIn WP (zoQ t x) (λz=>nomatch z) fin
   |tup xs=>simp only[RdD,RepD] at qd;obtain⟨a,ws,rfl,q1,_⟩:=qd;have e1:u1=Y9 a:=r1;subst e1;obtain⟨its,ri,⟨o,h1,h2,_⟩,hz⟩:=I.tuple q1;exact Ya PySem.W.kitx_tuple I.kIn ⟨o,h1,h2⟩ (zoZ t xs) (λz=>nomatch z) fin|lst xs=>obtain⟨a,ws,rfl,q1,_⟩:=qd;have e1:u1=Y9 a:=r1;subst e1;obtain⟨its,ri,⟨o,n,h1,h2,_⟩,hz⟩:=I.list q1;exact Ya PySem.W.kitx_list I.kIn ⟨o,h1,h2⟩ (zpv t xs) (λz=>nomatch z) fin
theorem zjN(t:Ty):XU (Yx (tyS t))=some (.type (tyS t)):=by cases t<;>decide +kernel
theorem zpP(hg:Gl X "isinstance")(hm:X.mg "isinstance"=none)(he:IE X e f)(hx:x=Yx (tyS t))(hg2:Gl X x)(hm2:X.mg x=none)(hs:ZT [e,.Name x p2] X.env=[(false,eval e X.env),(false,eval (.Name x p2) X.env)]):
  IE X (.Call (.Name "isinstance" p) [e,.Name x p2] [] pos) (λσ=>bnd (f σ) λr=>bnd (rd r) λd=>ok (.d (.bl (isiD t d)))):=by
 subst hx
 have hn:Yx (tyS t) ≠ "__name__":=by cases t<;>decide
 have hdb:(Yx (tyS t)==("__debug__":Str))=false:=by cases t<;>decide
 have h2:PE X (.Name (Yx (tyS t)) p2) (tC (.ty (tyS t))):=zgQ hg2 hm2 (zjN t) rfl hn hdb;refine PE.imp (zaY (zie t) hg hm XL (zat he (zat h2 zaW rfl) hs) (by decide) (by decide) hs rfl) λσ H Q q0=>?_;obtain⟨μ,h,env,R0,re,r,h',e,k⟩:=q0;simp only[zab,zac] at e;obtain⟨r1,h1,e1,d,h2',e2,rfl,rfl⟩:=e;refine⟨μ,h,env,R0,re,r1,h1,e1,λμ1 H1 v s1 R1 q1=>?_⟩;obtain⟨rfl,z⟩:=za5 R1 q1 e2;exact⟨_,d,v,z,rfl,k μ1 H1 _ s1 R1 (by simp only[RepR,RepD])⟩
end
open PySem PyProof.Rows PySem.Calls
end IT
namespace IT
open PySem PySem.Spec L2
open PySem.StrLaws Builtin.Str
section
variable {X:Cx}
theorem zj7:MtR X "str.startswith" (λx vs H Q=>∃z y:List Nat,x=.str (zaa z)/\vs=[.str (zaa y)]/\Q (.bl (y.isPrefixOf z)) H):=by
 intro pins s σ H x xs v us Q I rx rs q;obtain⟨z,y,rfl,rfl,q⟩:=q;obtain⟨t,rfl⟩:=(show ∃t',v=Y1 (zaa z) t' from rx);obtain⟨u,rfl,ru⟩:=rs.one;obtain⟨t2,rfl⟩:=(show ∃t',u=Y1 (zaa y) t' from ru);refine YR F.slot_str_startswith (XQ _ _ _) F.entry_str_startswith (F.args_str_startswith_2 _ _) (gives_str_startswith _ _ _ _).meets ?_
 have e:(decide (0+(zaa y).length<=(zaa z).length)&&subAt (zaa z) (zaa y) 0)=y.isPrefixOf z:=by
  have h:=zdz z y 0;unfold At at h;rw[YW,Z9,decide_eq_true_iff];refine h.trans ?_;simp only[Yh,Nat.zero_add];constructor
  ·exact λh=>h.2
  ·exact λh=>⟨(Zj.mp h).length_le,h⟩
 rw[e];exact⟨.bl _,H,I,rfl,q⟩
theorem zds:∀{l:List (List Nat)} {us:List Value},Vals (l.map λx=>V.str (zaa x)) us->∃ps:List (Str×Tok),us=strValues ps/\ps.map (·.1)=l.map zaa
 | [],us,r=>⟨[],r.zero,rfl⟩
 | x::l,us,r=>by
  cases r with|cons r1 r=>obtain⟨t,rfl⟩:=(show ∃t',_=Y1 (zaa x) t' from r1);obtain⟨ps,rfl,e⟩:=zds r;exact⟨(zaa x,t)::ps,rfl,by simp[e]⟩
theorem zid(z:Str):∀(l:List Str) (n:Nat),l.foldl (λa y=>a+y.length+z.length) n=n+(l.map λy=>y.length+z.length).sum| [],n=>by simp|y::l,n=>by simp only[Yb,ZL,Xj];rw[zid z l];omega
theorem zgl(z:List Nat):∀(l:List (List Nat)) (x:List Nat),(l.map zaa).foldl (λacc p=>acc++(zaa z).cps++p.cps) (zaa x).cps=(zaa (x++(l.map λy=>z++y).flatten)).cps
 | [],x=>by simp
 |y::l,x=>by
  simp only[ZL,Yb,Y3]
  have e:(zaa x).cps++(zaa z).cps++(zaa y).cps=(zaa (x++(z++y))).cps:=by simp[zaa]
  rw[e,zgl z l];simp
theorem zkf(z:List Nat):∀l:List (List Nat),glued (zaa z) (l.map zaa)=zaa (catS z l)
 | []=>rfl
 |x::l=>by
  have:=zgl z l x
  show(⟨(l.map zaa).foldl (λacc p=>acc++(zaa z).cps++p.cps) (zaa x).cps⟩:Str)=_;rw[this];rfl
theorem cat_len(z:List Nat):∀l:List (List Nat),(catS z l).length<=(l.map λy=>y.length+z.length).sum
 | []=>by simp[catS]
 | x::l=>by
  have h:∀l:List (List Nat),((l.map λy=>z++y).flatten).length=(l.map λy=>y.length+z.length).sum:=by
   intro l
   induction l with|nil=>rfl|cons y l ih=>simp[ih];omega
  simp only[catS,ZZ,h,ZL,Xj];omega
theorem zoB:MtR X "str.join" (λx vs H Q=>∃(z:List Nat) (p:Addr) (l:List (List Nat)),x=.str (zaa z)/\vs=[.ref p]/\(SqL X.K H p (l.map λx=>V.str (zaa x))\/SqT X.K H p (l.map λx=>V.str (zaa x)))/\(l.map λy=>y.length+z.length).sum<=sizeLine/\Q (.str (zaa (catS z l))) H):=by
 intro pins s σ H x xs v us Q I rx rs q;obtain⟨z,p,l,rfl,rfl,sq,hz,q⟩:=q;obtain⟨t,rfl⟩:=(show ∃t',v=Y1 (zaa z) t' from rx);obtain⟨u,rfl,ru⟩:=rs.one;cases ru
 have long:∀ps:List (Str×Tok),ps.map (·.1)=l.map zaa->Zh.Str.tooLong ((ps.map (·.1)).toArray.foldl (·+·.length+(zaa z).length) 0)=false:=by
  intro ps e;rw[e]
  have h2:(l.map zaa).toArray.foldl (λa y=>a+y.length+(zaa z).length) 0=(l.map λy=>y.length+z.length).sum:=by rw[List.foldl_toArray,zid];simp[zag,Function.comp_def]
  unfold Zh.Str.tooLong;have h3:=h2▸hz;simp only[decide_eq_false_iff_not];exact Nat.not_lt.mpr h3
 have fin:∀ps:List (Str×Tok),ps.map (·.1)=l.map zaa->(joinMade (zaa z) ps).post (λv s'=>wants (EP X pins σ Q) X.xe (.ok (.ret v)) s') s:=by
  intro ps e
  have many:(Made.str (glued (zaa z) (ps.map (·.1)))).post (λv s'=>wants (EP X pins σ Q) X.xe (.ok (.ret v)) s') s:=by rw[e,zkf];refine⟨?_,⟨.str (zaa (catS z l)),H,I.tok _,⟨_,rfl⟩,q⟩⟩;rw[zag];exact Zc (cat_len z l) hz
  match ps,e with
  | [],e=>exact many
  | [p1],e=>
   have e1:p1.1=zaa (catS z l):=by
    match l,e with| [],e=>simp at e| [x1],e=>simpa[catS] using e|_::_::_,e=>simp at e
   obtain⟨px,pt⟩:=p1;simp only at e1;subst e1;exact⟨.str (zaa (catS z l)),H,I,⟨pt,rfl⟩,q⟩
  |p1::p2::r,e=>exact many
 rcases sq with sq | sq
 ·obtain ⟨its,ri,pl,hn⟩:=I.list sq
  obtain⟨ps,rfl,e⟩:=zds ri;exact YR F.slot_str_join (XQ _ _ _) F.entry_str_join (F.args_str_join_2 _ _) (meets_str_join_list (zaa z) t p ps (long ps e)) ⟨pl.isList,fin ps e⟩
 ·obtain ⟨its,ri,pl,hn⟩:=I.tuple sq
  obtain⟨ps,rfl,e⟩:=zds ri;obtain⟨o,h1,h2,n,h3⟩:=pl;exact YR F.slot_str_join (XQ _ _ _) F.entry_str_join (F.args_str_join_2 _ _) (meets_str_join_tuple (zaa z) t p ps (long ps e)) ⟨⟨o,n,h1,h2,h3⟩,fin ps e⟩
theorem zl7:MtR X "str.partition" (λx vs H Q=>∃z y:List Nat,x=.str (zaa z)/\vs=[.str (zaa y)]/\y≠[]/\z.length<=sizeLine ∧
  ∀p,H p=none->Q (.ref p) (upd H p (.tup (match fnd y z with | some i=>[.str (zaa (z.take i)),.str (zaa y),.str (zaa (z.drop (i+y.length)))] | none=>[.str (zaa z),.str (zaa []),.str (zaa [])])))):=by
 intro pins s σ H x xs v us Q I rx rs q;obtain⟨z,y,rfl,rfl,hy,hz,q⟩:=q;obtain⟨t,rfl⟩:=(show ∃t',v=Y1 (zaa z) t' from rx);obtain⟨u,rfl,ru⟩:=rs.one;obtain⟨t2,rfl⟩:=(show ∃t',u=Y1 (zaa y) t' from ru)
 have hy2:((zaa y).length==0)=false:=by
  rw[zag]
  cases y with|nil=>exact absurd rfl hy|cons _ _=>rfl
 refine YR F.slot_str_partition (XQ _ _ _) F.entry_str_partition (F.args_str_partition_2 _ _) (meets_str_partition (zaa z) (zaa y) t t2 hy2 (by rw[zag];exact hz)) ?_
 have hf:=I.fresh;have q:=q _ hf
 rcases zg4 (x:=z) (y:=y) 1 (by omega) with⟨e1,e2⟩|⟨i,r,e1,hi,e2⟩
 ·rw [e1] at q
  simp only[e2];refine⟨.ref s.heap.objs.size,_,I.laid (o:=.tup [.str (zaa z),.str (zaa []),.str (zaa [])]) (t':=s.toks+1) (λb u e=>Z4 _ e) (ZX _) ?_,rfl,q⟩;exact⟨show 3<=sizeLine by decide,_,.cons ⟨_,rfl⟩ (.cons ⟨_,rfl⟩ (.cons ⟨_,rfl⟩ .nil)),zbD.new _ _⟩
 ·rw [e1] at q
  simp only[e2]
  have z1:strSub (zaa z) 0 i=zaa (z.take i):=by rw[zhv];simp
  have z2:strSub (zaa z) (i+(zaa y).length) (zaa z).length=zaa (z.drop (i+y.length)):=by rw[zhv,zag,zag,Y7 (by simp)]
  rw[z1,z2];refine⟨.ref s.heap.objs.size,_,I.laid (o:=.tup [.str (zaa (z.take i)),.str (zaa y),.str (zaa (z.drop (i+y.length)))]) (t':=s.toks+1+1) (λb u e=>Z4 _ e) (ZX _) ?_,rfl,q⟩;exact⟨show 3<=sizeLine by decide,_,.cons ⟨_,rfl⟩ (.cons ⟨_,rfl⟩ (.cons ⟨_,rfl⟩ .nil)),zbD.new _ _⟩
theorem zfG:∀(l:List (List Nat)) (k:Nat),Vals (l.map λx=>V.str (zaa x)) (strsFrom k (l.map zaa))| [],_=>.nil|x::l,k=>.cons ⟨_,rfl⟩ (zfG l (k+1))
theorem zlv:MtR X "str.split" (λx vs H Q=>∃z y:List Nat,x=.str (zaa z)/\vs=[.str (zaa y)]/\y≠[]/\z.length+1<=sizeLine/\(splS y z.length z).length<=sizeLine ∧
  ∀p,H p=none->Q (.ref p) (upd H p (.lst ((splS y z.length z).map λx=>V.str (zaa x))))):=by
 intro pins s σ H x xs v us Q I rx rs q;obtain⟨z,y,rfl,rfl,hy,hz,hn,q⟩:=q;obtain⟨t,rfl⟩:=(show ∃t',v=Y1 (zaa z) t' from rx);obtain⟨u,rfl,ru⟩:=rs.one;obtain⟨t2,rfl⟩:=(show ∃t',u=Y1 (zaa y) t' from ru)
 have hy2:((zaa y).length==0)=false:=by
  rw[zag]
  cases y with|nil=>exact absurd rfl hy|cons _ _=>rfl
 have q:=q _ I.fresh
 have self:fnd y z=none->EP X pins σ Q (.ref s.heap.objs.size) {s with heap:=s.heap.push {cls:=.type "list",data:=.seq [Y1 (zaa z) t].toArray}}:=by intro e;rw[zjI _ e] at q;exact⟨.ref s.heap.objs.size,_,I.lnew (t':=s.toks) (ys:=[.str (zaa z)]) (its:=[Y1 (zaa z) t]) (.cons ⟨_,rfl⟩ .nil) (show 1<=sizeLine by decide),rfl,q⟩
 cases h1:(decide ((zaa z).length<(zaa y).length)||decide (YE (zaa z)<YE (zaa y)))
 ·rcases zg4 (x:=z) (y:=y) ((zaa z).length+1) (by omega) with⟨e1,e2⟩|⟨i,r,e1,hi,e2⟩
  ·exact YR V1 (XQ _ _ _) V9 (Wo _ _) (meets_str_split_not_found (zaa z) (zaa y) t t2 h1 hy2 (by rw[e2];rfl)) (self e1)
  ·obtain ⟨f,c1,c2⟩:=occ_tight (zaa z) (zaa y) (by rw[zag];exact X2.mpr hy)
   have ep:partsBetween (zaa z) (occurrences (zaa z) (zaa y) 0 (zaa z).length ((zaa z).length+1)) (zaa y).length=(splS y z.length z).map zaa:=by rw[partsBetween_eq];exact zgj hy _ 0 f z.length (XE _) c1 c2 (by omega)
   refine YR V1 (XQ _ _ _) V9 (Wo _ _) (meets_str_split_sep (zaa z) (zaa y) t t2 h1 hy2 (by rw[e2];rfl) (by rw[zag];omega) (by rw[ep];simpa using hn)) ?_
   rw[ep];exact⟨.ref s.heap.objs.size,_,I.lnew (t':=s.toks+((splS y z.length z).map zaa).length) (its:=strsFrom s.toks ((splS y z.length z).map zaa)) (zfG _ _) (by simpa using hn),rfl,q⟩
 ·exact YR V1 (XQ _ _ _) V9 (Wo _ _) (meets_str_split_cannot_occur (zaa z) (zaa y) t t2 h1) (self (zrM hy h1))
theorem zll(q:RepDs K A H (d::xs) (v::vs)):RepD K A H d v/\RepDs K A H xs vs:=by rw[RepDs] at q;obtain⟨v',r,e,q1,q2⟩:=q;cases e;exact⟨q1,q2⟩
theorem zcI(x:List Nat):RepD K A H (.str x) (.str (zaa x)):=by simp only[RepD]
theorem zfl:∀{xs:List D} {vs:List V} {l:List (List Nat)},RepDs K A H xs vs->txts xs=some l->vs=l.map λx=>V.str (zaa x)
 | [],vs,l,q,e=>by
  cases e
  cases vs with|nil=>rfl|cons _ _=>simp[RepDs] at q
 | d :: xs,vs,l,q,e=>by
  cases vs with
  |nil=>simp[RepDs] at q
  | cons v vs=>
   obtain⟨q1,q2⟩:=zll q
   cases d with
   | str x=>
    simp only[txts] at e
    cases hr:txts xs with|none=>rw[hr] at e;cases e|some l'=>rw[hr] at e;cases e;simp only[RepD] at q1;rw[zfl q2 hr,q1];rfl
   |_=>simp[txts] at e
def tmS:Tm->Str|.starts=>"startswith"|.parti=>"partition"|.join=>"join"
theorem zrZ{fs:IT.Env->M (List R)}(ho:IE X o f)(ha:IA X (e::es) fs)
  (hname:name=tmS m)
  (hbase:YG o name X.env (eval o X.env)=eval o X.env)
  (hfew:((backTo cpos (ZT (e::es) X.env)).all (λx=>!x.1)&&(Xl cpos (Ym [] X.env)).all (λx=>x.1.isSome)
   && decide ((e::es).length+([]:List Yq).length+(if([]:List Yq).isEmpty then 0 else 1)<30))=true)
  (hline:(apos.endLine==cpos.line)=true) (hs:ZT (e::es) X.env=(false,eval e X.env)::ZT es X.env) (hplain:(backTo cpos (ZT es X.env)).any (·.1)=false):
  IE X (.Call (.Attribute o name apos) (e::es) [] cpos) (λσ=>bnd (f σ) λx=>bnd (fs σ) λrs=>bnd (rd x) λd=>bnd (rds rs) λds=>bnd (opt (tmD m d ds)) λz=>ok (.d z)):=by
 have key:∀(id:String) (rr:V->List V->Hp->VK->Prop),MtR X id rr->Slot "str" name id->typeOf (.builtin id)=pure (.type "method_descriptor") →
   (∀μ h H (z:List Nat) ds vs d Q,Rep X.K μ h H->Paired (RdD X.K (Live μ h) H) ds vs->tmD m (.str z) ds=some d->(∀μ' H' w,Stp μ h H μ' h H'->Rep X.K μ' h H'->RepD X.K (Live μ' h) H' d w->Q w H')->rr (.str (zaa z)) vs H Q) →
   IE X (.Call (.Attribute o name apos) (e::es) [] cpos) (λσ=>bnd (f σ) λx=>bnd (fs σ) λrs=>bnd (rd x) λd=>bnd (rds rs) λds=>bnd (opt (tmD m d ds)) λz=>ok (.d z)):=by
  intro id rr hm slot hty hk;refine PE.imp (zkW PySem.F.plainAttrs_str slot hty hm ho ha hbase hfew hline hs hplain) λσ H Q q0=>?_;obtain⟨μ,h,env,R0,re,r,h',e,k⟩:=q0;simp only[zab,zax,zac] at e;obtain⟨x,h1,e1,rs,h2,e2,d,h3,e3,ds,h4,e4,z,h5,⟨e5,rfl⟩,rfl,rfl⟩:=e;refine⟨μ,h,env,R0,re,x,h1,e1,λμ1 H1 v s1 R1 q1=>?_⟩
  have hd:∃z',d=.str z':=by
   cases d with|str z'=>exact⟨z',rfl⟩|_=>cases m<;>exact zad e5
  obtain⟨z',rfl⟩:=hd
  have hx:x=.d (.str z')/\h3=h2:=by
   cases x with
   |d y=>simp only[rd,zac] at e3;exact⟨by rw[e3.1],e3.2.symm⟩
   |loc l=>
    simp only[rd] at e3
    cases hl:h2[l]? with|none=>rw[hl] at e3;cases e3|some ob=>rw[hl] at e3;simp at e3
  obtain⟨rfl,rfl⟩:=hx;simp only[RepR,RepD] at q1;subst q1;refine⟨rfl,μ1,h1,env,R1,re.stp s1 R0,rs,_,e2,λμ2 H2 vs s2 R2 q2=>?_⟩;obtain⟨rfl,zs⟩:=zk0 R2 q2 e4;exact hk μ2 _ H2 z' ds vs z Q R2 zs e5 λμ' H' w st R' q'=>k μ' H' w ((s1.trans s2).trans st) R' q'
 cases m with
 | starts=>
  subst hname;refine key _ _ zj7 PySem.F.slot_str_startswith PySem.F.type_str_startswith λμ h H z ds vs d Q R0 pr e k=>?_
  cases pr with
  |nil=>exact zad e
  | @cons d1 v1 ds vs q1 pr=>
   cases pr with
   |cons _ _=>cases d1<;>exact zad e
   | nil=>
    cases d1 with|str y=>simp only[RdD,RepD] at q1;subst q1;cases e;exact⟨z,y,rfl,rfl,k μ H _ Stp.refl R0 (by simp only[RepD])⟩|_=>exact zad e
 | parti=>
  subst hname;refine key _ _ zl7 PySem.F.slot_str_partition PySem.F.type_str_partition λμ h H z ds vs d Q R0 pr e k=>?_
  cases pr with
  |nil=>exact zad e
  | @cons d1 v1 ds vs q1 pr=>
   cases pr with
   |cons _ _=>cases d1<;>exact zad e
   | nil=>
    cases d1 with
    | str y=>
     simp only[RdD,RepD] at q1;subst q1
     (delta tmD at e;(try dsimp only at e))
     split at e
     ·cases e
     ·rename_i hc
      simp only[Za,not_or,ZJ,WS] at hc;cases e
      refine⟨z,y,rfl,rfl,by intro z;rw[z] at hc;simp at hc,(show z.length<=big from by simpa[fit] using hc.2),λp hp=>?_⟩
      have s2:∀u:List V,Stp μ h H μ h (upd H p (.tup u)):=λu=>Stp.fresh hp;refine k μ _ (.ref p) (s2 _) (R0.fresh hp) ?_
      have hrep:∀(A:Addr->Prop) (H:Hp),RepDs X.K A H (match fnd y z with | some i=>[D.str (z.take i),.str y,.str (z.drop (i+y.length))] | none=>[.str z,.str [],.str []]) (match fnd y z with | some i=>[V.str (zaa (z.take i)),.str (zaa y),.str (zaa (z.drop (i+y.length)))] | none=>[.str (zaa z),.str (zaa []),.str (zaa [])]):=by
       intro A H
       cases fnd y z with|none=>exact .cons (zcI _) (.cons (zcI _) (.cons (zcI _) .nil))|some i=>exact .cons (zcI _) (.cons (zcI _) (.cons (zcI _) .nil))
      simp only[RepD];exact⟨p,_,rfl,SqT.of zai,hrep _ _⟩
    |_=>exact zad e
 | join =>
  subst hname;refine key _ _ zoB PySem.F.slot_str_join PySem.F.type_str_join λμ h H z ds vs d Q R0 pr e k=>?_
  cases pr with
  |nil=>exact zad e
  | @cons d1 v1 ds vs q1 pr=>
   cases pr with
   |cons _ _=>cases d1<;>exact zad e
   | nil=>
    have fin:∀xs:List D,items d1=some xs->(∃(p:Addr) (ws:List V),v1=.ref p/\(SqL X.K H p ws\/SqT X.K H p ws)/\RepDs X.K (Live μ h) H xs ws)->∃(z':List Nat) (p:Addr) (l:List (List Nat)),V.str (zaa z)=.str (zaa z')/\[v1]=[.ref p]/\(SqL X.K H p (l.map λx=>V.str (zaa x))\/SqT X.K H p (l.map λx=>V.str (zaa x)))/\(l.map λy=>y.length+z'.length).sum<=sizeLine/\Q (.str (zaa (catS z' l))) H:=by
     intro xs hi ⟨p,ws,e1,sq,zz⟩
     (delta tmD at e;(try dsimp only at e);simp only[hi] at e)
     cases hl:txts xs with
     |none=>rw[hl] at e;cases e
     | some l=>
      rw[hl] at e;simp only at e
      split at e
      ·rename_i hf
       cases e;have ew:=zfl zz hl;subst ew;exact⟨z,p,l,rfl,by rw[e1],sq,of_decide_eq_true hf,k μ H _ Stp.refl R0 (by simp only[RepD])⟩
      ·cases e
    cases d1 with|tup xs=>simp only[RdD,RepD] at q1;obtain⟨p,ws,rfl,sq,zz⟩:=q1;exact fin xs rfl ⟨p,ws,rfl,.inr sq,zz⟩|lst xs=>obtain⟨p,ws,rfl,sq,zz⟩:=q1;exact fin xs rfl ⟨p,ws,rfl,.inl sq,zz⟩|_=>exact zad e
theorem zq1(ho:IE X o f)(he:IE X e g)(hname:name=("split":Str))
  (hbase:YG o name X.env (eval o X.env)=eval o X.env)
  (hfew:((backTo cpos (ZT [e] X.env)).all (λx=>!x.1)&&(Xl cpos (Ym [] X.env)).all (λx=>x.1.isSome)
   && decide ([e].length+([]:List Yq).length+(if([]:List Yq).isEmpty then 0 else 1)<30))=true)
  (hline:(apos.endLine==cpos.line)=true) (hs:ZT [e] X.env=[(false,eval e X.env)]) (hplain:(backTo cpos (ZT [] X.env)).any (·.1)=false):
  IL X (.Call (.Attribute o name apos) [e] [] cpos) (λσ=>bnd (f σ) λx=>bnd (g σ) λy=>bnd (rd x) λx=>bnd (rd y) λy=>opt (splD x y)):=by
 subst hname;refine PE.imp (zkW PySem.F.plainAttrs_str PySem.F.slot_str_split PySem.F.type_str_split zlv ho (zat he zaW hs) hbase hfew hline hs hplain) λσ H Q q0=>?_;obtain⟨μ,h,env,R0,re,xs,h',e,k⟩:=q0;simp only[zab,zax] at e;obtain⟨x,h1,e1,y,h2,e2,dx,h3,e3,dy,h4,e4,e5,rfl⟩:=e;refine⟨μ,h,env,R0,re,x,h1,e1,λμ1 H1 v s1 R1 q1=>?_⟩
 have hd:∃z w,dx=.str z/\dy=.str w:=by
  cases dx with
  |str z=>
   cases dy with|str w=>exact⟨z,w,rfl,rfl⟩|_=>exact zad e5
  |_=>exact zad e5
 obtain⟨z,w,rfl,rfl⟩:=hd
 have one:∀(r:R) (t:List Nat) (ha hb:Sto),rd r ha=some (.str t,hb)->r=.d (.str t)/\hb=ha:=by
  intro r t ha hb e
  cases r with
  |d y=>simp only[rd,zac] at e;exact⟨by rw[e.1],e.2.symm⟩
  |loc l=>
   simp only[rd] at e
   cases hl:ha[l]? with|none=>rw[hl] at e;cases e|some ob=>rw[hl] at e;simp at e
 obtain⟨rfl,rfl⟩:=one _ _ _ _ e3;obtain⟨rfl,rfl⟩:=one _ _ _ _ e4;simp only[RepR,RepD] at q1;subst q1;refine⟨rfl,μ1,h1,env,R1,re.stp s1 R0,_,_,e2,λμ2 H2 vs s2 R2 q2=>?_⟩;simp only[RepR,RepD] at q2;subst q2
 (delta splD at e5;(try dsimp only at e5))
 split at e5
 ·cases e5
 ·rename_i hc
  simp only[Za,not_or,ZJ,WS] at hc;cases e5
  refine⟨z,w,rfl,rfl,by intro z;rw[z] at hc;simp at hc,(show z.length+1<=big from by simpa[fit] using hc.1.2),(show(splS w z.length z).length<=big from by simpa[fit] using hc.2),λp hp=>?_⟩
  refine k μ2 H2 p _ (s1.trans s2) R2 ?_ hp
  have all:∀l:List (List Nat),RepDs X.K (Live μ2 h4) H2 (l.map D.str) (l.map λx=>V.str (zaa x)):=by
   intro l
   induction l with|nil=>exact RepDs.nil|cons a l ih=>exact RepDs.cons (by simp only[RepD]) ih
  exact all _
theorem zjH(ho:IE X o f)(ha:IA X (e::es) fs)(hname:name=("extend":Str))
  (hbase:YG o name X.env (eval o X.env)=eval o X.env)
  (hfew:((backTo cpos (ZT (e::es) X.env)).all (λx=>!x.1)&&(Xl cpos (Ym [] X.env)).all (λx=>x.1.isSome)
   && decide ((e::es).length+([]:List Yq).length+(if([]:List Yq).isEmpty then 0 else 1)<30))=true)
  (hline:(apos.endLine==cpos.line)=true) (hs:ZT (e::es) X.env=(false,eval e X.env)::ZT es X.env) (hplain:(backTo cpos (ZT es X.env)).any (·.1)=false):
  IE X (.Call (.Attribute o name apos) (e::es) [] cpos) (λσ=>bnd (f σ) λx=>bnd (zcX x) λ_=>bnd (fs σ) λrs=>meth .extend x rs):=by
 subst hname;refine PE.imp (zkW PySem.F.plainAttrs_list PySem.F.slot_list_extend PySem.F.type_list_extend ziJ ho ha hbase hfew hline hs hplain) λσ H Q q0=>?_;obtain⟨μ,h,env,R0,re,r,h',e,k⟩:=q0;simp only[zab] at e;obtain⟨x,h1,e1,_,h1',e0,rs,h2,e2,e3⟩:=e;obtain⟨l,o1,rfl,ho1,il1,rfl⟩:=zer e0;refine⟨μ,h,env,R0,re,.loc l,_,e1,λμ1 H1 v s1 R1 q1=>?_⟩
 ·skip
  obtain⟨a,ea,rfl⟩:=q1;obtain⟨vs1,hH1,z1⟩:=R1.placeL ea ho1 il1;refine⟨.inl ⟨rfl,vs1,.inl (.inl hH1)⟩,μ1,_,env,R1,re.stp s1 R0,rs,h2,e2,λμ2 H2 ws s2 R2 q2=>?_⟩
  cases q2 with
  |nil=>exact zad e3
  | @cons rr w rs' ws' qr q2=>
   cases q2 with
   |cons _ _=>exact zad e3
   | nil =>
    (delta meth at e3;(try dsimp only at e3);simp only[zab] at e3)
    obtain⟨d,h3,e4,e5⟩:=e3;obtain⟨rfl,zd⟩:=za5 R2 qr e4;have ea2:=s2.pre l a ea
    cases d with
    | lst ys=>
     obtain⟨b,vs2,rfl,sq,zz⟩:=zd;simp only at e5
     split at e5
     ·rename_i xs hx
      split at e5
      ·rename_i hlen
       simp only[Z6,ZS] at e5;obtain⟨rfl,rfl⟩:=e5;obtain⟨vs3,hH3,z3⟩:=R2.placeL ea2 hx rfl
       have hlen':vs3.length+vs2.length<=sizeLine:=by have l3:=z3.length;have l2:=zz.length;have h4:xs.length+ys.length<=big:=of_decide_eq_true hlen;have h5:big=sizeLine:=rfl;simp only[Ob.items] at l3;omega
       refine⟨a,b,vs3,vs2,rfl,rfl,hH3,sq,hlen',?_⟩;obtain⟨s4,R4⟩:=write R2 ea2 hx (z3.app zz);exact k μ2 _ .non ((s1.trans s2).trans s4) R4 (by simp only[RepR,RepD])
      ·cases e5
     ·cases e5
    |_=>cases e5
theorem zgd{α β:Type}{p:α->Bool}{f:β->Bool}:∀{xs:List α} {ys:List β},xs.length=ys.length->(∀(j:Nat) (x:α) (y:β),xs[j]?=some x->ys[j]?=some y->f y=p x)->ys.countP f=xs.countP p| [],[],_,_=>rfl| [],_::_,h,_=>by simp at h|_::_,[],h,_=>by simp at h|x::xs,y::ys,h,k=>by rw[V0,V0,zgd (xs:=xs) (ys:=ys) (by simpa using h) (λj x y hx hy=>k (j+1) x y (by simpa using hx) (by simpa using hy)),k 0 x y rfl rfl]
def lmS:Lm->Str|.countT=>"count"
theorem zrq(hu:X.A.units+64<cLine):MtR X "tuple.count" (λx vs H Q=>∃μ h xs d v z,Rep X.K μ h H/\RdD X.K (Live μ h) H (.tup xs) x/\vs=[v]/\RdD X.K (Live μ h) H d v/\lmD .countT (.tup xs) d=some z/\(∀w,RepD X.K (Live μ h) H z w->Q w H)):=by
 intro pins s σ H x vs v us Q I rx rs q;obtain⟨μ,h,xs,d,vd,z,R0,qx,rfl,qd,e,k⟩:=q;simp only[RdD,RepD] at qx;obtain⟨p,ws,rfl,sq,zz⟩:=qx;cases rx;obtain⟨u,rfl,ru⟩:=rs.one;obtain⟨its,ri,pt,hz⟩:=I.tuple sq;obtain⟨⟨cls,dd,data,sl⟩,e1,hc,n,hdd⟩:=id pt;simp only at hc hdd;subst hc hdd
 have hlen:xs.length=its.length:=by rw[zz.length,ri.length]
 change (if _=true then _ else _)=some _ at e
 split at e
 ·rename_i hd
  cases e;obtain⟨f,f1,f2⟩:=zmY hu I qd ru (of_decide_eq_true hd) zz ri;refine YR F.slot_tuple_count ⟨_,e1,rfl⟩ F.entry_tuple_count (F.args_tuple_count_2 _ _) (SeqAt.tuple_countAt p its.toArray n dd sl u f) ⟨e1,f1,?_⟩
  have ec:(its.toArray.toList.countP f:Nat)=xs.countP λy=>y.eqb d:=by simpa using zgd hlen f2
  rw[ec];exact⟨.int _,H,I.tok _,⟨_,rfl⟩,k _ (by simp only[RepD])⟩
 ·cases e
theorem zqQ{id:String}{m:Lm}(slot:Slot "tuple" name id)(hty:typeOf (.builtin id)=pure (.type "method_descriptor"))(mt:MtR X id (λx vs H Q=>∃μ h xs d v z,Rep X.K μ h H/\RdD X.K (Live μ h) H (.tup xs) x/\vs=[v]/\RdD X.K (Live μ h) H d v/\lmD m (.tup xs) d=some z/\(∀w,RepD X.K (Live μ h) H z w->Q w H)))
  (hm:m=.countT) (ho:IE X o f) (he:IE X e g)
  (hbase:YG o name X.env (eval o X.env)=eval o X.env)
  (hfew:((backTo cpos (ZT [e] X.env)).all (λx=>!x.1)&&(Xl cpos (Ym [] X.env)).all (λx=>x.1.isSome)
   && decide ([e].length+([]:List Yq).length+(if([]:List Yq).isEmpty then 0 else 1)<30))=true)
  (hline:(apos.endLine==cpos.line)=true) (hs:ZT [e] X.env=[(false,eval e X.env)]) (hplain:(backTo cpos (ZT [] X.env)).any (·.1)=false):
  IE X (.Call (.Attribute o name apos) [e] [] cpos) (λσ=>bnd (f σ) λx=>bnd (rd x) λ_=>bnd (g σ) λy=>bnd (rd x) λx=>bnd (rd y) λy=>bnd (opt (lmD m x y)) λz=>ok (.d z)):=by
 refine PE.imp (zkW PySem.F.plainAttrs_tuple slot hty mt ho (zat he zaW hs) hbase hfew hline hs hplain) λσ H Q q0=>?_;obtain⟨μ,h,env,R0,re,r,h',e,k⟩:=q0;simp only[zab,zax,zac] at e;obtain⟨x,h1,e1,d1,h1',e0,y,h2,e2,dx,h3,e3,dy,h4,e4,z,h5,⟨e5,rfl⟩,rfl,rfl⟩:=e;refine⟨μ,h,env,R0,re,x,h1,e1,λμ1 H1 v s1 R1 q1=>?_⟩;obtain⟨rfl,_⟩:=za5 R1 q1 e0
 have hd:∃xs,dx=.tup xs:=by
  cases dx with|tup xs=>exact⟨xs,rfl⟩|_=>cases hm;exact zad e5
 obtain⟨xs,rfl⟩:=hd
 have ty:tyV X.K "tuple" v H1:=by
  cases x with|loc l=>obtain⟨o1,ho1,il1,z1,_⟩:=zey e3;cases z1|d d0=>simp only[rd,zac] at e3;obtain⟨rfl,rfl⟩:=e3;simp only[RepR,RepD] at q1;obtain⟨a,ws,rfl,sq,zz⟩:=q1;exact .inr (.inl ⟨rfl,ws,sq⟩)
 refine⟨ty,μ1,_,env,R1,re.stp s1 R0,y,h2,e2,λμ2 H2 w s2 R2 q2=>?_⟩;have q1':=RepR.stp s2 R1 q1;obtain⟨rfl,zx⟩:=za5 R2 q1' e3;obtain⟨rfl,zy⟩:=za5 R2 q2 e4;exact⟨μ2,_,xs,dy,w,z,R2,zx,rfl,zy,e5,λu qu=>k μ2 H2 u (s1.trans s2) R2 qu⟩
theorem zpZ(hu:X.A.units+64<cLine)(ho:IE X o f)(he:IE X e g)(hname:name=lmS .countT)
  (hbase:YG o name X.env (eval o X.env)=eval o X.env)
  (hfew:((backTo cpos (ZT [e] X.env)).all (λx=>!x.1)&&(Xl cpos (Ym [] X.env)).all (λx=>x.1.isSome)
   && decide ([e].length+([]:List Yq).length+(if([]:List Yq).isEmpty then 0 else 1)<30))=true)
  (hline:(apos.endLine==cpos.line)=true) (hs:ZT [e] X.env=[(false,eval e X.env)]) (hplain:(backTo cpos (ZT [] X.env)).any (·.1)=false):
  IE X (.Call (.Attribute o name apos) [e] [] cpos) (λσ=>bnd (f σ) λx=>bnd (rd x) λ_=>bnd (g σ) λy=>bnd (rd x) λx=>bnd (rd y) λy=>bnd (opt (lmD .countT x y)) λz=>ok (.d z)):=
 zqQ (by subst hname;exact PySem.F.slot_tuple_count) PySem.F.type_tuple_count (zrq hu) rfl ho he hbase hfew hline hs hplain
end
end IT
namespace PySem
open Sem (wp)
open Builtin
section
variable {prog:ZH}{w:World}{A:Around}{E:Value->Shared->Prop}{s:Shared}
end
section
variable {prog:ZH}{w:World}{K:Type}[DecidableEq K]{knd:KeyKind prog w K}{A:Around}{E:Value->Shared->Prop}{R:Result->Shared->Prop}
end
end PySem
namespace IT
open PySem PySem.Spec L2
section
variable {X:Cx}
theorem zrE{pins:List (Addr×Obj)}{σ:St}{H:Hp}{s:Shared}(I:Inv X pins σ H s):VS<s.heap.objs.size:=by refine Nat.lt_trans (by decide) ((I.mod.glob.keeps I.bk).lt)
end
end IT
namespace IT
open PySem PySem.Spec L2
section
variable {X:Cx}
theorem znW(I:Inv X pins σ H s)(k:∀b o,b≠e->b≠it->s.heap.get? b=some o->h'.get? b=some o)(fe:FpOk X pins H e)(fi:FpOk X pins H it):Inv X pins σ H {s with heap:=h',toks:=t'}:=by
 obtain⟨e0,e1,e2,e3,e4,e5⟩:=fe;obtain⟨i0,i1,i2,i3,i4,i5⟩:=fi
 have ne:∀b u,H b=some u->b≠e:=λb u q z=>by rw[z,e0] at q;cases q
 have ni:∀b u,H b=some u->b≠it:=λb u q z=>by rw[z,i0] at q;cases q
 have nc:∀b,b∉[e,it]->b≠e/\b≠it:=λb hb=>⟨λz=>hb (by simp[z]),λz=>hb (by simp[z])⟩
 refine I.step (g':=s.gens) (d':=s.drawn) (ch:=[e,it]) (λb hb=>?_) (λb o _ _ hc q _=>k b o (nc b hc).1 (nc b hc).2 q) (λb o _ _ hc q _=>⟨o.slots,k b o (nc b hc).1 (nc b hc).2 q⟩) (λ_ _ _ _ n=>n)
  (λb o hc q=>⟨o,k b o (nc b hc).1 (nc b hc).2 q⟩) (λ_ _ q=>q) (λ_ _ _ q=>q) (λb ps q=>⟨#[],by rw[q];simp⟩) (λm hm=>?_) (λb u q=>?_) I.bare
 ·rcases ZE.mp hb with z | z
  ·subst z;exact⟨e3,e1,e4,e5⟩
  ·have z:b=it:=by simpa using z
   subst z;exact⟨i3,i1,i4,i5⟩
 ·obtain ⟨o,es,ep,ho,r⟩:=hm
  exact⟨o,es,ep,k _ o (YZ e1) (YZ i1) ho,r⟩
 ·refine (I.hok b u q).stay (λc v hc q'=>k c v ?_ ?_ q') (λ_ q=>q) λ_ _ q=>q
  ·rcases hc with z | z
   ·rw[z];exact ne b u q
   ·exact ne c _ z
  ·rcases hc with z | z
   ·rw[z];exact ni b u q
   ·exact ni c _ z
theorem zsL{T:Addr}(I:Inv X pins σ H s)(f:FpOk X pins H T)(new:zaI X.prog X.w (upd H T o) s.heap T o):Inv X pins σ (upd H T o) s:=by
 obtain⟨f0,f1,f2,f3,f4,f5⟩:=f
 have nT:∀b u,H b=some u->b≠T:=λb u q z=>by rw[z,f0] at q;cases q
 refine I.step (g':=s.gens) (d':=s.drawn) (t':=s.toks) (h':=s.heap) (ch:=[T]) (λb hb=>?_) (λb o _ _ hc q _=>q) (λb o _ _ hc q _=>⟨o.slots,q⟩) (λb _ hb _ n=>by rw[zah (λz=>hb (by simp[z]))];exact n)
  (λb o hc q=>⟨o,q⟩) (λb _ q=>by rw[zah (nT b _ q)];exact q) (λb _ _ q=>by rw[zah (nT b _ q)];exact q) (λb ps q=>⟨#[],by rw[zah (nT b _ q),q];simp⟩) (λm hm=>hm) (λb u q=>?_) I.bare
 ·have z:b=T:=by simpa using hb
  subst z;exact⟨f3,f1,f4,f5⟩
 ·by_cases hb:b=T
  ·subst hb;rw[zai] at q;cases q;exact new
  ·rw [zah hb] at q
   exact(I.hok b u q).stay (λc v hc q'=>q') (λc q'=>by rw[zah (nT c _ q')];exact q') λc xs q'=>by rw[zah (nT c _ q')];exact q'
theorem zj3:∀(xs ys:List Ite) (k:Int) (i:Nat) (x:Ite),zaz k xs=some ys->ys[i]?=some x->∃r,xs[i]?=some (.r r)/\x=.en (k+i) r
 | [],ys,k,i,x,e,q=>by simp[zaz] at e;subst e;simp at q|.en _ _::_,_,_,_,_,e,_=>by simp[zaz] at e
 | .r r::t,ys,k,i,x,e,q=>by
  simp only[zaz] at e
  cases et:zaz (k+1) t with
  |none=>rw[et] at e;cases e
  | some l=>
   rw[et] at e;simp only[Z6] at e;subst e
   cases i with
   |zero=>simp at q;subst q;exact⟨r,rfl,by simp⟩
   |succ i=>
    obtain⟨r',e1,e2⟩:=zj3 t l (k+1) i x et (by simpa using q)
    exact⟨r',by simpa using e1,by rw[e2];congr 1;push_cast;omega⟩
theorem zgM:∀(xs ys:List Ite) (k:Int),zaz k xs=some ys->ys.length=xs.length
 | [],ys,k,e=>by simp[zaz] at e;subst e;rfl|.en _ _::_,_,_,e=>by simp[zaz] at e
 | .r r::t,ys,k,e=>by
  simp only[zaz] at e
  cases et:zaz (k+1) t with|none=>rw[et] at e;cases e|some l=>rw[et] at e;simp only[Z6] at e;subst e;simp[zgM t l (k+1) et]
theorem zqK(il:isLs r=true)(R1:Rep K μ h H)(q1:RepR K μ h H r v)(e:zaP r h=some (w,h')):h'=h/\∃a vs,v=.ref a/\SqL K H a vs/\vs.length=w.xs.length/\Wlk K (Itl K a) w μ h H:=by
 (delta zaP at e;simp only[zab] at e)
 obtain⟨o,h1,e1,e2⟩:=e;obtain⟨rfl,ho⟩:=zcA e1
 cases o with
 |some ls=>
  obtain⟨l,rfl,ho⟩:=ho;obtain⟨a,ea,rfl⟩:=q1;simp only[zac] at e2;obtain⟨rfl,rfl⟩:=e2;obtain⟨vs,q2,z2⟩:=R1.obj l a _ ea ho
  exact⟨rfl,a,vs,rfl,.inl (.inl q2),by rw[Z1];exact z2.length.symm,zjP R1 ea ho⟩
 | none=>
  simp only[zab] at e2;obtain⟨d,h2,e3,e4⟩:=e2
  cases r with
  |loc l=>
   obtain⟨a,ea,rfl⟩:=q1;obtain⟨o,ho,il,rfl,rfl⟩:=zey e3;obtain⟨vs,q2,z2⟩:=R1.placeL ea ho il
   (delta wkOf items at e4;(try dsimp only at e4);simp only[zac] at e4)
   obtain⟨rfl,rfl⟩:=e4
   exact⟨rfl,a,vs,rfl,.inl (.inl q2),by rw[Z1];exact z2.length.symm,zli R1 ea ho il⟩
  | d x=>
   simp only[rd,zac] at e3;obtain⟨rfl,rfl⟩:=e3
   cases x with
   |lst xs=>
    (delta wkOf items at e4;(try dsimp only at e4);simp only[zac] at e4)
    obtain⟨rfl,rfl⟩:=e4;simp only[RepR,RepD] at q1;obtain⟨a,vs,rfl,q2,z2⟩:=q1
    exact⟨rfl,a,vs,rfl,q2.sq,by rw[Z1];exact z2.length.symm,zhB R1 q2 z2⟩
   |_=>cases il
end
end IT
namespace IT
open PySem
section
end
section
end
end IT
namespace IT
open PySem
def byTx(w:World):Bool:=w.params.followText "set-order"
section
variable {w:World}{h:Heap}{a:Addr}{rs:List (D×Addr)}{es:Array (Int×Value)}{ep:Nat}{t:VZ}{P:List Nat}
end
section
variable {prog:ZH}{w:World}{A:Around}{E:Value->Shared->Prop}{s:Shared}
variable {a:Addr}{rs:List (D×Addr)}{es:Array (Int×Value)}{ep:Nat}{t:VZ}{P:List Nat}
end
end IT
namespace IT
open PySem
section
variable {owner:Array (Option Nat)}
end
end IT
namespace IT
open PySem PyProof.Rows
section
variable {w:World}{h:Heap}{a:Addr}{rs:List (D×Addr)}{es:Array (Int×Value)}{ep:Nat}{t:VZ}{P:List Nat}
end
section
variable {prog:ZH}{w:World}{A:Around}{E:Value->Shared->Prop}{s:Shared}
variable {a:Addr}{rs:List (D×Addr)}{es:Array (Int×Value)}{ep:Nat}{t:VZ}{P:List Nat}
end
end IT
namespace IT
open PySem PyProof.Rows
section
variable {prog:ZH}{w:World}{A:Around}{E:Value->Shared->Prop}{R:Result->Shared->Prop}{I l S:Addr}{items:Array Value}{vals:List (D×Addr)}
end
section
variable {prog:ZH}{w:World}{A:Around}{E:Value->Shared->Prop}{s:Shared}
abbrev set0(w:World):Obj:={cls:=.type "set",dict:=none,data:=.set #[] 0 (.fresh 0 0 (!byTx w))}
theorem zmq(a:Value){Q₁:Value->Shared->Prop}(h:Q₁ (.ref s.heap.objs.size) {s with heap:=s.heap.push (set0 w)}):
  XH (model prog w) A (.call (.builtin "set.__new__") ⟨[.type "set",a],[]⟩) (wants Q₁ E) s:=by
 refine WC ?_;show wpAny _ A.in1 (do WO "set.__new__" ⟨[.type "set",a],[]⟩;again (.builtin "set.__new__" ⟨[.type "set",a],[]⟩)) _ _ s
 refine Z7 (VH (F.newCall_set_1 a) (ZY ⟨Xi PySem.F.plain_set_new _,YD PySem.F.entry_set_new ?_⟩))
 rw[YJ PySem.F.plain_set_new _];unfold Zh.«set.__new__» Zh.Frozenset.newClass
 have hsub:=sub_set_self;obtain⟨hp,g,d,tk,os⟩:=s;dsimp only
 wp_walk
 refine wpAny_askSetting (ZY ?_)
 dsimp only;simp only[newObj]
 exact Z7 (wpAny_alloc (ZY (ZY h)))
end
end IT
namespace IT
open PySem PyProof.Rows
section
variable {prog:ZH}{w:World}{A:Around}{E:Value->Shared->Prop}{s:Shared}
variable {I v:Addr}{rs:List (D×Addr)}{es:Array (Int×Value)}{ep:Nat}{t:VZ}{P:List Nat}{fs:Nat->Value}{vs:List (Int×Value)}{i:Nat}
end
end IT
namespace IT
open PySem PySem.W PyProof.Rows
section
variable {prog:ZH}{w:World}{E:Value->Shared->Prop}
end
section
variable {prog:ZH}{w:World}{A:Around}{E:Value->Shared->Prop}{s:Shared}{a:Addr}{vs:List Value}{xs ys:List D}
end
end IT
namespace IT
open PySem
section
variable {prog:ZH}{w:World}{A:Around}{E:Value->Shared->Prop}{s:Shared}{it d:Addr}{od:Obj}{es:Array DictEntry}{ep i:Nat}
end
end IT
namespace IT
open PySem
section
variable {prog:ZH}{w:World}{A:Around}{E:Value->Shared->Prop}{s:Shared}
end
end IT
namespace IT
open PySem PyProof.Rows
section
variable {prog:ZH}{w:World}{A:Around}{E:Value->Shared->Prop}{s:Shared}{it d:Addr}{od:Obj}{es:Array DictEntry}{ep i:Nat}
end
end IT
namespace IT
open PySem PyProof.Rows
section
variable {prog:ZH}{w:World}{A:Around}{E:Value->Shared->Prop}{s:Shared}{I v:Addr}{rs:List (D×Addr)}{es:Array (Int×Value)}{ep:Nat}{t:VZ}{P:List Nat}
end
end IT
namespace IT
open PySem PySem.Spec L2
section
variable {X:Cx}{A0:Addr->Prop}{H:Hp}{s:Shared}
mutual
theorem znA(S:zaV X s H):∀(x:D) (v:V) (u:Value),D.hk x=true->RepD X.K A0 H x v->RelV v u->KAt s.heap x u
 |.int i,v,u,_,q,r=>by
  simp only[RepD] at q;subst q
  simp only[KAt];exact r
 |.str x,v,u,_,q,r=>by
  simp only[RepD] at q;subst q
  simp only[KAt];exact r
 |.tup xs,v,u,hk,q,r=>by simp only[RepD] at q;obtain⟨a,vs,rfl,sq,zs⟩:=q;cases r;obtain⟨its,ri,p⟩:=S.tup a vs sq;simp only[KAt];exact⟨a,its.toArray,rfl,p,by simpa using kAts_of S xs vs its hk zs ri⟩|.non,_,_,hk,_,_=>by cases hk|.bl _,_,_,hk,_,_=>by cases hk|.lst _,_,_,hk,_,_=>by cases hk
theorem kAts_of(S:zaV X s H):∀(x:List D) (v:List V) (u:List Value),D.hks x=true->RepDs X.K A0 H x v->Vals v u->KAts s.heap x u
 | [],v,u,_,q,r=>by
  simp only[RepDs] at q;subst q
  cases r;simp only[KAts]
 | x::xs,v,u,hk,q,r=>by
  simp only[RepDs] at q;obtain⟨w,ws,rfl,q1,q2⟩:=q
  cases r with|cons r1 r2=>rw[D.hks,Z9] at hk;simp only[KAts];exact⟨_,_,rfl,znA S x w _ hk.1 q1 r1,kAts_of S xs ws _ hk.2 q2 r2⟩
end
theorem zhx(h:za7 k=true):D.hk k=true/\k.dep<=8:=by
 cases k with
 |tup xs=>
  rw[za7,Z9] at h
  have:=of_decide_eq_true h.2
  exact⟨h.1,by simp only[D.dep];omega⟩
 |_=>cases h
theorem zgW(h:za7 k=true)(q:RepD X.K A0 H k v):∃b,v=.ref b:=by
 cases k with|tup xs=>simp only[RepD] at q;obtain⟨a,_,e,_⟩:=q;exact⟨a,e⟩|_=>cases h
theorem zhZ(S:zaV X s H)(h:za7 k=true)(q:RepD X.K A0 H k (.ref b)):(dKind X.prog X.w).is s.heap k b:=⟨(zhx h).2,znA S k (.ref b) (.ref b) (zhx h).1 q rfl⟩
end
def KvR(K:Z8)(A:Addr->Prop)(H:Hp)(p:D×D)(q:D×Addr×Value):Prop:=p.1=q.1/\(za7 p.1=true/\RepD K A H p.1 (.ref q.2.1))/\∃v,RelV v q.2.2/\RepD K A H p.2 v
theorem zdh{α β γ:Type}{F:α->β->Prop}{G:β->γ->Prop}{T:α->γ->Prop}(k:∀a b c,F a b->G b c->T a c):∀{xs:List α} {ys:List β} {zs:List γ},Paired F xs ys->Paired G ys zs->Paired T xs zs|_,_,_,.nil,.nil=>.nil|_,_,_,.cons f fs,.cons g gs=>.cons (k _ _ _ f g) (zdh k fs gs)
section
variable {X:Cx}{pins:List (Addr×Obj)}{σ:St}{H:Hp}{s:Shared}{μ:List Addr}{h:Sto}{l:Nat}{a:Addr}{kvs:List (D×D)}
structure zsi(X:Cx)(μ:List Addr)(h:Sto)(H:Hp)(s:Shared)(a:Addr)(kvs:List (D×D))(xv:List (D×Addr×Value)):Prop where
 sys:(a==VS)=false
 len:kvs.length<=sizeLine
 rel:Paired (KvR X.K (Live μ h) H) kvs xv
 dic:s.heap.DictOfH (dKind X.prog X.w) a xv
theorem zk7(I:Inv X pins σ H s)(R0:Rep X.K μ h H)(ea:μ[l]?=some a)(ho:h[l]?=some (.dic kvs)):∃xs xv,(h[l]?=some (.dic kvs)->H a=some (.dT xs))/\Rd H a (.dT xs)/\Paired (λ(p:D×D) (q:D×Addr×V)=>p.1=q.1/\(za7 p.1=true/\RepD X.K (Live μ h) H p.1 (.ref q.2.1))/\RepD X.K (Live μ h) H p.2 q.2.2) kvs xs ∧
  Paired (λ(p:D×Addr×V) (q:D×Addr×Value)=>p.1=q.1/\p.2.1=q.2.1/\RelV p.2.2 q.2.2) xs xv/\zsi X μ h H s a kvs xv:=by
 have zz:∃xs,(h[l]?=some (.dic kvs)->H a=some (.dT xs))/\Rd H a (.dT xs)/\Paired (λ(p:D×D) (q:D×Addr×V)=>p.1=q.1/\(za7 p.1=true/\RepD X.K (Live μ h) H p.1 (.ref q.2.1))/\RepD X.K (Live μ h) H p.2 q.2.2) kvs xs:=by obtain⟨xs,e,z⟩:=R0.obj l a _ ea ho;exact⟨xs,λ_=>e,.inl e,z⟩
 obtain⟨xs,e0,e,z⟩:=zz;obtain⟨hz,hS,xv,r,o,es,ep,h1,h2,h3,h4,h5⟩:=(show zaI X.prog X.w H s.heap a (.dT xs) from e.ok I.hok)
 have rel:Paired (KvR X.K (Live μ h) H) kvs xv:=zdh (λp q t ⟨c1,c2,c3⟩ ⟨d1,d2,d3⟩=>⟨c1.trans d1,⟨c2.1,by rw[<-d2];exact c2.2⟩,q.2.2,d3,c3⟩) z r
 refine⟨xs,xv,e0,e,z,r,hS,by rw[WN z];exact hz,rel,o,es,ep,h1,h2,h3,h4,?_,h5⟩
 have S:=zaN I
 have all:∀{l1:List (D×D)} {l2:List (D×Addr×Value)},Paired (KvR X.K (Live μ h) H) l1 l2->∀x∈l2,(dKind X.prog X.w).is s.heap x.1 x.2.1:=by
  intro l1 l2 q
  induction q with
  |nil=>intro x hx;cases hx
  | @cons p q ps qs hq t ih=>
   intro x hx
   rcases ZE.mp hx with e | hx
   ·subst e
    obtain⟨c1,c2,_⟩:=hq;rw[<-c1];exact zhZ S c2.1 c2.2
   ·exact ih x hx
 exact all rel
theorem zdD(k:D):∀{kvs:List (D×D)} {xv:List (D×Addr×Value)},Paired (KvR K A H) kvs xv->(∃d p v,dGet k kvs=some d/\atKey xv k=some p/\RelV v p.2/\RepD K A H d v)\/(dGet k kvs=none/\atKey xv k=none)
 |_,_,.nil=>.inr ⟨rfl,rfl⟩
 | _,_,.cons (a:=p) (b:=q) (l₁:=r) (l₂:=t) hq ht=>by
  obtain⟨c1,c2,v,c3,c4⟩:=hq;have e0:dGet k (p::r)=if p.1.same k then some p.2 else dGet k r:=rfl;rw[e0,zb2]
  by_cases e:p.1=k
  ·refine .inl ⟨p.2,q.2,v,by simp[e],?_,c3,c4⟩
   have:q.1=k:=by rw[<-c1];exact e
   simp[atKey,WB,this]
  ·have e2:¬q.1=k:=λz=>e (c1.trans z)
   have e3:atKey (q::t) k=atKey t k:=by simp[atKey,WB,e2]
   rw[e3,if_neg (by simp[e])];exact zdD k ht
theorem zeW(e:kRd x h=some (k,h')):x=.d k/\za7 k=true/\h'=h:=by
 cases x with
 |loc _=>cases e
 | d d=>
  simp only[kRd] at e
  split at e
  ·rename_i hk
   simp only[Z6,ZS] at e;obtain⟨rfl,rfl⟩:=e;exact⟨rfl,hk,rfl⟩
  ·cases e
theorem ziu(e:dRd x h=some (kvs,h')):∃l,x=.loc l/\h[l]?=some (.dic kvs)/\h'=h:=by
 cases x with
 |d _=>cases e
 | loc l=>
  simp only[dRd] at e
  split at e
  ·rename_i kvs' ho
   simp only[Z6,ZS] at e;obtain⟨rfl,rfl⟩:=e;exact⟨l,rfl,ho,rfl⟩
  ·cases e
end
section
variable {X:Cx}{a b e:Expr}{pos:Pos}{f g:IT.Env->M R}
def mIn(neg:Bool)(y x:R):M R:=bnd (dRd x) λkvs=>bnd (kRd y) λk=>ok (.d (.bl (if neg then !(dGet k kvs).isSome else(dGet k kvs).isSome)))
theorem zpy(hu:X.A.units+64<cLine):(dKind X.prog X.w).room X.A.in1:=by show X.A.units+1+8<cLine;omega
theorem znD(hu:X.A.units+64<cLine):OpI X (Zf .In) (mIn false):=by
 intro pins s σ H x y v u Q I rx ry q;obtain⟨μ,h,y1,x1,R0,qy,qx,r,h',e,k⟩:=q;simp only[mIn,zab,zac] at e;obtain⟨kvs,h1,e1,kk,h2,e2,rfl,rfl⟩:=e;obtain⟨l,rfl,ho,rfl⟩:=ziu e1;obtain⟨rfl,hk,rfl⟩:=zeW e2;obtain⟨c,ea,rfl⟩:=qx;cases ry;obtain⟨b,rfl⟩:=zgW hk qy;cases rx;obtain⟨xs,xv,_,_,_,_,D⟩:=zk7 I R0 ea ho;refine wpAny_in_heap (zpy hu) (zhZ (zaN I) hk qy) D.sys D.dic ?_
 have e3:(atKey xv kk).isSome=(dGet kk kvs).isSome:=by rcases zdD kk D.rel with⟨d,p,v,z1,z2,_⟩|⟨z1,z2⟩<;>rw[z1,z2]<;>rfl
 rw[e3];exact⟨.bl _,H,I.tok _,rfl,k μ H _ Stp.refl R0 (by simp only[RepR,RepD,ZM,if_false])⟩
theorem zgu(hu:X.A.units+64<cLine):OpI X (Zf .NotIn) (mIn true):=by
 intro pins s σ H x y v u Q I rx ry q;obtain⟨μ,h,y1,x1,R0,qy,qx,r,h',e,k⟩:=q;simp only[mIn,zab,zac] at e;obtain⟨kvs,h1,e1,kk,h2,e2,rfl,rfl⟩:=e;obtain⟨l,rfl,ho,rfl⟩:=ziu e1;obtain⟨rfl,hk,rfl⟩:=zeW e2;obtain⟨c,ea,rfl⟩:=qx;cases ry;obtain⟨b,rfl⟩:=zgW hk qy;cases rx;obtain⟨xs,xv,_,_,_,_,D⟩:=zk7 I R0 ea ho;refine PyProof.Rows.wpAny_notIn_heap (zpy hu) (zhZ (zaN I) hk qy) D.sys D.dic ?_
 have e3:(atKey xv kk).isSome=(dGet kk kvs).isSome:=by rcases zdD kk D.rel with⟨d,p,v,z1,z2,_⟩|⟨z1,z2⟩<;>rw[z1,z2]<;>rfl
 rw[e3];exact⟨.bl _,H,I.tok _,rfl,k μ H _ Stp.refl R0 (by simp only[RepR,RepD,if_true])⟩
theorem zqJ(hu:X.A.units+64<cLine)(ho:op=if neg then .NotIn else .In)(ha:IE X a f)(hb:IE X b g)(hm:Yn op b=false):IE X (.Compare a [op] [b] pos) (λσ=>bnd (f σ) λy=>bnd (g σ) λx=>mIn neg y x):=by
 cases neg with|false=>subst ho;exact zjr (znD hu) ha hb hm|true=>subst ho;exact zjr (zgu hu) ha hb hm
theorem zrr(hu:X.A.units+64<cLine)(ho:op=if neg then .NotIn else .In)(ha:IE X a f)(hb:IE X b g)(hm:Yn op b=false):IT' X (.Compare a [op] [b] pos) (λσ=>bnd (bnd (f σ) λy=>bnd (g σ) λx=>mIn neg y x) λr=>bnd (rd r) λd=>opt (tru d)):=by
 have hbl:∀x y h r h',mIn neg x y h=some (r,h')->∃t,r=.d (.bl t):=by intro x y h r h' e;simp only[mIn,zab,zac] at e;obtain⟨_,_,_,_,_,_,rfl,_⟩:=e;exact⟨_,rfl⟩
 cases neg with|false=>subst ho;exact zlh (znD hu) ha hb hm hbl|true=>subst ho;exact zlh (zgu hu) ha hb hm hbl
end
def putV{β:Type}(k:D)(b:Addr)(v:β):List (D×Addr×β)->List (D×Addr×β)| []=>[(k,b,v)]|q::r=>if q.1=k then(q.1,q.2.1,v)::r else q::putV k b v r
theorem zh3{β:Type}(k:D)(b:Addr)(v:β):∀xs:List (D×Addr×β),(putV k b v xs).length<=xs.length+1
 | []=>by simp[putV]
 |q::r=>by
  have:=zh3 k b v r
  rw[putV]
  split<;>simp<;>omega
theorem zgg:∀{xs:List (D×Addr×Value)},k∉xs.map (·.1)->xs.map (putAt k v)=xs
 | [],_=>rfl
 |x::r,h=>by rw[ZL,ZE,not_or] at h;have e:putAt k v x=x:=if_neg λe=>h.1 e.symm;rw[ZL,e,zgg h.2]
theorem zeu(k:D)(b:Addr)(v:Value):∀{xs:List (D×Addr×Value)},(xs.map (·.1)).Nodup->storedH xs k b v=putV k b v xs
 | [],_=>by simp[storedH,atKey,putV]
 | x::r,n=>by
  rw[ZL,Xd] at n;rw[putV]
  by_cases e:x.1=k
  ·rw [if_pos e]
   have h1:(atKey (x::r) k).isSome=true:=by simp[atKey,WB,e]
   unfold storedH
   rw[if_pos h1,ZL,zgg (by rw[<-e];exact n.1)]
   simp[putAt,e]
  ·rw [if_neg e,<-zeu k b v n.2]
   have h1:atKey (x::r) k=atKey r k:=by simp[atKey,WB,e]
   unfold storedH;rw[h1]
   split
   ·rw[ZL,putAt,if_neg e]
   ·rfl
theorem zh5{α:Type}{F:D×α->D×Addr×V->Prop}{k:D}{d:α}{b:Addr}{v:V}(hF:∀p q,F p q->p.1=q.1)(h1:F (k,d) (k,b,v))(h2:∀p q,F p q->p.1=k->F (p.1,d) (q.1,q.2.1,v))(pt:List (D×α)->List (D×α))
  (p0:pt []=[(k,d)]) (pc:∀p r,pt (p::r)=if p.1.same k then(p.1,d)::r else p::pt r):∀{xs:List (D×α)} {ys:List (D×Addr×V)},Paired F xs ys->Paired F (pt xs) (putV k b v ys)
 |_,_,.nil=>by rw[p0,putV];exact .cons h1 .nil
 | _,_,.cons (a:=p) (b:=q) (l₁:=r) (l₂:=t) hq ht=>by
  rw[pc,putV,zb2]
  by_cases e:p.1=k
  ·rw [if_pos (by simp[e]),if_pos (by rw[<-hF p q hq];exact e)]
   exact .cons (h2 p q hq e) ht
  ·rw [if_neg (by simp[e]),if_neg (by rw[<-hF p q hq];exact e)]
   exact .cons hq (zh5 hF h1 h2 pt p0 pc ht)
theorem zhP(rv:RelV v u):∀{xs:List (D×Addr×V)} {ys:List (D×Addr×Value)},Paired (λ(p:D×Addr×V) (q:D×Addr×Value)=>p.1=q.1/\p.2.1=q.2.1/\RelV p.2.2 q.2.2) xs ys →
  Paired (λ(p:D×Addr×V) (q:D×Addr×Value)=>p.1=q.1/\p.2.1=q.2.1/\RelV p.2.2 q.2.2) (putV k b v xs) (putV k b u ys)
 |_,_,.nil=>.cons ⟨rfl,rfl,rv⟩ .nil
 |_,_,.cons (a:=p) (b:=q) (l₁:=r) (l₂:=t) hq ht=>by
  rw[putV,putV,hq.1]
  split
  ·exact .cons ⟨rfl,hq.2.1,rv⟩ ht
  ·exact .cons hq (zhP rv ht)
section
variable {X:Cx}
def zsu(K:Z8):TSet:=λo i v H Q=>∃μ h l kvs k d,Rep K μ h H/\RepR K μ h H (.loc l) o/\h[l]?=some (.dic kvs)/\za7 k=true/\RepD K (Live μ h) H k i/\RepD K (Live μ h) H d v/\kvs.length<big ∧
 (∀H',Stp μ h H μ (h.set l (.dic (dPut k d kvs))) H'->Rep K μ (h.set l (.dic (dPut k d kvs))) H'->Q H')
theorem zoO(hu:X.A.units+64<cLine):PSet X (zsu X.K):=by
 intro pins s σ H o i v ov iv u Q I ro ri rv q;obtain⟨μ,h,l,kvs,k,d,R0,⟨a,ea,rfl⟩,ho,hk,qk,qd,hb,q⟩:=q;cases ro;obtain⟨b,rfl⟩:=zgW hk qk;cases ri;obtain⟨xs,xv,eH0,_,z,r,DA⟩:=zk7 I R0 ea ho;have eH:=eH0 ho;have lx:xs.length=xv.length:=WN r;have lk:kvs.length=xs.length:=WN z;have hbig:big=sizeLine:=rfl;refine wpAny_setItem_heap (hsz:=by omega) (zpy hu) (zhZ (zaN I) hk qk) DA.dic λh' dd' hs=>?_;obtain⟨o,es,ep,g1,g2,g3,g4,g5,g6⟩:=dd'
 have nd:(xv.map (·.1)).Nodup:=let ⟨_,_,_,_,_,_,_,_,n⟩:=DA.dic;n
 rw[zeu k b u nd] at g4 g6
 refine⟨upd H a (.dT (putV k b v xs)),I.write (x:=a) (e:=a) (by rw[eH];exact WP) (.inl rfl) (λc w hc e=>(hs.2 c hc).trans e) ⟨o,g1⟩ ⟨by have:=zh3 k b v xs;omega,DA.sys,_,zhP rv r,o,es,ep,g1,g2,g3,g4,g6⟩,?_⟩
 obtain ⟨s2,R2⟩:=zmX (o':=.dic (dPut k d kvs)) (u:=.dT (putV k b v xs)) R0 ea ho rfl λst=>⟨putV k b v xs,zai,zh5 (F:=λ(p:D×D) (q:D×Addr×V)=>p.1=q.1/\(za7 p.1=true/\RepD X.K (Live μ (h.set l (.dic (dPut k d kvs)))) (upd H a (.dT (putV k b v xs))) p.1 (.ref q.2.1))/\RepD X.K (Live μ (h.set l (.dic (dPut k d kvs)))) (upd H a (.dT (putV k b v xs))) p.2 q.2.2)
  (λp q z=>z.1) ⟨rfl,⟨hk,RepD.stp st R0 qk⟩,RepD.stp st R0 qd⟩ (λp q z e=>⟨z.1,z.2.1,RepD.stp st R0 qd⟩) (dPut k d) rfl (λp r=>rfl) (L2.Paired.mapP z λp q y=>⟨y.1,⟨y.2.1.1,RepD.stp st R0 y.2.1.2⟩,RepD.stp st R0 y.2.2⟩)⟩
 exact q _ s2 R2
theorem zps(hu:X.A.units+64<cLine)(he:IE X e f)(ho:IE X o g)(hi:IE X i k)
  (ha:∀v,assign (.Subscript o i p2) X.env v=(do let ov<-holding [v] (eval o X.env);let iv<-holding [v,ov] (eval i X.env);Ww p2;holding [v,ov,iv] (setItem ov iv v);release [v,ov,iv] []))
  (hs:Xo [.Subscript o i p2] e pos.line X.env=pure false) (hw:Xn [.Subscript o i p2] e X.env=pure none) (h1:(Zt [.Subscript o i p2] X.env).map (·.2)=[assign (.Subscript o i p2) X.env]):
  PS X (.Assign [.Subscript o i p2] e pos) (tS X.K λσ=>bnd (f σ) λr=>bnd (g σ) λx=>bnd (k σ) λy=>bnd (fz r) λd=>bnd (kRd y) λk=>bnd (dSet x k d) λ_=>ok (.nx,σ)):=by
 refine PS.imp (zhH he (znl ho hi (zoO hu) ha) hs hw h1) λD σ H q0=>?_;obtain⟨μ,h,env,R0,re,fl,env',h',e,kk⟩:=q0;simp only[zab,zac,ZS] at e;obtain⟨r,h1,e1,x,h2,e2,y,h3,e3,d,h4,e4,ky,h5,e5,_,h6,e6,⟨rfl,rfl⟩,rfl⟩:=e;refine⟨μ,h,env,R0,re,r,h1,e1,λμ1 H1 v s1 R1 q1=>⟨μ1,h1,env,R1,re.stp s1 R0,x,h2,e2,λμ2 H2 u s2 R2 q2=>⟨μ2,h2,env,R2,re.stp (s1.trans s2) R0,y,h3,e3,λμ3 H3 w s3 R3 q3=>?_⟩⟩⟩;obtain⟨s4,R4,zd⟩:=zj0 R3 ((q1.stp s2 R1).stp s3 R2) e4;obtain⟨rfl,hk,rfl⟩:=zeW e5
 cases x with
 |d _=>cases e6
 | loc l=>
  simp only[dSet] at e6
  split at e6
  ·rename_i kvs hx
   split at e6
   ·rename_i hb
    simp only[Z6,ZS] at e6;obtain⟨_,rfl⟩:=e6;refine⟨μ3,_,l,kvs,ky,d,R4,(q2.stp s3 R2).stp s4 R3,hx,hk,(q3.stp s4 R3),zd,of_decide_eq_true hb,λH' s5 R5=>?_⟩;have st:=(((s1.trans s2).trans s3).trans s4).trans s5;exact kk μ3 _ σ st R5 (re.stp st R0)
   ·cases e6
  ·cases e6
theorem zpz:IE X (.Dict [] [] pos) (λ_=>dNew):=by
 intro pins s σ H Q I q;obtain⟨μ,h,env,R0,re,r,h',e,k⟩:=q;simp only[dNew,Z6,ZS] at e;obtain⟨rfl,rfl⟩:=e;have hf:=I.fresh;refine wpAny_Dict_empty ⟨.ref s.heap.objs.size,upd H s.heap.objs.size (.dT []),I.laid (t':=s.toks) (λ_ _ q=>Z4 _ q) (ZX _) ⟨XE _,beq_eq_false_iff_ne.mpr (YZ (ZK (zrE I))),[],.nil,_,#[],0,ZC _ rfl,⟨rfl,rfl,rfl⟩,rfl,rfl,List.nodup_nil⟩,rfl,?_⟩
 exact k (μ++[s.heap.objs.size]) _ _ (Stp.allocO R0 hf) (R0.allocO hf ⟨[],zai,.nil⟩) ⟨_,by rw[<-R0.len];simp,rfl⟩
end
end IT
namespace IT
open PySem PySem.Spec L2 PyProof.Rows
section
variable {K:Z8}{μ:List Addr}{h:Sto}{H:Hp}
end
section
variable {X:Cx}{pins:List (Addr×Obj)}{σ:L2.St}{H H':Hp}{s:Shared}{h':Heap}
end
section
variable {prog:ZH}{w:World}{A:Around}{E:Value->Shared->Prop}{s:Shared}
end
section
variable {X:Cx}
end
end IT
namespace IT
open PySem PySem.Spec L2
section
variable {prog:ZH}{w:World}{A:Around}{E:Value->Shared->Prop}{R:Result->Shared->Prop}
end
section
variable {X:Cx}
end
end IT
namespace IT
open PySem PySem.Spec L2
section
variable {X:Cx}{tg:Expr}
end
end IT
namespace IT
open PySem PySem.Spec L2
section
variable {X:Cx}
end
end IT
namespace IT
open PySem PySem.Spec L2
section
variable {X:Cx}
end
end IT
namespace IT
open PySem PySem.Spec L2
section
variable {K:Z8}{w:World}{prog:ZH}
end
section
variable {X:Cx}
end
section
variable {X:Cx}{pos:Pos}
def gLst(K:Z8)(n:Nat)(t:TGs):TG:=λv σ H Q=>∃a xs,v=.ref a/\SqL K H a xs/\xs.length=n/\t xs σ H Q
theorem zqv(hc:X.calm=true)(h:PGs X es t)(hn:(Zt es X.env).length=n)(hst:(Zt es X.env).findIdx? (·.1)=none):PG X (.Tuple es k pos) (gLst X.K n t):=by intro pins s σ H v u Q I r hw;obtain⟨a,xs,e1,hq,hl,hw⟩:=hw;subst e1;cases r;obtain⟨its,rv,ht,hz⟩:=I.list hq;rw[PyProof.Rows.assign_Tuple];refine Z7 (XJ ?_);unfold unpack;rw[hst,show(Zt es X.env).length=its.toArray.size by simp[hn,<-hl,rv.length]];refine Z7 (YX (PySem.W.kun_itemsOf (I.ok.hd hc) ht.isList λh' hx=>?_));have I1:Inv X pins σ H {s with heap:=h'}:=I.kept (t':=s.toks) λb o e=>hx b o (ZK (ZU e)) e;exact h pins _ σ H xs _ Q I1 (by simpa using rv) hw
theorem zhY:∀{is:List Nat} {xs:List D} {σ σ':IT.Env} {h:Sto},zdu is xs σ=some σ'->bindTs (is.map Tg.name) xs σ h=some (σ',h)| [],[],σ,σ',h,e=>by simp only[zdu,Z6] at e;subst e;rfl| [],_::_,σ,σ',h,e=>by cases e|i::is,[],σ,σ',h,e=>by cases e|i::is,x::xs,σ,σ',h,e=>by simp only[zdu] at e;simp only[ZL,bindTs,zab];exact⟨_,h,rfl,zhY e⟩
theorem zrK(hc:X.calm=true)(he:IE X e f)(hp:PGs X es (tGs X.K (is.map Tg.name)))(hl:es.length=is.length)(hn:(Zt es X.env).length=es.length)(hst:(Zt es X.env).findIdx? (·.1)=none)
  (hs:Xo [.Tuple es tk tp] e pos.line X.env=pure false) (hw:Xn [.Tuple es tk tp] e X.env=pure none) (h1:(Zt [.Tuple es tk tp] X.env).map (·.2)=[assign (.Tuple es tk tp) X.env]):
  PS X (.Assign [.Tuple es tk tp] e pos) (tS X.K λσ=>bnd (f σ) λr=>bnd (rd r) λd=>bnd (opt (lsOf d)) λxs=>bnd (opt (zdu is xs σ)) λσ'=>ok (.nx,σ')):=by
 refine PS.imp (zhH he (zqv (n:=es.length) hc hp hn hst) hs hw h1) λD σ H q0=>?_;obtain⟨μ,h,env,R0,re,fl,env',h',e,kk⟩:=q0;simp only[zab,zac,zax,ZS] at e;obtain⟨r,h1,e1,d,h2,e2,xs,h3,⟨e3,rfl⟩,σ',h4,⟨e4,rfl⟩,⟨rfl,rfl⟩,rfl⟩:=e;refine⟨μ,h,env,R0,re,r,h1,e1,λμ1 H1 v s1 R1 q1=>?_⟩;obtain⟨rfl,z⟩:=za5 R1 q1 e2
 cases d with
 |lst ys=>
  simp only[lsOf,Z6] at e3;subst e3;obtain⟨a,vs,rfl,q,zs⟩:=z;have eb:=zhY (h:=h2) e4;refine⟨a,vs,rfl,q,?_,μ1,_,env,ys,σ',R1,re.stp s1 R0,zs,eb,λσ2 re2=>kk μ1 H1 σ2 s1 R1 re2⟩;rw[<-zs.length,hl]
  have:=zbH _ _ _ _ _ _ eb
  simpa using this
 |_=>cases e3
end
end IT
open PySem.AutoSeq1 (wpAny_loadPart')
namespace PySem
structure EnAt(h0 h:Heap)(e it l:Addr)(i:Nat)(vs:Array Value)(n:Nat):Prop where
 own:h.get? e=some {cls:=.type "enumerate",dict:=none,data:=.fields vs,slots:=#[]}
 at':h.IsListIter it l i
 size:h.objs.size=n
 rest:∀b o,b≠e->b≠it->h0.get? b=some o->h.get? b=some o
section
variable {prog:ZH}{w:World}{A:Around}{E:Value->Shared->Prop}{s:Shared}{h0:Heap}{e it l:Addr}{i n k:Nat}{vs items:Array Value}{x:Value}
theorem EnAt.get{Q:Value->Shared->Prop}(a:EnAt h0 s.heap e it l i vs n)(hx:vs[k]?=some x)(q:Q x s):wpAny (model prog w) A (field (.ref e) k) Q E s:=VI a.own rfl hx q
theorem EnAt.put{Q:Unit->Shared->Prop}(a:EnAt h0 s.heap e it l i vs n)(ne:e≠it)(hk:k<vs.size)(q:∀h',EnAt h0 h' e it l i (vs.setIfInBounds k x) n->Q () {s with heap:=h'}):wpAny (model prog w) A (setField (.ref e) k x) Q E s:=wpAny_setField_rec a.own hk λh' o sb=>q h' ⟨o,a.at'.extBut sb.extBut ne.symm,sb.1.trans a.size,λb u be bi g=>sb.extBut b u be (a.rest b u be bi g)⟩
theorem EnAt.step{Q:Value->Shared->Prop}(a:EnAt h0 s.heap e it l i vs n)(ne:e≠it)(hl:s.heap.IsList l items)(hx:items[i]?=some x)(q:∀h',EnAt h0 h' e it l (i+1) vs n->Q x {s with heap:=h'}):wpAny (model prog w) A (Zh.SmallTypes.nextOf (.ref it)) Q E s:=wpAny_nextOf_list_item a.at' hl hx λh' j sb=>q h' ⟨(sb.2 e ne).trans a.own,j,sb.1.trans a.size,λb u be bi g=>sb.extBut b u bi (a.rest b u be bi g)⟩
theorem EnAt.lay{Q:Value->Shared->Prop}{ys:List Value}(a:EnAt h0 s.heap e it l i vs n)(hz:ys.length<=sizeLine)
  (q:∀h',EnAt h' h' e it l i vs (n+1)->(∀b o,b≠e->b≠it->h0.get? b=some o->h'.get? b=some o)->h'.get? n=some {cls:=.type "tuple",data:=.seq ys.toArray}->Q (.ref n) {s with heap:=h'}):wpAny (model prog w) A (newTuple ys) Q E s:=by
 obtain⟨o,u,v,r⟩:=a.at';refine wpAny_newTuple (a.size▸q _ ⟨Z4 _ a.own,⟨o,Z4 _ u,v,r⟩,by rw[Xw,a.size],λ_ _ _ _ g=>g⟩ (λb o be bi g=>Z4 _ (a.rest b o be bi g)) ?_) hz;rw[<-a.size];exact ZC _ rfl
theorem zo4{c:Int}{old:Value}{Q:Value->Shared->Prop}(a:EnAt s.heap s.heap e it l i #[.none,.bool false,.ref it,rawInt c,.none,old] n)(ne:e≠it)(hl:s.heap.IsList l items)(hx:items[i]?=some x)
  (q:∀h',EnAt s.heap h' e it l (i+1) #[rawInt n,.bool false,.ref it,rawInt (c+1),.none,x] (n+1)->h'.get? n=some {cls:=.type "tuple",data:=.seq #[.int c s.toks,x]}->Q (.ref n) {s with heap:=h',toks:=s.toks+1}):
  wpAny (model prog w) A (Zh.«enumerate.__next__» ⟨[.ref e],[]⟩) (λf t=>∃v,f=.done (.ret v)/\Q v t) E s:=by
 unfold Zh.«enumerate.__next__»;refine Z7 (ZY (Z7 (a.get (k:=2) rfl (Z7 (a.step ne hl hx λh1 a1=>?_)))));refine Z7 (a1.get (s:={s with heap:=h1}) (k:=3) rfl (Z7 (a1.get (s:={s with heap:=h1}) (k:=4) rfl ?_)));refine Z7 (wpAny_mkInt (Z7 (a1.put (s:={s with heap:=h1,toks:=s.toks+1}) ne (by simp) λh2 a2=>?_)));refine Z7 (a2.put (s:={s with heap:=h2,toks:=s.toks+1}) ne (by simp) λh3 a3=>?_)
 refine Z7 (a3.lay (s:={s with heap:=h3,toks:=s.toks+1}) (by show 2<=sizeLine;rw[YK];decide) λh4 a4 k4 t4=>?_)
 have two:∀h',EnAt h4 h' e it l (i+1) #[rawInt n,.bool false,.ref it,rawInt (c+1),.none,x] (n+1)->Q (.ref n) {s with heap:=h',toks:=s.toks+1}:=λh' z=>by
  have ln:n≠e/\n≠it:=by obtain⟨o,g,_⟩:=a.at';exact⟨X9 (a.size▸ZU a.own),X9 (a.size▸ZU g)⟩
  exact q h' ⟨z.own,z.at',z.size,λb o be bi g=>z.rest b o be bi (k4 b o be bi g)⟩ (z.rest _ _ ln.1 ln.2 t4)
 refine Z7 ?_;refine Z7 (a4.get (s:={s with heap:=h4,toks:=s.toks+1}) (k:=0) (x:=.none) (by simp) (ZY ?_));refine Z7 (XB (Z7 (a4.get (s:={s with heap:=h4,toks:=s.toks+1}) (k:=5) (x:=old) (by simp) ?_)));refine Z7 (a4.put (s:={s with heap:=h4,toks:=s.toks+1}) ne (by simp) λh5 a5=>Z7 ?_);refine Z7 (a5.put (s:={s with heap:=h5,toks:=s.toks+1}) ne (by simp) λh6 a6=>?_);refine a6.put (s:={s with heap:=h6,toks:=s.toks+1}) ne (by simp) λh7 a7=>?_;refine Z7 (wpAny_letGo (ZY ⟨_,rfl,two h7 ?_⟩))
 simpa using a7
theorem zkS{c:Int}{old:Value}{Q:Option Value->Shared->Prop}(a:EnAt s.heap s.heap e it l i #[.none,.bool false,.ref it,rawInt c,.none,old] n)(ne:e≠it)(hl:s.heap.IsList l items)(hx:items[i]?=some x)
  (q:∀h',EnAt s.heap h' e it l (i+1) #[rawInt n,.bool false,.ref it,rawInt (c+1),.none,x] (n+1)->h'.get? n=some {cls:=.type "tuple",data:=.seq #[.int c s.toks,x]}->Q (some (.ref n)) {s with heap:=h',toks:=s.toks+1}):
  wpAny (model prog w) A (pyNext (.ref e)) Q E s:=by
 have T:s.TypeIs (.ref e) "enumerate":=⟨_,a.own,rfl⟩;refine Z7 (wpAny_attempt (XZ T XI (Xv XI T F.entry_enumerate_next ?_ (F.args_enumerate_next_1 _))));exact zo4 a ne hl hx λh' z t=>ZY (q h' z t)
theorem zmH{c:Int}{old:Value}{Q:Option Value->Shared->Prop}(hh:A.handled=none)(a:EnAt s.heap s.heap e it l i #[.none,.bool false,.ref it,rawInt c,.none,old] n)(hl:s.heap.IsList l items)(hx:items[i]?=none)
  (q:∀h',Heap.ExtBut it s.heap h'->Q none {s with heap:=h'}):wpAny (model prog w) A (pyNext (.ref e)) Q E s:=by
 have T:s.TypeIs (.ref e) "enumerate":=⟨_,a.own,rfl⟩;refine Z7 (wpAny_attempt (XZ T XI (Xv XI T F.entry_enumerate_next ?_ (F.args_enumerate_next_1 _))));unfold Zh.«enumerate.__next__»;refine Z7 (ZY (Z7 (a.get (k:=2) rfl (Z7 (wpAny_nextOf_list_end hh a.at' hl hx λh' y eb q_=>?_)))));obtain⟨o,g,k⟩:=q_;exact Z7 (wpAny_isInstance (b:=true) ⟨o,g,k⟩ isSubtype_stop (ZY (q _ eb)))
end
abbrev enC(it:Addr)(c:Int)(old:Value):Array Value:=#[.none,.bool false,.ref it,rawInt c,.none,old]
theorem zmg(a v:Value):WO "enumerate.__new__" ⟨[.type "enumerate",a],[("start",v)]⟩=pure ():=by kernel_rfl
theorem zpd(o a v:Value):argsOk "object.__init__" ⟨[o,a],[("start",v)]⟩:=by unfold argsOk;kernel_rfl
theorem zp4(l:Addr)(items:Array Value)(k:Nat)(t:Tok)(hk:k<1000):Meets (Zh.«enumerate.__new__» ⟨[.type "enumerate",.ref l],[("start",.int k t)]⟩)
  (λ_ R s=>s.heap.IsList l items/\∀h',EnAt s.heap h' (s.heap.objs.size+1) s.heap.objs.size l 0 (enC s.heap.objs.size k .none) (s.heap.objs.size+2)->R (.ok (.ret (.ref (s.heap.objs.size+1)))) {s with heap:=h'}):=by
 refine .of_wp λprog w A R s h=>?_;obtain⟨hp,g,d,tk,os⟩:=s;obtain⟨hL,h⟩:=h;obtain⟨o,hl,hc,n,hd⟩:=id hL;have sub:=sub_enumerate
 have small:WA (k:Int)=true:=by unfold WA;simp;omega
 have made:EnAt hp ((hp.push {cls:=.type "list_iterator",data:=.fields #[.ref l,.int 0 0]}).push {cls:=.type "enumerate",data:=.fields (enC hp.objs.size k .none)}) (hp.objs.size+1) hp.objs.size l 0 (enC hp.objs.size k .none) (hp.objs.size+2):=by have z:=Xw hp {cls:=.type "list_iterator",data:=.fields #[.ref l,.int 0 0]};refine⟨z▸ZC _ rfl,⟨_,Z4 _ (ZC _ rfl),rfl,rfl⟩,by rw[Xw,z],λb u _ _ q=>Z4 _ (Z4 _ q)⟩
 have last:wpAny (model prog w) A.in1 (do ret (<-Zh.SmallTypes.newRecord (Yi "enumerate") (Zh.SmallTypes.ownedTupleFields++[<-pyIter (.ref l),rawInt k,.none,.none])))
   (λf t=>∃v,f=Fin.done (Flow.ret v)/\R (Except.ok (Flow.ret v)) t) (λe t=>R (Except.error e) t) ⟨hp,g,d,tk,os⟩:=by
  wp_walk using WW hL
  exact⟨_,rfl,Xw hp _▸h _ made⟩
 have whole:asInt? (.int k t)=pure (some (k:Int)):=rfl
 have index:Zh.SmallTypes.indexObject "enumerate.__new__" (.int k t)=pure (.int k t):=by kernel_rfl
 wp_walk using Yc hl
 refine wpAny_stack_any λst=>ZY ?_
 split
 ·rename_i c _ _ _ _ _
  cases (c==Yi "enumerate")
  all_goals
   simp only[ZM,if_false,if_true]
   refine Z7 ?_;refine VH (a:=(.ref l,some (.int k t))) ?_ ?_
   ·kernel_rfl
   dsimp only;rw[index]
   refine Z7 ?_;refine ZY ?_;rw[whole];refine Z7 ?_;refine ZY ?_
   dsimp only;rw[small];exact last
 ·simp only[ZM,if_false]
  refine Z7 ?_;refine VH (a:=(.ref l,some (.int k t))) ?_ ?_
  ·kernel_rfl
  dsimp only;rw[index]
  refine Z7 ?_;refine ZY ?_;rw[whole];refine Z7 ?_;refine ZY ?_
  dsimp only;rw[small];exact last
section
variable {prog:ZH}{w:World}{A:Around}{E:Value->Shared->Prop}{s:Shared}
theorem zqu{M:Model}{c:Code}{P:Value->Shared->Prop}{R:Result->Shared->Prop}(h:XH M A c (wants P E) s)(k:∀v t,P v t->R (.ok (.ret v)) t)(ke:∀e t,E e t->R (.error e) t):XH M A c R s:=
 XT h λr t z=>match r,z with|.ok (.ret v),z=>k v t z|.error e,z=>ke e t z
theorem zpe{o a:Value}{kw:List (Str×Value)}(hs:s.TypeIs o "enumerate"){R:Result->Shared->Prop}(r:R (.ok (.ret .none)) s):
  wpAny (model prog w) A.in1 (Zh.«object.__init__» ⟨[o,a],kw⟩) (λf t=>match f with | .done f=>R (.ok f) t | .again c=>c.quiet=true/\XH (model prog w) A c R t) (λe t=>R (.error e) t) s:=by
 have hl:=Wn.init.lookup;have hm:=Wn.made
 repeat(any_goals (first | assumption | wp_step))
theorem zpF{l:Addr}{items:Array Value}{k:Nat}{t:Tok}{Q:Value->Shared->Prop}(hk:k<1000)(hL:s.heap.IsList l items)
  (h:∀h',EnAt s.heap h' (s.heap.objs.size+1) s.heap.objs.size l 0 (enC s.heap.objs.size k .none) (s.heap.objs.size+2)->Q (.ref (s.heap.objs.size+1)) {s with heap:=h'}):
  wpAny (model prog w) A (call (.type "enumerate") [.ref l] [("start",.int k t)]) Q E s:=by
 have ft:=Wn;obtain⟨c,tl,mro⟩:=ft.mro;have made:=ft.made;have sub:=ft.sub;have no:=ft.notType;have can:=ft.canCreate;refine WT (WC ?_);show wpAny _ _ (callAny (.type "enumerate") _) _ _ _;refine ZY ⟨W8 _ (by decide +kernel),YD F.entry_type_call ?_⟩;rw[Around.under_plain (weight_type_call_type ..) (units_type_call_type ..)]
 repeat(any_goals (first | assumption | wp_step))
 refine zqu (P:=λv u=>u.TypeIs v "enumerate"/\Q v u) (E:=E) (YI ft.plain F.entry_enumerate_new (VH (zmg ..) (zp4 l items k t hk prog w A.in1 _ s ⟨hL,λh' a=>⟨⟨_,a.own,rfl⟩,h h' a⟩⟩))) (λv u q_=>?_) λ_ _ z=>z;obtain⟨T,q⟩:=q_;have look:=ft.init.lookup;have bind:=ft.init.bind v
 repeat(any_goals (first | assumption | wp_step))
 refine zqu (P:=λr u=>r=.none/\Q v u) (E:=E) (YI ft.init.plain F.entry_object_init (ft.init.check _ _ _ _ _ _ _ _ T (zpd ..) (zpe T ⟨rfl,q⟩))) (λr u q_=>?_) λ_ _ z=>z;obtain⟨e,q⟩:=q_;subst e
 repeat(any_goals (first | assumption | wp_step))
end
end PySem
namespace IT
open PySem PySem.Spec L2
section
variable {X:Cx}
def Iek(K:Z8)(k0:Nat)(a:Addr):L2.It:=⟨(Itl K a).go,λi H v H'=>∃p x,v=.ref p/\H p=none/\H'=upd H p (.tup [.int (k0+i),x])/\∀xs,SqL K H a xs->xs[i]?=some x,(Itl K a).stop⟩
theorem zls(k0:Nat){P:ZH}{w:World}{K:Z8}{elts:List Expr}{x1:_}{tpos:Pos}(a e it:Addr)(hne:e≠it):Turn P w K (.Tuple elts x1 tpos) (Iek K k0 a) [e,it] e (λi h=>∃old,IsEnum h e it (k0+i) old/\h.IsListIter it a i) where
 mem:=by simp
 obj:=λi h st b hb=>by
  obtain⟨old,he,hit⟩:=st
  rcases ZE.mp hb with z | z
  ·subst z;exact⟨_,he,λv z=>by cases z⟩
  ·have z:b=it:=by simpa using z
   subst z;obtain⟨o,ho,c,d⟩:=hit
   exact⟨o,ho,λv z=>by rw[d] at z;cases z⟩
 keep:=λi h h' st k=>by obtain⟨old,he,hit⟩:=st;exact⟨old,k e (by simp) _ he,hit.at λo q=>k it (by simp) o q⟩
 item:=by
  intro X hP hw hK hc i pins s σ H E I hf st hg;subst hP hw hK;obtain⟨old,he,hit⟩:=st;obtain⟨xs,x,hq,hx⟩:=hg;obtain⟨its,rv,p,hz⟩:=I.list hq;obtain⟨u,hu,ru⟩:=rv.get hx;have fe:=hf e (by simp);have fi:=hf it (by simp);have fT:FpOk X pins H s.heap.objs.size:=I.fpOk (ZX _) (I.hok.fresh (ZX _));have lte:e<s.heap.objs.size:=ZU he
  have lti:it<s.heap.objs.size:=by obtain⟨o,ho,_⟩:=id hit;exact ZU ho
  refine zkS ⟨he,hit,rfl,λ_ _ _ _ g=>g⟩ hne p.isList (x:=u) (by simpa using hu) λh1 z hT=>?_;obtain⟨ho1,hit1,_,hk⟩:=z;refine⟨.ref s.heap.objs.size,rfl,wpAny_letOwnedTupleGo_enum (s:={s with heap:=h1,toks:=s.toks+1}) ho1 λh2 he2 hs2=>?_⟩;have hk2:∀b o,b≠e->b≠it->s.heap.get? b=some o->h2.get? b=some o:=λb o hb1 hb2 q=>(hs2.2 b hb1).trans (hk b o hb1 hb2 q);have I1:Inv X pins σ H {s with heap:=h2,toks:=s.toks+1}:=znW I hk2 fe fi;have hT2:h2.get? s.heap.objs.size=some {cls:=.type "tuple",data:=.seq #[.int (k0+i) s.toks,u]}:=(hs2.2 _ (X9 lte)).trans hT
  have I2:Inv X pins σ (upd H s.heap.objs.size (.tup [.int (k0+i),x])) {s with heap:=h2,toks:=s.toks+1}:=zsL I1 fT ⟨show 2<=sizeLine by decide,[.int (k0+i) s.toks,u],.cons ⟨_,rfl⟩ (.cons ru .nil),⟨_,hT2,rfl,_,rfl⟩,λo q=>by
   have q:h2.get? s.heap.objs.size=some o:=q
   rw[hT2] at q;cases q;rfl⟩
  refine⟨.ref s.heap.objs.size,_,I2,rfl,⟨s.heap.objs.size,x,rfl,fT.1,rfl,λys hy=>by rw[I.list_inj hy hq];exact hx⟩,⟨u,by simpa[Int.add_assoc] using he2,hit1.at λo q=>(hs2.2 it (YZ hne)).trans q⟩,λb hb=>?_⟩
  have hb':b≠s.heap.objs.size:=by
   rcases ZE.mp hb with z | z
   ·rw[z];exact ZK lte
   ·have z:b=it:=by simpa using z
    rw[z];exact ZK lti
  rw[zah hb'];exact(hf b hb).1
 done:=by
  intro X hP hw hK hc i pins s σ H E I hf st hg;subst hP hw hK;obtain⟨old,he,hit⟩:=st;obtain⟨xs,hq,hx⟩:=hg;obtain⟨its,rv,p,hz⟩:=I.list hq;obtain⟨f0,f1,f2,f3,f4,f5⟩:=hf it (by simp);have hl:=rv.length
  exact zmH (I.ok.hd hc) ⟨he,hit,rfl,λ_ _ _ _ g=>g⟩ p.isList (by simp;omega) λh' eb=>⟨rfl,I.turned (t':=s.toks) (λb o hb q=>eb b o hb q) f0 f1 f3 f4 f5⟩
 self:=λ_ _ _ _ _ st h=>by obtain⟨old,he,_⟩:=st;exact wpAny_pyIter_enum he h
theorem zo8{K:Z8}{k0:Nat}{a:Addr}{w:Wk}{ys:List Ite}{μ:List Addr}{h:Sto}{H:Hp}(W:Wlk K (Itl K a) w μ h H)(e:zaz k0 w.xs=some ys):Wlk K (Iek K k0 a) ⟨ys,w.l⟩ μ h H:=by
 refine⟨λμ1 h1 H1 i x st R1 sy q=>?_,λμ1 h1 H1 st R1 sy=>?_⟩
 ·obtain ⟨r,e1,rfl⟩:=zj3 _ _ _ _ _ e q
  obtain⟨go,yld⟩:=W.go μ1 h1 H1 i _ st R1 sy e1;refine⟨go,λv H' q_=>?_⟩;obtain⟨p,x,hv,hp,hH,hx⟩:=q_;subst hv hH;obtain⟨_,_,zr⟩:=yld x H1 ⟨rfl,hx⟩;exact⟨Stp.fresh hp,R1.fresh hp,p,x,rfl,by rw[zai],RepR.stp (Stp.fresh hp) R1 zr⟩
 ·show (Itl K a).stop ys.length H1
  rw[zgM _ _ _ e];exact W.stop μ1 h1 H1 st R1 sy
end
end IT
namespace PySem
section
variable {M:Model}{A:Around}{E:Value->Shared->Prop}{s:Shared}{env:Env}
theorem zpQ{func e v:Expr}{n:Str}{kp pos:Pos}{Q:Value->Shared->Prop}(hs:ZT [e] env=[(false,eval e env)])
  (he:eval (.Call func [e] [⟨some n,v,kp⟩] pos) env=(do callWith pos (<-eval func env) [] (backTo pos (ZT [e] env)) (Xl pos (Ym [⟨some n,v,kp⟩] env))):=by rfl)
  (h:wpAny M A (eval func env) (λf s1=>∃T,f=.type T/\wpAny M A (spliced (backTo pos (ZT [e] env))) (λvs s2=>wpAny M A (eval v env) (λk s3=>wpAny M A (call (.type T) vs [(n,k)]) Q E s3) E s2) E s1) E s):
  wpAny M A (eval (.Call func [e] [⟨some n,v,kp⟩] pos) env) Q E s:=by
 rw[he];refine Z7 (ZI h (λf s1 q=>?_) λ_ _ z=>z);obtain⟨T,rfl,q⟩:=q;rw[hs] at q⊢;unfold callWith;refine Z7 (YX (PyProof.Rows.evalArgs_kwB rfl (ZI q (λvs s2 q2=>PyProof.Rows.kws_cons (ZI q2 (λk s3 q3=>PyProof.Rows.kws_nil ?_) λ_ _ z=>z)) λ_ _ z=>z)));refine Z7 (XJ (Z7 (ZY ?_)));exact Z7 (ZI q3 (λr s4 q4=>Z7 (YX (wpAny_point (ZY q4)))) λ_ _ z=>z)
end
end PySem
namespace IT
open PySem PySem.Spec L2
section
variable {X:Cx}
theorem zqT{k:Nat}{l:Expr}{ta:TA}{elts:List Expr}{x1:_}{tpos p pos kp cp:Pos}{ck:_}(hk:k<1000)(hg:Gl X "enumerate")(hm:X.mg "enumerate"=none)(ha:PA X [l] ta)(hs:ZT [l] X.env=[(false,eval l X.env)]):
  PI X (.Tuple elts x1 tpos) (.Call (.Name "enumerate" p) [l] [⟨some "start",.Constant (.int k) ck cp,kp⟩] pos) (λσ H R=>ta σ H λvs H1=>∃a xs,vs=[.ref a]/\SqL X.K H1 a xs/\(xs.length<=sizeLine->R (Iek X.K k a) H1)):=by
 intro pins s σ H R I h;refine zpQ hs rfl (zfI I hg hm PyProof.Rows.boot_enumerate ⟨_,rfl,thn (ha pos pins s σ H _ I h) λus s1 q_=>?_⟩);obtain⟨vs,H1,I1,r1,q1⟩:=q_;obtain⟨a,xs,rfl,hq,q⟩:=q1;obtain⟨u,rfl,rx⟩:=zgT r1;cases rx;refine wpAny_Constant_int ?_;have I1:=I1.tok (s1.toks+1);obtain⟨its,rv,pl,hz⟩:=I1.list hq;refine zpF hk pl.isList λh' z=>?_;obtain⟨he,hit,_,hk'⟩:=z;have hk':∀b o,s1.heap.get? b=some o->h'.get? b=some o:=λb o q=>hk' b o (ZK (Y2 (ZU q))) (ZK (ZU q)) q;refine wpAny_pyIter_enum (s:={s1 with heap:=h',toks:=s1.toks+1}) he ?_;have I2:Inv X pins σ H1 {s1 with heap:=h',toks:=s1.toks+1}:=I1.kept (t':=s1.toks+1) hk';refine⟨s1.heap.objs.size+1,[s1.heap.objs.size+1,s1.heap.objs.size],_,_,H1,rfl,I2,zls k a _ _ (X9 (Xr _)),⟨.none,by simpa using he,hit⟩,λb hb=>?_,q hz⟩
 rcases ZE.mp hb with z | z
 ·subst z;exact I1.fpOk (Xx _) (I1.hok.fresh (Xx _))
 ·have z:b=s1.heap.objs.size:=by simpa using z
  subst z;exact I1.fpOk (ZX _) (I1.hok.fresh (ZX _))
theorem zq2{k0:Nat}{l:Expr}{elts:List Expr}{x1:_}{tpos p pos kp cp:Pos}{ck:_}{f:IT.Env->M R}(hk:k0<1000)(hg:Gl X "enumerate")(hm:X.mg "enumerate"=none)(hl:IE X l f)(hs:ZT [l] X.env=[(false,eval l X.env)]):
  PI X (.Tuple elts x1 tpos) (.Call (.Name "enumerate" p) [l] [⟨some "start",.Constant (.int k0) ck cp,kp⟩] pos) (tI X.K λσ=>bnd (f σ) λr=>zhp k0 r):=by
 refine PI.imp (zqT hk hg hm (zat hl zaW hs) hs) λσ H R q0=>?_;obtain⟨μ,h,env,R0,re,w,h',e,k⟩:=q0;simp only[zab] at e;obtain⟨r,h1,e1,e2⟩:=e;refine⟨μ,h,env,R0,re,r,h1,e1,λμ1 H1 v s1 R1 q1=>?_⟩;unfold zhp at e2
 split at e2
 ·rename_i il
  rw[Z9] at il;simp only[zab] at e2;obtain⟨w0,h2,e3,e4⟩:=e2;obtain⟨rfl,a,vs,rfl,q2,hl2,W⟩:=zqK il.1 R1 q1 e3
  cases en:zaz k0 w0.xs with
  |none=>rw[en] at e4;cases e4
  |some ys=>
   rw[en] at e4;simp only[zac] at e4;obtain⟨rfl,rfl⟩:=e4
   exact⟨a,vs,rfl,q2,λhz=>k μ1 H1 _ s1 R1 (zo8 W en) (by show ys.length<=sizeLine;rw[zgM _ _ _ en,<-hl2];exact hz)⟩
 ·cases e2
end
end IT
namespace IT
open PySem PyProof.Rows
theorem zlt(l:List (List Nat))(x:List Nat):ded (l++[x])=if(ded l).contains x then ded l else ded l++[x]:=by unfold ded;rw[List.foldl_append];rfl
theorem zh7(y:List Nat):∀(l acc:List (List Nat)),y∈l.foldl (λacc x=>if acc.contains x then acc else acc++[x]) acc↔y∈acc\/y∈l
 | [],acc=>by simp
 | x :: l,acc=>by
  rw[Yb,zh7 y l]
  split
  ·rename_i h
   rw[Y4] at h;constructor
   ·rintro(a | a)
    ·exact .inl a
    ·exact .inr (Zx _ a)
   ·rintro (a | a)
    ·exact .inl a
    ·rcases ZE.mp a with rfl | a
     ·exact .inl h
     ·exact .inr a
  ·simp only[Zu,ZE,Yk,or_false,or_assoc]
theorem zpk(y:List Nat)(l:List (List Nat)):y∈ded l↔y∈l:=by unfold ded;rw[zh7];simp
theorem zjK:∀(l acc:List (List Nat)),(l.foldl (λacc x=>if acc.contains x then acc else acc++[x]) acc).length<=acc.length+l.length
 | [],acc=>ZX _
 |x::l,acc=>by
  rw[Yb];refine Zc (zjK l _) ?_
  split<;>simp<;>omega
theorem zm0(l:List (List Nat)):(ded l).length<=l.length:=by
 have:=zjK l []
 simpa[ded] using this
section
variable {prog:ZH}{w:World}{A:Around}{E:Value->Shared->Prop}{R:Result->Shared->Prop}{I l S:Addr}{items:Array Value}{ts:List (List Nat)}
def ziI(prog:ZH)(w:World)(h:Heap)(S:Addr)(ts:List (List Nat)):Prop:=h.SetOf (strKind prog w) S (λk=>(ts.map zaa).contains k) (ded ts).length
theorem zoK(hA:A.in1.handled=none)(hlI:l≠I)(hSI:S≠I)(hSl:S≠l)(hn:ts.length=items.size)(hv:∀(i:Nat) (x:List Nat),ts[i]?=some x->∃t,items[i]?=some (Y1 (zaa x) t))(hb:items.size+1<scanBound):
  ∀(k i:Nat) (s:Shared),items.size-i=k->i<=items.size->s.heap.IsTupleIter I l i->s.heap.IsTuple l items->ziI prog w s.heap S (ts.take i) →
  (∀h' tk,ziI prog w h' S ts->(∀b o,b≠S->b≠I->s.heap.get? b=some o->h'.get? b=some o)->R (.ok (.ret .none)) {s with heap:=h',toks:=tk}) →
  XH (model prog w) A (.builtin "set.update.loop" ⟨[.ref S,.ref I],[]⟩) R s:=by
 have W:=Walks.tuple (prog:=prog) (w:=w) (A:=A.in1) hA I l hlI items;intro k
 induction k with
 |zero=>
  intro i s hk hi hit hl hS hR
  have hin:i=items.size:=by omega
  subst hin;refine YD F.entry_set_update_loop ?_
  rw[YJ W2 _];show wpAny _ A.in1 (pyNext (.ref I) >>= _) _ _ s
  refine Z7 (W.done s _ _ ⟨hit,hl⟩ λh' tk hk'=>?_);have kb:∀b o,b≠I->s.heap.get? b=some o->h'.get? b=some o:=λb o hb e=>hk' b o (by simpa using hb) e;refine ZY (hR h' tk ?_ λb o _ hb e=>kb b o hb e);rw[Y7 (by omega)] at hS;obtain⟨o,es,ep,t,ho,rest⟩:=hS;exact⟨o,es,ep,t,kb S o hSI ho,rest⟩
 | succ k ih=>
  intro i s hk hi hit hl hS hR
  have hlt:i<items.size:=by omega
  refine YD F.entry_set_update_loop ?_
  rw[YJ W2 _];show wpAny _ A.in1 (pyNext (.ref I) >>= _) _ _ s
  refine Z7 (W.item i s _ _ hlt ⟨hit,hl⟩ λv h' tk hP hst' hk'=>?_);have kb:∀b o,b≠I->s.heap.get? b=some o->h'.get? b=some o:=λb o hb e=>hk' b o (by simpa using hb) e;have hx:ts[i]?=some (ts[i]'(by omega)):=Z2 _;generalize ts[i]'(by omega)=x at hx;obtain⟨t,ht⟩:=hv i x hx
  have ev:v=.str (zaa x) t:=by have hP:items[i]?=some v:=hP;rw[hP] at ht;exact ZR ht
  subst ev
  have hS':ziI prog w h' S (ts.take i):=by obtain⟨o,es,ep,t,ho,rest⟩:=hS;exact⟨o,es,ep,t,kb S o hSI ho,rest⟩
  show wpAny _ A.in1 (holding [Y1 (zaa x) t] (setAdd S (.str (zaa x) t)) >>= _) _ _ _;refine Z7 (YX ?_);unfold setAdd;refine YX ?_;refine Z7 ((strKind prog w).pyHash (k:=zaa x) (strKind_is _ _ _ _) ?_)
  have hroom:(ded (ts.take i)).length+1<scanBound:=by
   have h1:=zm0 (ts.take i)
   have h2:(ts.take i).length<=i:=by rw[Zm];exact Nat.min_le_left _ _
   omega
  have et:ts.take (i+1)=ts.take i++[x]:=by rw[List.take_succ,hx];rfl
  refine wpAny_setAddHashed_of (knd:=strKind prog w) (s:={s with heap:=h',toks:=tk+1}) (strKind_is _ _ _ _) rfl hS' hroom λh2 hsb hS2=>?_
  have hc:((ts.take i).map zaa).contains (zaa x)=(ded (ts.take i)).contains x:=by rw[YW,Y4,Y4,zpk,XM];exact⟨λ⟨y,hy,e⟩=>zby e▸hy,λh=>⟨x,h,rfl⟩⟩
  have hSi:ziI prog w h2 S (ts.take (i+1)):=by
   refine SetOf_congr hS2 (λk'=>?_) ?_
   ·rw [et,Zp]
    rw[YW];simp only[Za,Y4,decide_eq_true_eq,Zu,ZL,Xt,Zi]
   ·rw [et,zlt,hc]
    split<;>simp
  refine ZY ⟨Xi W2 _,ih (i+1) _ (by omega) hlt ?_ ?_ hSi λh3 tk3 hS3 hk3=>?_⟩
  ·exact hst'.1.at λo e=>(hsb.2 I (YZ hSI)).trans e
  ·exact hst'.2.at λo e=>(hsb.2 l (YZ hSl)).trans e
  ·exact hR h3 tk3 hS3 λb o b1 b2 e=>hk3 b o b1 b2 ((hsb.2 b b1).trans (kb b o b2 e))
theorem zg3:isSubtype (.type "tuple") (.type "set")=pure false:=by rw[isSubtype_type];kernel_rfl
theorem zgt:isSubtype (.type "tuple") (.type "frozenset")=pure false:=by rw[isSubtype_type];kernel_rfl
variable {s:Shared}
theorem zgi{Q:Value->Shared->Prop}(hh:A.handled=none)(hl:s.heap.IsTuple l items)(hn:ts.length=items.size)(hv:∀(i:Nat) (x:List Nat),ts[i]?=some x->∃t,items[i]?=some (Y1 (zaa x) t))(hb:items.size+1<scanBound)
  (h:∀h' tk,ziI prog w h' s.heap.objs.size ts->(∀b o,s.heap.get? b=some o->h'.get? b=some o)->Q (.ref s.heap.objs.size) {s with heap:=h',toks:=tk}):
  wpAny (model prog w) A (call (.type "set") [.ref l]) Q E s:=by
 obtain⟨c,tl,hmro⟩:=YL.mro;have hmade:=YL.made;have hsub:=YL.sub
 refine WT (WC ?_);show wpAny _ _ (callAny (.type "set") _) _ _ _
 refine ZY ⟨W8 _ (by decide +kernel),YD PySem.F.entry_type_call ?_⟩;rw[Around.under_plain (weight_type_call_type "set" [.ref l] []) rfl]
 have h1:=YL.notType;have h2:=YL.canCreate;have hct:=PySem.F.typeCall_set_1 (.ref l)
 repeat(any_goals (first | assumption | wp_step))
 refine XT (zmq (.ref l) (E:=E) (Q₁:=λobj s₁=>obj=.ref s.heap.objs.size/\s₁={s with heap:=s.heap.push (set0 w)}) ⟨rfl,rfl⟩) λr s₁ hr=>?_
 cases r with
 |error e=>exact hr
 | ok fl=>
  cases fl with
  | ret obj=>
   obtain⟨rfl,rfl⟩:=hr;have hS:(s.heap.push (set0 w)).get? s.heap.objs.size=some (set0 w):=ZC _ rfl;have hT:Shared.TypeIs {s with heap:=s.heap.push (set0 w)} (.ref s.heap.objs.size) "set":=⟨_,hS,rfl⟩;have hli:=YL.init.lookup;have hbi:=YL.init.bind (.ref s.heap.objs.size)
   repeat(any_goals (first | assumption | wp_step))
   refine XT (YI (R:=wants (λr s₂=>r=.none/\∃h' tk,s₂={s with heap:=h',toks:=tk}/\ziI prog w h' s.heap.objs.size ts/\(∀b o,s.heap.get? b=some o->h'.get? b=some o)) E)
    YL.init.plain PySem.F.entry_set_init (check_set_init_1 hT ?_)) λr₂ s₂ hr₂=>?_
   ·obtain ⟨⟨ocls,odict,odata,oslots⟩,hol,hcl,nl,hdl⟩:=hl
    simp only at hcl hdl
    subst hcl;subst hdl
    have hol':(s.heap.push (set0 w)).get? l=some {cls:=.type "tuple",dict:=odict,data:=.seq items nl,slots:=oslots}:=Z4 _ hol;have hsls:=zg3;have hslf:=zgt
    have hne:(Yi "tuple"==Yi "dict")=false:=by decide
    have hl1:(s.heap.push (set0 w)).IsTuple l items:=⟨_,hol',rfl,nl,rfl⟩;unfold Zh.«set.__init__» noKeywords Zh.Frozenset.updateFrom;generalize hPI:pyIter=PI
    wp_walk
    subst hPI;refine wpAny_pyIter_tuple hl1 ?_;refine Z7 (wpAny_runValue ?_);have hlS:l<s.heap.objs.size:=ZU hol;have sz1:(s.heap.push (set0 w)).objs.size=s.heap.objs.size+1:=Xw ..;refine zoK (ts:=ts) (items:=items) (l:=l) (by simp[hh]) ?_ ?_ (X9 hlS) hn hv hb items.size 0 _ (by omega) (XE _) ⟨_,ZC _ rfl,rfl,rfl⟩ (hl1.at λo e=>Z4 _ e) ?_ ?_
    ·rw[sz1];exact ZK (Y2 hlS)
    ·rw[sz1];exact ZK (Xr _)
    ·exact SetOf_congr ((PyProof.Rows.setObjOf_fresh (knd:=strKind prog w) (!byTx w)).setOf (Z4 _ hS) (by unfold scanBound;omega)) (λ_=>rfl) rfl
    ·intro h' tk g1 g4
     refine ZY ?_;show wpAny _ _ (ret XD) _ _ _;refine ZY ⟨rfl,h',tk,rfl,g1,λb o e=>g4 b o (ZK (ZU e)) ?_ (Z4 _ (Z4 _ e))⟩
     rw[sz1];exact ZK (Y2 (ZU e))
   ·cases r₂ with
    |error e=>exact hr₂
    | ok fl₂=>
     cases fl₂ with
     |ret r=>
      obtain⟨rfl,h',tk,rfl,g1,g4⟩:=hr₂
      repeat(any_goals (first | assumption | wp_step))
      exact h _ _ g1 g4
     |_=>exact hr₂.elim
  |_=>exact hr.elim
end
open PySem PySem.Spec L2
def lenO(v:Addr)(n:Nat):HO:=.ext λh=>∃o es ep t,h.get? v=some o/\o.ExactSet/\o.data=.set es ep t/\VZ.fits t es.size=true/\es.size=n
section
variable {X:Cx}
theorem zfq(hc:X.calm=true):zdr X (.type "set") (λus H Q=>∃(l:Addr) (ts:List (List Nat)),us=[.ref l]/\SqT X.K H l (ts.map λx=>V.str (zaa x))/\ts.length<4000/\∀v,H v=none->Q (.ref v) (upd H v (lenO v (ded ts).length))):=by
 intro pins s σ H us vs Q I rv q;obtain⟨l,ts,rfl,hq,hn,k⟩:=q;obtain⟨u,rfl,ru⟩:=rv.one;cases ru;obtain⟨its,ri,pt,hz⟩:=I.tuple hq
 have hlen:ts.length=its.length:=by have:=ri.length;simpa using this
 refine zgi (ts:=ts) (I.ok.hd hc) (show s.heap.IsTuple l its.toArray from pt) (by simpa using hlen) (λi x hx=>?_) (by rw[ZV];unfold scanBound;omega) λh' tk S kp=>?_
 ·obtain ⟨u,hu,ru⟩:=ri.get (i:=i) (x:=V.str (zaa x)) (by rw[Zs,hx];rfl)
  obtain⟨t,rfl⟩:=(show ∃t',u=Y1 (zaa x) t' from ru);exact⟨t,by simpa using hu⟩
 ·obtain ⟨o,es,ep,t,g1,g2,g3,g4,g5,g6,g7,g8⟩:=S
  exact⟨.ref s.heap.objs.size,upd H s.heap.objs.size (lenO s.heap.objs.size (ded ts).length),I.laid (t':=tk) kp (ZX _) ⟨⟨o,es,ep,t,g1,g2,g3,g7,g8⟩,⟨_,g1⟩,λh1 h2 ⟨o,es,ep,t,e1,e2⟩ kp=>⟨o,es,ep,t,kp _ e1,e2⟩⟩,rfl,k _ I.fresh⟩
theorem ze0:zdr X (.builtin "len") (λus H Q=>∃(v:Addr) (n:Nat),us=[.ref v]/\H v=some (lenO v n)/\n<4096/\Q (.int n) H):=by intro pins s σ H us vs Q I rv q;obtain⟨v,n,rfl,hv,hn,k⟩:=q;obtain⟨u,rfl,ru⟩:=rv.one;cases ru;obtain⟨o,es,ep,t,g1,g2,g3,g4,rfl⟩:=(show zaI X.prog X.w H s.heap v (lenO v n) from I.hok v _ hv).1;exact call_len_set g1 g2 g3 g4 (by omega) ⟨.int _,H,I.tok _,⟨_,rfl⟩,k⟩
theorem zpw{e:Expr}{p p2 pos2 pos:Pos}{f:IT.Env->M R}(hc:X.calm=true)(hg:Gl X "len")(hm:X.mg "len"=none)(hg2:Gl X "set")(hm2:X.mg "set"=none)(he:IE X e f)(hs:ZT [e] X.env=[(false,eval e X.env)])
  (hs2:ZT [.Call (.Name "set" p2) [e] [] pos2] X.env=[(false,eval (.Call (.Name "set" p2) [e] [] pos2) X.env)]):
  IE X (.Call (.Name "len" p) [.Call (.Name "set" p2) [e] [] pos2] [] pos) (λσ=>bnd (f σ) λr=>bnd (rd r) λd=>bnd (opt (zec d)) λz=>ok (.d z)):=by
 refine PE.imp (zaY ze0 hg hm PySem.boot_len (zat (zc7 (zfq hc) hg2 hm2 PyProof.Rows.boot_set (zat he zaW hs) (by decide) (by decide) hs rfl) zaW hs2) (by decide) (by decide) hs2 rfl) λσ H Q q0=>?_;obtain⟨μ,h,env,R0,re,r0,h',e,k⟩:=q0;simp only[zab,zax,zac] at e;obtain⟨r,h1,e1,d,h2,e2,z,h3,⟨e3,rfl⟩,rfl,rfl⟩:=e;refine⟨μ,h,env,R0,re,r,h1,e1,λμ1 H1 v s1 R1 q1=>?_⟩;obtain⟨rfl,zz⟩:=za5 R1 q1 e2
 cases d with
 | tup xs=>
  simp only[RdD,RepD] at zz;obtain⟨a,vs,rfl,q,zs⟩:=zz;simp only[zec] at e3
  cases hx:txts xs with
  |none=>rw[hx] at e3;cases e3
  | some ts=>
   rw[hx] at e3;simp only at e3
   split at e3
   ·rename_i hb
    cases e3;have hb:=of_decide_eq_true hb;rw[zfl zs hx] at q;refine⟨a,ts,rfl,q,hb,λv hv=>?_⟩;have sF:=Stp.fresh (μ:=μ1) (h:=h2) (o:=lenO v (ded ts).length) hv
    exact⟨v,_,rfl,zai,by have:=zm0 ts;omega,k μ1 _ _ (s1.trans sF) (R1.fresh hv) (by simp only[RepR,RepD])⟩
   ·cases e3
 |_=>simp[zec] at e3
end
end IT
namespace IT
open PySem PySem.Sem
def KD{α:Type}:Sem α->Prop|.pure _=>True|.raise _=>True|.unsupported _=>True|.finish _=>True|.rule _ k=>KD (k ())|.at _ k=>KD (k ())|.load _ _ k=>∀o,KD (k o)|.update _ _ f k=>(∀o,(f o).dict=o.dict/\(o.isFreed=false->(f o).isFreed=false))/\KD (k ())|.alloc _ k=>∀a,KD (k a)|.loadIfAlive _ k=>∀o,KD (k o)|.point _ k=>KD (k ())|.fresh k=>∀t,KD (k t)|.ask k=>∀x,KD (k x)|.handled _ k=>∀x,KD (k x)|.stack k=>∀x,KD (k x)|.thread k=>∀x,KD (k x)|_=>False
def DN(e:Addr)(dd:Option Addr)(s:Shared):Prop:=∃o,s.heap.get? e=some o/\o.dict=dd
theorem zsI{α:Type}{M:Model}{Γ:Ctx}{e:Addr}{dd:Option Addr}{Q:α->Pos->Shared->Prop}{E:Value->Pos->Shared->Prop}:∀(m:Sem α) (p:Pos) (s:Shared),KD m->DN e dd s->wp M Γ m Q E p s->wp M Γ m (λa p s=>Q a p s/\DN e dd s) (λa p s=>E a p s/\DN e dd s) p s:=by
 intro m
 induction m with
 |pure a=>intro p s _ d h;exact⟨h,d⟩|raise v=>intro p s _ d h;exact⟨h,d⟩|unsupported w=>intro p s _ d h;exact h|finish w=>intro p s _ d h;exact h|rule t k ih=>intro p s hk d h;exact ih () p s hk d h|«at» t k ih=>intro p s hk d h;exact ih () t s hk d h|load a q k ih=>intro p s hk d h;obtain⟨o,e1,h⟩:=h;exact⟨o,e1,ih o p s (hk o) d h⟩
 | update a q f k ih=>
  intro p s hk d h;refine⟨h.1,ih () p _ hk.2 ?_ h.2⟩;obtain⟨o,e1,e2⟩:=d
  by_cases z:a=e
  ·subst z
   exact⟨f o,Yg f e1 ((hk.1 o).2 (Heap.get?_some_iff.mp e1).2),((hk.1 o).1).trans e2⟩
  ·exact⟨o,(YT _ _ z).trans e1,e2⟩
 |alloc o k ih=>intro p s hk d h;obtain⟨u,e1,e2⟩:=d;exact ih _ p _ (hk _) ⟨u,Z4 _ e1,e2⟩ h|loadIfAlive a k ih=>intro p s hk d h;exact ih _ p s (hk _) d h|point l k ih=>intro p s hk d h;exact ih () p s hk d h|register a k ih=>intro p s hk d h;exact h|fresh k ih=>intro p s hk d h;exact ih _ p _ (hk _) d h|ask k ih=>intro p s hk d h;exact ih _ p s (hk _) d h|handled o k ih=>intro p s hk d h;exact ih _ p s (hk _) d h|stack k ih=>intro p s hk d h;exact ih _ p s (hk _) d h|thread k ih=>intro p s hk d h;exact ih _ p s (hk _) d h|_=>intro p s hk d h;exact hk.elim
theorem zen{α:Type}{M:Model}{A:Around}{e:Addr}{dd:Option Addr}{s:Shared}{m:Sem α}{Q:α->Shared->Prop}{E:Value->Shared->Prop}(hk:KD m)(d:DN e dd s)(h:wpAny M A m Q E s):wpAny M A m (λa s'=>Q a s'/\DN e dd s') (λa s'=>E a s'/\DN e dd s') s:=fun Γ p hΓ=>zsI m p s hk d (h Γ p hΓ)
theorem zam{α β:Type}{f:α->Sem β}:∀{m:Sem α},KD m->(∀a,KD (f a))->KD (m >>= f):=by
 intro m;show KD m->_->KD (Sem.bind m f)
 induction m with|pure a=>intro _ h;exact h a|raise v=>intro _ h;exact trivial|unsupported w=>intro _ h;exact trivial|finish w=>intro _ h;exact trivial|rule t k ih=>intro q h;exact ih () q h|«at» t k ih=>intro q h;exact ih () q h|load a z k ih=>intro q h o;exact ih o (q o) h|update a z g k ih=>intro q h;exact⟨q.1,ih () q.2 h⟩|alloc o k ih=>intro q h a;exact ih a (q a) h|loadIfAlive a k ih=>intro q h o;exact ih o (q o) h|point l k ih=>intro q h;exact ih () q h|fresh k ih=>intro q h o;exact ih o (q o) h|ask k ih=>intro q h o;exact ih o (q o) h|handled z k ih=>intro q h o;exact ih o (q o) h|stack k ih=>intro q h o;exact ih o (q o) h|thread k ih=>intro q h o;exact ih o (q o) h|_=>intro q h;exact q.elim
theorem zky{g:Array Value->Array Value}(o:Obj):(Obj.mapFields g o).dict=o.dict/\(o.isFreed=false->(Obj.mapFields g o).isFreed=false):=by
 obtain⟨c,d,dt,sl⟩:=o
 cases dt<;>first | exact⟨rfl,λh=>h⟩|exact⟨rfl,λ_=>rfl⟩
theorem zhm{a:Addr}:KD (PySem.load a):=λ_=>trivial
theorem zhr{v:Value}:KD (fieldsOf v):=by
 unfold fieldsOf
 split
 ·refine zam zhm λo=>?_
  split<;>trivial
 ·trivial
theorem zc0{v:Value}{i:Nat}:KD (field v i):=by
 unfold field;refine zam zhr λo=>?_
 split<;>trivial
theorem zdZ{a:Addr}{i:Nat}{v:Value}:KD (updateField a i v):=by
 unfold updateField;refine zam zhm λo=>?_
 split
 ·split
  ·exact⟨λo=>zky o,trivial⟩
  ·trivial
 ·trivial
theorem zbl{v x:Value}{i:Nat}:KD (setField v i x):=by
 unfold setField
 split
 ·exact zdZ
 ·trivial
theorem zbv{e:Value}{f:Option Addr}:KD (VC e f):=by
 unfold VC;refine zam zc0 λtb=>?_
 split
 ·exact zbl
 ·trivial
theorem zfb:KD stack:=λ_=>trivial
theorem zf2:KD frameEnvs:=by unfold frameEnvs;exact zam zfb λ_=>trivial
theorem zcL{env:Yz}{outer:List Yz}:KD (behindIsImport env outer):=by
 unfold behindIsImport
 split
 ·trivial
 ·split
  ·trivial
  ·exact zam zc0 λ_=>trivial
theorem zlE:KD underTheClaimsCaller:=by unfold underTheClaimsCaller;exact zam zfb λ_=>trivial
theorem zg7{env:Yz}{i:Bool}:∀{l:List Yz},KD (keptBack env i l)
 | []=>by
  show KD (if(env.scope.isGenerator||env.scope.isCoroutine)=true then Pure.pure XD else(do return if<-underTheClaimsCaller then .notImplemented else .none))
  split
  ·trivial
  ·exact zam zlE λ_=>trivial
 |_::_=>trivial
theorem zbS:∀{l:List Yz},KD (readyFrames l)
 | []=>by unfold readyFrames;trivial
 | env::outer=>by
  unfold readyFrames
  split
  ·refine zam zhm λo=>?_
   split
   ·trivial
   ·refine zam zcL λ_=>zam zg7 λ_=>zam ?_ λ_=>zbS
    exact⟨λo=>⟨rfl,λh=>by obtain⟨c,d,dt,sl⟩:=o;cases dt<;>exact h⟩,trivial⟩
  ·trivial
theorem zdY:∀{l:List Yz},KD (frameObject l)
 | []=>by unfold frameObject;trivial
 |env::outer=>by unfold frameObject;exact zam zbS λ_=>trivial
theorem zeq{env:Yz}:KD (frameOf env):=by
 unfold frameOf;refine zam zf2 λl=>zam zdY λo=>?_
 split<;>trivial
theorem zbB{f:Addr}{b:Bool}:KD (entryPlaceOf f b):=by
 unfold entryPlaceOf;refine zam zfb λl=>?_
 split<;>trivial
theorem zfK{ty:String}{vs:List Value}:KD (newFields ty vs):=by
 unfold newFields newObj;dsimp only
 split
 ·trivial
 ·unfold newObjAsIs
  exact zam (m:=PySem.alloc _) (λ_=>trivial) λ_=>trivial
theorem zdi{a b c d e:Value}{l:List Value}:KD (EntryCells.newEntry a b c d e l):=zfK
theorem zcQ{e:Value}{env:Yz}:KD (VD e env):=by
 unfold VD
 split
 ·refine zam zc0 λhead=>?_
  split
  ·refine zam zc0 λx=>?_
   split
   ·trivial
   ·exact zam zbl λ_=>zam zeq λ_=>zam zbB λ_=>zam zdi λ_=>zbl
  ·exact zam zeq λ_=>zam zbB λ_=>zam zdi λ_=>zbl
 ·trivial
theorem zcD{e:Value}{env:Yz}:KD (leaving env e):=by unfold leaving;exact zam zcQ λ_=>zbv
end IT
namespace IT
open PySem PySem.Spec L2
theorem zkc{P:ZH}{w:World}{H:Hp}{h:Heap}{a:Addr}{o:HO}(x:zaI P w H h a o):∃u,h.get? a=some u:=by
 cases o with|lst xs=>obtain⟨_,_,_,_,e⟩:=x;exact⟨_,e⟩|tup xs=>obtain⟨_,_,_,⟨_,e,_⟩,_⟩:=x;exact⟨_,e⟩|dK kvs=>obtain⟨_,_,_,_,o,_,_,e,_⟩:=x;exact⟨_,e⟩|dT kvs=>obtain⟨_,_,_,_,o,_,_,e,_⟩:=x;exact⟨_,e⟩|set S n=>obtain⟨o,_,_,_,e,_⟩:=x;exact⟨_,e⟩|ins C dx fs=>obtain⟨_,_,_,e,_⟩:=x;exact⟨_,e⟩|own y=>obtain⟨_,e⟩:=x;exact⟨_,e⟩|xd fs=>obtain⟨_,⟨_,_,_,e,_⟩,_⟩:=x;exact⟨_,e⟩|rng lo hi=>obtain⟨_,_,_,e⟩:=x;exact⟨_,e⟩|frz ob u=>obtain⟨e,_⟩:=x;exact⟨_,e⟩|tbl ps=>exact⟨_,(show h.get? a=some _ from x)⟩|met f y=>exact⟨_,(show h.get? a=some _ from x)⟩|ext φ=>obtain⟨_,⟨_,e⟩,_⟩:=x;exact⟨_,e⟩
theorem zc4{fs:List Addr}{H0 H1:Hp}{h0 h h':Heap}(u:Un fs [] H0 H1 h0 h)(kp:∀b o,h0.get? b=some o->b∉fs->∀o',h.get? b=some o'->h'.get? b=some o')
  (sl:∀b o,h0.get? b=some o->b∈fs->∀o',h.get? b=some o'->∃s,h'.get? b=some {o' with slots:=s}):Un fs [] H0 H1 h0 h' where
 keep:=λb o q n hb hx=>kp b o q hb o (u.keep b o q n hb hx)
 slot:=λb o q n hb hx=>by obtain⟨s,e⟩:=u.slot b o q n hb hx;obtain⟨s',e'⟩:=sl b o q hb _ e;exact⟨s',e'⟩
 free:=u.free
 there:=λb o q hx=>by
  obtain⟨o',e⟩:=u.there b o q hx
  by_cases hb:b∈fs
  ·obtain ⟨s',e'⟩:=sl b o q hb _ e
   exact⟨_,e'⟩
  ·exact⟨o',kp b o q hb o' e⟩
 tups:=u.tups
 frzs:=u.frzs
 tbls:=u.tbls
theorem zcc{P:ZH}{w:World}{H:Hp}{h h':Heap}(x:HOk P w H h)(k:∀b,(∃o,H b=some o)->∀u,h.get? b=some u->h'.get? b=some u):HOk P w H h':=λa o e=>(x a o e).stay (λb u hb q=>k b (hb.elim (λz=>⟨o,z▸e⟩) λz=>⟨_,z⟩) u q) (λ_ q=>q) λ_ _ q=>q
structure Fly(P:ZH)(w:World)(outer:List Yz)(H:Hp)(s:Shared)(C:Value)(a:Addr)(H':Hp)(s':Shared):Prop where
 os:s'.os=s.os
 bare:PyProof.Rows.AllBare s'.gens
 un:Un (frs outer) [] H H' s.heap s'.heap
 hok:HOk P w H' s'.heap
 fly:∃(B:Heap) (t:Value),Heap.FlyingW B outer a C t s'.heap/\(∀b o,s.heap.get? b=some o->b∉frs outer->∃u,B.get? b=some u)/\∀b o,H' b=some o->∃u,B.get? b=some u
def CXk(P:ZH)(w:World):CXT:=λouter H s E e s'=>∃a C od H',e=.ref a/\Fly P w outer H s C a H' s'/\DN a od s'/\E C od H'
section
variable {X:Cx}{pins:List (Addr×Obj)}{σ:St}{H:Hp}{s s':Shared}{E:XK}{EE:Value->Shared->Prop}
structure zd5(X:Cx):Prop where
 ex:X.ex=[]
 st:X.stack=X.env::X.outer
 fr:X.env.frame=some X.env.locals
theorem ziU(hd:zd5 X)(I:Inv X pins σ H s){b:Addr}{o:Obj}(e:X.s₀.heap.get? b=some o)(hb:b∉X.fs):b∉frs X.stack:=λz=>by
 rcases ZE.mp (I.stkSub b z) with q | q
 ·exact absurd (ZF (ZU e) I.ok.above) (by rw[q];exact YH _)
 ·exact hb q
theorem znF(hd:zd5 X){b:Addr}(hb:b∈X.fs):b∈frs X.stack:=by rw[hd.st];unfold frs;rw[Yr,hd.fr];exact Zx _ hb
theorem zmE(hd:zd5 X)(I:Inv X pins σ H s){h':Heap}{e:Addr}{C:Value}{vs:List Value}(m:Wm s.heap h' e C vs)(q:E C none H):
  wpAny (model X.prog X.w) X.A (leaving X.env (.ref e)) (λ_ s''=>CXk X.prog X.w X.outer X.H₀ X.s₀ E (.ref e) s'') EE {s with heap:=h'}:=by
 have hd0:DN e none {s with heap:=h'}:=let ⟨t,e1,_⟩:=m.there;⟨_,e1,rfl⟩
 refine ZI (zen zcD hd0 (Q:=λ_ s''=>∃a C H',Y9 e=.ref a/\Fly X.prog X.w X.outer X.H₀ X.s₀ C a H' s''/\E C none H') (E:=EE) ?_) (λ_ s'' z=>let ⟨⟨a,C',H',ea,f,q⟩,d⟩:=z;⟨a,C',none,H',ea,f,by cases ea;exact d,q⟩) (λ_ _ z=>z.1)
 have hst:=I.stack
 refine wpAny_leaves_madeW (base:=WF s.heap (frs X.stack)) (h:=s.heap) (L:=X.env.locals) (outer:=X.outer) (by rw[I.ok.frames,hd.st]) hd.fr (λb o q=>Wu _ q)
  (by rw[<-hd.st];exact PySem.W.funFrames_hide hst λenv he a hf=>W9.mpr ⟨env,he,hf⟩) m λh2 t fl tup tn up=>?_
 have kp:∀b o,s.heap.get? b=some o->b∉frs X.stack->h2.get? b=some o:=λb o e hb=>fl.1 b o (YF _ e hb)
 have sl:∀b o,b∈frs X.stack->s.heap.get? b=some o->∃z,h2.get? b=some {o with slots:=z}:=λb o hb e=>by obtain⟨_,o',e',hn⟩:=hst.mem hb;rw[e] at e';cases e';exact up b o (m.keeps b o e) hn
 have b0:=I.base;rw[hd.ex] at b0
 refine ⟨e,C,H,rfl,⟨I.os,I.bare,zc4 b0 (λb o e hb o' e'=>kp b o' e' (ziU hd I e hb)) (λb o e hb o' e'=>sl b o' (znF hd hb) e'),zcc I.hok (λb ⟨o,ho⟩ u e'=>kp b u e' λz=>by rw[I.stkFree b z] at ho;cases ho),_,_,fl,λb o e hb=>?_,λb o ho=>?_⟩,q⟩
 ·obtain ⟨o',e'⟩:=b0.there b o e (by simp)
  exact⟨o',YF _ e' (ziU hd I e hb)⟩
 ·obtain ⟨u,e'⟩:=zkc (I.hok b o ho)
  exact⟨u,YF _ e' λz=>by rw[I.stkFree b z] at ho;cases ho⟩
theorem zqe(hd:zd5 X)(I:Inv X pins σ H s){e:Value}(c:CXk X.prog X.w X.stack H s E e s'):
  wpAny (model X.prog X.w) X.A (leaving X.env e) (λ_ s''=>CXk X.prog X.w X.outer X.H₀ X.s₀ E e s'') EE s':=by
 obtain⟨a,C,od,H',rfl,⟨os,bare,un,hok,B,t,fl,k3,k2⟩,dn,q⟩:=c
 refine ZI (zen zcD dn (Q:=λ_ s''=>∃a' C H',Y9 a=.ref a'/\Fly X.prog X.w X.outer X.H₀ X.s₀ C a' H' s''/\E C od H') (E:=EE) ?_) (λ_ s'' z=>let ⟨⟨a',C',H',ea,f,q⟩,d⟩:=z;⟨a',C',od,H',ea,f,by cases ea;exact d,q⟩) (λ_ _ z=>z.1)
 have I':Inv X pins σ H' s':=I.call' os un hok bare (by simp);have b0:=I.base;have b1:=I'.base;rw[hd.ex] at b0 b1;have fl':=fl;rw[hd.st] at fl';refine wpAny_leaves_onW (by rw[I.ok.frames,hd.st]) hd.fr fl' λh2 fl2 up=>?_;have kp:∀b u,B.get? b=some u->s'.heap.get? b=some u/\h2.get? b=some u:=λb u e=>⟨fl.1 b u e,fl2.1 b u e⟩;refine⟨a,C,H',rfl,⟨I'.os,I'.bare,zc4 b1 (λb o e hb o' e'=>?_) (λb o e hb o' e'=>?_),zcc hok (λb ⟨o,ho⟩ u e'=>?_),B,t,fl2,λb o e hb=>?_,k2⟩,q⟩
 ·obtain ⟨o1,e1⟩:=b0.there b o e (by simp)
  obtain⟨u,eu⟩:=k3 b o1 e1 (ziU hd I e hb);obtain⟨z1,z2⟩:=kp b u eu;rw[e'] at z1;cases z1;exact z2
 ·obtain ⟨_,o2,e2,hn⟩:=fl.2.2.1.mem (znF hd hb)
  rw[e'] at e2;cases e2;exact up b o' e' hn
 ·obtain ⟨u',eu⟩:=k2 b o ho
  obtain⟨z1,z2⟩:=kp b u' eu;rw[e'] at z1;cases z1;exact z2
 ·obtain ⟨o1,e1⟩:=b0.there b o e (by simp)
  exact k3 b o1 e1 (ziU hd I e hb)
def Cx.caught(X:Cx)(e:Addr)(E:Value->Shared->Prop):Cx:={X with A:=X.A.mark (some (.ref e)),calm:=false,xe:=E}
theorem Inv.caught(I:Inv X pins σ H s)(e:Addr)(E:Value->Shared->Prop):Inv (Cx.caught X e E) pins σ H s:=
 ⟨⟨I.ok.mod,I.ok.kind,I.ok.glob,I.ok.blt,I.ok.above,I.ok.inj,I.ok.has,I.ok.cab,λz=>(by cases z),I.ok.frames,I.ok.stk,I.ok.exf,I.ok.bs,I.ok.bsz,I.ok.noex,I.ok.exfs,I.ok.funs,I.ok.frf⟩,
  I.os,I.bare,I.base,I.loc,I.cell,I.free,I.freeC,I.pin,I.hok,I.len⟩
theorem Inv.uncaught{e:Addr}{E:Value->Shared->Prop}(I:Inv X pins σ H s){σ':St}{H':Hp}{s':Shared}(J:Inv (Cx.caught X e E) pins σ' H' s'):Inv X pins σ' H' s':=⟨I.ok,J.os,J.bare,J.base,J.loc,J.cell,J.free,J.freeC,J.pin,J.hok,J.len⟩
end
end IT
namespace IT
open PySem PySem.Spec L2
section
variable {X:Cx}
theorem zkg{es:List Expr}{t:TA}(h:PA X.nox es t):PA X es t:=λpos pins s σ H Q I q=>ZI (h pos pins s σ H Q (I.wish _) q) (λ_ _ ⟨vs,H',I',r,q⟩=>⟨vs,H',I'.unwish,r,q⟩) λ_ _ z=>YS z
theorem zrs{tg:Expr}{t:TG}(h:PG X.nox tg t):PG X tg t:=λpins s σ H v u Q I r q=>ZI (h pins s σ H v u Q (I.wish _) r q) (λ_ _ ⟨σ',H',I',q⟩=>⟨σ',H',I'.unwish,q⟩) λ_ _ z=>YS z
theorem zrH{tg iter:Expr}{t:TI}(h:PI X.nox tg iter t):PI X tg iter t:=λpins s σ H Q I q=>ZI (h pins s σ H Q (I.wish _) q) (λv s1 z=>ZI z (λitv s2 ⟨it,fp,tn,J,H',e,I',T,t0,f,q⟩=>⟨it,fp,tn,J,H',e,I'.unwish,T,t0,f,q⟩) λ_ _ z=>YS z) λ_ _ z=>YS z
theorem zp7{st:Stmt}{t:TS}(h:PS X.nox st t):PS X st t:=λpins s σ H D I hw=>ZI (h pins s σ H D (I.wish _) hw) (λ_ _ q=>q.unwish) λ_ _ z=>YS z
end
inductive RX(K:Z8)(m:IT.Env->M R)(E:R->Hp->Prop)(σ:St)(H:Hp):Prop where|mk (μ:List Addr) (h:Sto) (env:IT.Env) (R0:Rep K μ h H) (re:RepE K μ h H env σ) (r:R) (h':Sto) (e:m env h=some (r,h')) (k:∀μ' H',Stp μ h H μ' h' H'->Rep K μ' h' H'->E r H')
def XS(X:Cx)(E:R->Hp->Prop)(st:Stmt)(m:IT.Env->M R):Prop:=∀(pins:List (Addr×Obj)) (s:Shared) (σ:St) (H:Hp),Inv X pins σ H s->RX X.K m E σ H->wpAny (model X.prog X.w) X.A (exec st X.env) (λ_ _=>False) X.xe s
def XSs(X:Cx)(E:R->Hp->Prop)(sts:List Stmt)(m:IT.Env->M R):Prop:=∀(pins:List (Addr×Obj)) (s:Shared) (σ:St) (H:Hp),Inv X pins σ H s->RX X.K m E σ H->wpAny (model X.prog X.w) X.A (execs sts X.env) (λ_ _=>False) X.xe s
def zpH:Ends:={nx:=λ_ _=>False,rt:=λ_ _=>False}
section
variable {X:Cx}{E:R->Hp->Prop}
theorem zmp{pins:List (Addr×Obj)}{f:Flow}{s:Shared}(h:SP X pins zpH f s):False:=by
 cases f with|next=>obtain⟨_,_,_,z⟩:=h;exact z|brk=>obtain⟨_,_,_,z⟩:=h;exact z|cont=>obtain⟨_,_,_,z⟩:=h;exact z|ret u=>obtain⟨_,_,_,_,_,z⟩:=h;exact z
theorem zpM{st:Stmt}{t:TS}{m:IT.Env->M R}(h:PS X st t)(i:∀σ H,RX X.K m E σ H->t zpH σ H):XS X E st m:=λpins s σ H I q=>ZI (h pins s σ H zpH I (i σ H q)) (λ_ _ z=>zmp z) λ_ _ z=>z
theorem zaL{st:Stmt}:XS X E st (λ_ _=>none):=λpins s σ H I ⟨_,_,_,_,_,_,_,e,_⟩=>by cases e
theorem zoA:XSs X E [] (λ_ _=>none):=λpins s σ H I ⟨_,_,_,_,_,_,_,e,_⟩=>by cases e
theorem zl1{st:Stmt}{sts:List Stmt}{f:IT.Env->M (Fl×IT.Env)}{m ms:IT.Env->M R}(h1:PS X st (tS X.K f))(x1:XS X E st m)(h2:XSs X E sts ms):
  XSs X E (st::sts) (λσ h=>match f σ h with
   |some ((fl,σ1),h1)=>match fl with
    |.nx=>ms σ1 h1|_=>none
   |none=>m σ h):=by
 intro pins s σ H I ⟨μ,h,env,R0,re,r,h',e,k⟩
 (try dsimp only at e)
 cases ef:f env h with
 |none=>rw[ef] at e;exact Xu (ZI (x1 pins s σ H I ⟨μ,h,env,R0,re,r,h',e,k⟩) (λ_ _ z=>z.elim) λ_ _ z=>z)
 | some p=>
  obtain⟨⟨fl,env1⟩,h1'⟩:=p;rw[ef] at e
  cases fl with
  |nx=>
   refine Xu (thn (h1 pins s σ H {nx:=λσ1 H1=>RX X.K ms E σ1 H1,rt:=λ_ _=>False} I ⟨μ,h,env,R0,re,.nx,env1,h1',ef,λμ1 H1 σ1 s1 R1 re1=>⟨μ1,h1',env1,R1,re1,r,h',e,λμ2 H2 s2 R2=>k μ2 H2 (s1.trans s2) R2⟩⟩) λf s1 q=>?_)
   cases f with|next=>obtain⟨σ1,H1,I1,q⟩:=q;exact h2 pins s1 σ1 H1 I1 q|brk=>obtain⟨_,_,_,z⟩:=q;exact z|cont=>obtain⟨_,_,_,z⟩:=q;exact z|ret u=>obtain⟨_,_,_,_,_,z⟩:=q;exact z
  |brk=>cases e|cnt=>cases e|ret _=>cases e
theorem zsC{c:Expr}{a b:List Stmt}{pos:Pos}{ft:IT.Env->M Bool}{fa fb:IT.Env->M R}(hc:IT' X c ft)(ha:XSs X E a fa)(hb:XSs X E b fb):
  XS X E (.If c a b pos) (λσ=>bnd (ft σ) λt=>if t then fa σ else fb σ):=by
 intro pins s σ H I ⟨μ,h,env,R0,re,r,h',e,k⟩;simp only[zab] at e;obtain⟨t,h1,e1,e2⟩:=e;refine wpAny_If (thn (hc pins s σ H (λb H1=>b=t/\RX X.K (if t=true then fa else fb) E σ H1) I ⟨μ,h,env,R0,re,t,h1,e1,λμ1 H1 v s1 R1 hv=>?_⟩) λd s1 ⟨H1,I1,q1⟩=>?_)
 ·subst hv
  refine⟨rfl,μ1,h1,env,R1,re.stp s1 R0,r,h',?_,λμ2 H2 s2 R2=>k μ2 H2 (s1.trans s2) R2⟩
  cases t<;>exact e2
 ·obtain ⟨rfl,q⟩:=q1
  cases d with|true=>exact ha pins s1 σ H1 I1 q|false=>exact hb pins s1 σ H1 I1 q
def tB(K:Z8)(E:R->Hp->Prop)(f:IT.Env->M (Fl×IT.Env))(m:IT.Env->M R):TS:=λD σ H=>tS K f D σ H\/RX K m E σ H
theorem zlK{sts:List Stmt}{f:IT.Env->M (Fl×IT.Env)}{m:IT.Env->M R}(h:PSs X sts (tS X.K f))(x:XSs X E sts m):PSs X sts (tB X.K E f m):=λpins s σ H D I q=>by
 rcases q with q | q
 ·exact h pins s σ H D I q
 ·exact ZI (x pins s σ H I q) (λ_ _ z=>z.elim) λ_ _ z=>z
theorem zrQ{tg iter:Expr}{body:List Stmt}{pos:Pos}{t:Tg}{fi:IT.Env->M Wk}{fb:IT.Env->M (Fl×IT.Env)}{fx:IT.Env->M R}(hp:V4 (model X.prog X.w) X.A X.env X.xe)(hc:X.calm=true)(hi:PI X tg iter (tI X.K fi))(hg:PG X tg (tGI X.K t))(hb:PSs X body (tS X.K fb))(hx:XSs X E body fx)
  (hs:∀x,Yt iter X.env x=pure x) (hwl:∀σ h w h',fi σ h=some (w,h')->WlOk w h'):
  XS X E (.For tg iter body [] pos) (λσ=>bnd (fi σ) λw=>zb9 w.l (λx σ=>bnd (zan t x σ) λσ'=>fb σ') (λx σ=>bnd (zan t x σ) λσ'=>fx σ') w.xs σ):=by
 refine zpM (zm8 hp hc hi hg (zlK hb hx) hs) λσ H q0=>?_;obtain⟨μ,h,env,R0,re,r,h',e,k⟩:=q0;simp only[zab] at e;obtain⟨w,h1,e1,e2⟩:=e;refine⟨μ,h,env,R0,re,w,h1,e1,λμ1 H1 J s1 R1 W1 _=>?_⟩
 refine ⟨λi m σ2 H2=>∃μ2 h2 env2,Stp μ1 h1 H1 μ2 h2 H2/\zaE w.l h1 h2=true/\Rep X.K μ2 h2 H2/\RepE X.K μ2 h2 H2 env2 σ2/\i+m=w.xs.length ∧
   zb9 w.l (λx σ=>bnd (zan t x σ) λσ'=>fb σ') (λx σ=>bnd (zan t x σ) λσ'=>fx σ') (w.xs.drop i) env2 h2=some (r,h'),⟨w.xs.length,μ1,h1,env,Stp.refl,zcJ _ _ (hwl _ _ _ _ e1),R1,re.stp s1 R0,by omega,by rw[Yh];exact e2⟩,?_⟩
 rintro i m σ2 H2 ⟨μ2,h2,env2,s2,sy2,R2,re2,him,el⟩
 cases hx':w.xs[i]? with
 |none=>
  have hi':w.xs.length<=i:=by simpa using hx'
  rw[Yo hi'] at el;cases el
 | some x=>
  have hil:i<w.xs.length:=(Z3.mp hx').1
  have hdrop:w.xs.drop i=x::w.xs.drop (i+1):=by rw[Yd hil,(Z3.mp hx').2]
  rw[hdrop] at el;unfold zb9 at el;obtain⟨go,yld⟩:=W1.go μ2 h2 H2 i x s2 R2 sy2 hx'
  refine .inr ⟨go,λσ' H'=>∃m',m'<m/\∃μ5 h5 env5,Stp μ1 h1 H1 μ5 h5 H'/\zaE w.l h1 h5=true/\Rep X.K μ5 h5 H'/\RepE X.K μ5 h5 H' env5 σ'/\(i+1)+m'=w.xs.length ∧
    zb9 w.l (λx σ=>bnd (zan t x σ) λσ'=>fb σ') (λx σ=>bnd (zan t x σ) λσ'=>fx σ') (w.xs.drop (i+1)) env5 h5=some (r,h'),λσ' H' hN=>hN,λv H' hy=>?_⟩
  obtain⟨sy,Ry,zx⟩:=yld v H' hy
  cases ef:bnd (zan t x env2) (λσ'=>fb σ') h2 with
  |none=>
   rw[ef] at el;have el:bnd (zan t x env2) (λσ'=>fx σ') h2=some (r,h'):=el;simp only[zab] at el;obtain⟨env4,h4,e4,e5⟩:=el
   have:=zcn e4
   subst this;exact⟨μ2,_,env2,x,env4,Ry,re2.stp sy R2,zx,e4,λσ4 re4=>.inr ⟨μ2,_,env4,Ry,re4,r,h',e5,λμ5 H5 s5 R5=>k μ5 H5 ((s1.trans s2).trans (sy.trans s5)) R5⟩⟩
  | some p=>
   obtain⟨⟨fl3,env3⟩,h3⟩:=p;rw[ef] at el;simp only[zab] at ef;obtain⟨env4,h4,e4,e5⟩:=ef
   have:=zcn e4
   subst this;refine⟨μ2,_,env2,x,env4,Ry,re2.stp sy R2,zx,e4,λσ4 re4=>.inl ⟨μ2,_,env4,Ry,re4,fl3,env3,h3,e5,λμ5 H5 σ5 s5' R5 re5=>?_⟩⟩;have s5:=sy.trans s5'
   cases fl3 with
   | nx=>
    simp only at el
    split at el
    ·rename_i sy5
     exact⟨m-1,by omega,μ5,h3,env3,s2.trans s5,zaH sy2 sy5,R5,re5,by omega,el⟩
    ·cases el
   | cnt=>
    simp only at el
    split at el
    ·rename_i sy5
     exact⟨m-1,by omega,μ5,h3,env3,s2.trans s5,zaH sy2 sy5,R5,re5,by omega,el⟩
    ·cases el
   |brk=>cases el|ret r=>cases el
end
abbrev ClsV:=R->Option Value
def OdOk(r:R)(od:Option Addr)(H:Hp):Prop:=match r with|.d (.tup [_,.int k])=>∃dx,od=some dx/\H dx=some (.xd [("number",.int k)])|_=>od=none
def spX(K:Z8)(cv:ClsV)(np:Nat)(m:List R->M R):Sp:=λvs H _ E=>vs.length=np/\∃μ h rs r h' C,Rep K μ h H/\zaM K μ h H rs vs/\m rs h=some (r,h')/\cv r=some C/\∀μ' H' od,Stp μ h H μ' h' H'->Rep K μ' h' H'->OdOk r od H'->E C od H'
structure FunX(X:Cx)(cv:ClsV)(n:Nat)(x:Str)(np:Nat)(dfl:List D)(m:List R->M R):Prop where
 ex:∃f fd ps dvs,FnOk X.prog X.w X.K X.mg X.base (CXk X.prog X.w) n f fd ps (spX X.K cv np m)/\X.mg x=some (.ref f)/\YO X.K (.ref f)=true/\(∀A H,RepDs X.K A H dfl dvs)/\(∀j,j<=dfl.length->∃ds,zdk X.K fd ps ds/\Vals (dvs.drop j) ds)
 fill:∀rs,m rs=m (zar np dfl rs)
 len:∀rs h p,m rs h=some p->(zar np dfl rs).length=np
 cls:∀rs h r h',m rs h=some (r,h')->∃C,cv r=some C
section
variable {X:Cx}{E:R->Hp->Prop}{cv:ClsV}
def wX(cv:ClsV)(E:R->Hp->Prop):XK:=λC od H=>∃r,cv r=some C/\OdOk r od H/\E r H
theorem zn8{n np:Nat}{x:Str}{dfl:List D}{m:List R->M R}{e:Expr}{es:List Expr}{p pos:Pos}{fs:IT.Env->M (List R)}(hF:FunX X cv n x np dfl m)(hr:Room n X.A)(hg:Gl X x)(hx:zfP (CXk X.prog X.w) X (wX cv E))(ha:IA X (e::es) fs)(hf:∀σ h rs h',fs σ h=some (rs,h')->rs.length=(e::es).length)
  (hdb:(x==("__debug__":Str))=false) (he:ZT (e::es) X.env=(false,eval e X.env)::ZT es X.env) (hpl:(backTo pos (ZT es X.env)).any (·.1)=false):
  PE X (.Call (.Name x p) (e::es) [] pos) (λσ H _=>RX X.K (λσ=>bnd (fs σ) λrs=>m rs) E σ H):=by
 obtain⟨f,fd,ps,dvs,F,hm,hk,hd,hb⟩:=hF.ex
 by_cases hj:(e::es).length+dfl.length-np<=dfl.length/\¬(e::es).length+dfl.length<np
 ·obtain ⟨hj,hj2⟩:=hj
  obtain⟨ds,hb,hv⟩:=hb _ hj;refine PE.imp (zg5 F hr hg hm hk hb hv hx ha hdb he hpl) λσ H Q q0=>?_;obtain⟨μ,h,env,R0,re,r,h',ee,k⟩:=q0;simp only[zab] at ee;obtain⟨rs,h1,e1,e2⟩:=ee;refine⟨μ,h,env,R0,re,rs,h1,e1,λμ1 H1 vs s1 R1 q1=>?_⟩;have hlen:=hF.len _ _ _ e2;obtain⟨C,hC⟩:=hF.cls _ _ _ _ e2;rw[hF.fill rs] at e2
  have qq:zaM X.K μ1 h1 H1 (zar np dfl rs) (vs++dvs.drop ((e::es).length+dfl.length-np)):=by
   rw[zaK (by rw[hf _ _ _ _ e1];exact hj2),hf _ _ _ _ e1]
   exact q1.app (RepDs.drop _ (hd _ _)).rs
  exact⟨by rw[<-qq.length];exact hlen,μ1,h1,zar np dfl rs,r,h',C,R1,qq,e2,hC,λμ2 H2 od s2 R2 o2=>⟨r,hC,o2,k μ2 H2 (s1.trans s2) R2⟩⟩
 ·intro pins s σ H Q I q0
  exfalso
  obtain⟨μ,h,env,R0,re,r,h',ee,k⟩:=q0;simp only[zab] at ee;obtain⟨rs,h1,e1,e2⟩:=ee;have hlen:=hF.len _ _ _ e2;have hrs:=hf _ _ _ _ e1
  by_cases hs:rs.length+dfl.length<np
  ·rw [za8 hs] at hlen
   omega
  ·rw [zaK hs] at hlen
   simp only[ZZ,Z1,YU] at hlen;omega
end
abbrev veM:List Value:=[.type "ValueError",.type "Exception",.type "BaseException",.type "object"]
theorem zmK{K:Z8}{h:Heap}{A:Addr}{c0:Value}{dd:Option Addr}{cd:ClassData}{sl:Array (Option Value)}(X:K.In h)(l:K.lookup A=some ⟨c0,dd,.cls cd,sl⟩)(ok:PySem.W.nsOkIn K cd.ns=true)(ni:ZO K cd.ns "__init__"=some none){bm:List Value}(t:VB h veM bm):VB h veM (.ref A::bm):=.own (X _ _ l) (.of_isNs (PySem.W.isNs_of_in X ok)) (PySem.W.nsMap_none_of_in X ok ni) t
section
variable {X:Cx}{E:R->Hp->Prop}{cv:ClsV}
end
end IT
namespace IT
open PySem PySem.Spec L2
section
variable {X:Cx}{pins:List (Addr×Obj)}{σ:St}{H:Hp}{s:Shared}
theorem zhQ{E:Value->Shared->Prop}(h:X.xe=λ_ _=>False):(X.wish E).nox=X:=by cases X;simp only at h;subst h;rfl
theorem zoa{CX:CXT}{n:Nat}{f:Addr}{fd:FuncData}{ps:List Str}{sp:Sp}{dvs:List V}{ds:List Value}{E:XK}{Q:VK}{us:List Value}{vs:List V}(F:FnOk X.prog X.w X.K X.mg X.base CX n f fd ps sp)(hr:Room n X.A)(hb:zdk X.K fd ps ds)(hd:Vals dvs ds)
  (hx:∀e s',CX X.stack H s E e s'->X.xe e s') (I:Inv X pins σ H s) (r:Vals vs us) (h:sp (vs++dvs) H Q E):wpAny (model X.prog X.w) X.A (call (.ref f) us) (EP X pins σ Q) X.xe s:=by
 have hv:Vals (vs++dvs) (us++ds):=r.append hd;refine WT (XT (F.run X.A X.stack s H ⟨us,[]⟩ _ _ Q E hr I.env0 (hb s us I.kIn (by rw[<-hv.length,F.len _ _ _ _ h])) hv h) λres s' hq=>?_)
 match res,hq with|.error e,hq=>exact hx e s' hq|.ok (.ret u),hq=>exact I.after hq
theorem zjT{CX:CXT}{n:Nat}{f:Addr}{fd:FuncData}{ps:List Str}{sp:Sp}{dvs:List V}{ds:List Value}{E:XK}{Q:VK}{x:Str}{p pos:Pos}{e:Expr}{es:List Expr}{t:TA}(F:FnOk X.prog X.w X.K X.mg X.base CX n f fd ps sp)(hr:Room n X.A)(hg:Gl X x)(hm:X.mg x=some (.ref f))(hk:YO X.K (.ref f)=true)(hb:zdk X.K fd ps ds)(hd:Vals dvs ds)
  (ha:PA X (e::es) t) (hdb:(x==("__debug__":Str))=false) (he:ZT (e::es) X.env=(false,eval e X.env)::ZT es X.env) (hpl:(backTo pos (ZT es X.env)).any (·.1)=false)
  (I:Inv X pins σ H s) (h:t σ H λvs H1=>sp (vs++dvs) H1 Q E) (hx:∀H1 s1 e s',Inv X pins σ H1 s1->CX X.stack H1 s1 E e s'->X.xe e s'):
  wpAny (model X.prog X.w) X.A (eval (.Call (.Name x p) (e::es) [] pos) X.env) (EP X pins σ Q) X.xe s:=
 XR (zdL I hg hm (Wt (h₀:=X.base) I.ok.mod.kin hk (thn (ha pos pins s σ H _ I h) λus s1 ⟨vs,H1,I1,r,q⟩=>⟨I1.kIn,zoa F hr hb hd (λe s' c=>hx H1 s1 e s' I1 c) I1 r q⟩) he hpl) hdb)
end
section
variable {X:Cx}{cv:ClsV}
end
end IT
namespace IT
open PySem PySem.Spec L2
section
variable {K:Z8}{μ:List Addr}{h:Sto}{H:Hp}
end
section
variable {X:Cx}{o e:Expr}{g k0:IT.Env->M R}{k:Str}{pos pos':Pos}
end
end IT
namespace IT
open PySem PySem.W
section
variable {K:Frag}{prog:ZH}{w:World}{A:Around}{E:Value->Shared->Prop}{s:Shared}{x D:Addr}{ox:Obj}{odo:Option Obj}
structure zgC(K:Frag)(D:Addr):Prop where
 ga:findIn K (.ref D) "__getattribute__"=some (some (.builtin "BaseException.__getattribute__"))
 gt:findIn K (.ref D) "__getattr__"=some none
 cl:findIn K (.ref D) "__class__"=some (some (.builtin "object.__class__"))
 be:mroIn K D (.type "BaseException")=some true
 ob:mroIn K D (.type "object")=some true
theorem zh9{M:Model}{nameV:Value}{Q:Unit->Shared->Prop}(X:K.In s.heap)(I:InstAt s.heap x ox D odo)(c:zgC K D)(hq:Q () s):
  wpAny M A (WO "BaseException.__getattribute__" ⟨[.ref x,nameV],[]⟩) Q E s:=by
 have L0:=I.type (M:=M);have L1:=looks_mroIn (M:=M) X c.be;have ha:=F.args_bexc_ga (.ref x) nameV
 have hk:builtinKind "BaseException.__getattribute__"=some .slot:=by decide +kernel
 have hsplit:splitId "BaseException.__getattribute__"=some ("BaseException", "__getattribute__"):=by decide +kernel
 obtain⟨hh,gg,d,t,os⟩:=s;simp only[WO,hk,hsplit];unfold VA
 repeat lk
 exact hq
theorem zkG{tk:Tok}{Q:Fin->Shared->Prop}(X:K.In s.heap)(I:InstAt s.heap x ox D odo)(c:zgC K D)(hq:Q (.done (.ret (.ref D))) s):
  wpAny (model prog w) A (Zh.«object.__getattribute__» ⟨[.ref x,.str "__class__" tk],[]⟩) Q E s:=by
 have L0:=I.type (M:=model prog w);have L1:=looks_findIn (M:=model prog w) X c.cl;obtain⟨hh,gg,d,t,os⟩:=s;have hT5:(⟨hh,gg,d,t,os⟩:Shared).TypeIs (.builtin "object.__class__") "getset_descriptor":=F.typeOf_object_class;have f5:=F.typeOf_object_class;have f6:=F.slot_gs_get.lookup;have f7:=F.slot_gs_set.lookup
 repeat(any_goals (first | assumption | with_reducible refine L0.at ?_ | with_reducible refine L1.at ?_ | wp_step))
 refine class_get (ox:=ox) (od:=odo) X I c.ob ?_
 repeat(any_goals (first | assumption | wp_step))
theorem zmT{Q:Option Value->Shared->Prop}(X:K.In s.heap)(I:InstAt s.heap x ox D odo)(c:zgC K D)(h:Q (some (.ref D)) {s with toks:=s.toks+1}):wpAny (model prog w) A (getAttr? (.ref x) "__class__") Q E s:=by
 have L0:=I.type (M:=model prog w);have L1:=looks_findIn (M:=model prog w) X c.ga;have L2:=looks_findIn (M:=model prog w) X c.gt;obtain⟨hh,gg,d,t,os⟩:=s;have f3:=WV.ga.bind (.ref x)
 have two:∀b:Bool,(b&&Yy "BaseException.__getattribute__"==Yy "object.__getattribute__")=false:=λb=>by
  cases b
  ·rfl
  ·decide +kernel
 have hx1:=two (onTheHeap (.ref D));have hx2:(Yy "BaseException.__getattribute__"==Yy "object.__getattribute__")=false:=two true;unfold getAttr? getAttrBy? getAttrBy
 repeat(any_goals (first | assumption | with_reducible refine L0.at ?_ | with_reducible refine L1.at ?_ | with_reducible refine L2.at ?_ | wp_step))
 refine YI WV.ga.plain F.entry_bexc_ga (zh9 (s:=⟨hh,gg,d,t+1,os⟩) X I c (zkG (s:=⟨hh,gg,d,t+1,os⟩) X I c ?_))
 repeat(any_goals (first | assumption | wp_step))
end
end IT
namespace IT
open PySem PySem.Spec L2
section
variable {X:Cx}{pins:List (Addr×Obj)}{σ:St}{H:Hp}{s s':Shared}{E:XK}{EE:Value->Shared->Prop}
theorem Inv.known{a:Addr}{ob:Obj}{vs:Array Value}(I:Inv X pins σ H s)(h1:s.heap.get? a=some ob)(hd:ob.data=.fields vs)(na:H a=none)(n0:X.s₀.heap.get? a=none)(np:∀p∈X.pn++pins,p.1≠a):Inv X pins σ (upd H a (.frz ob (.own a))) s:=by
 have nL:X.env.locals≠a:=λz=>by obtain⟨m,⟨o,es,ep,e,d,_⟩,_⟩:=I.loc;rw[z,h1] at e;cases e;rw[hd] at d;cases d
 have nC:∀x c,X.env.cells.lookup x=some c->c≠a:=λx c e z=>by obtain⟨v,o,e1,d⟩:=I.cell x c e;rw[z,h1] at e1;cases e1;rw[hd] at d;cases d
 refine⟨I.ok,I.os,I.bare,⟨I.base.keep,I.base.slot,λb o e n hx=>?_,I.base.there,λb xs e=>?_,λb o u e=>?_,λb ps e=>?_⟩,I.loc,I.cell,?_,λx c e=>?_,λp hp=>⟨(I.pin p hp).1,?_,(I.pin p hp).2.2⟩,λb u e=>?_,I.len⟩
 ·rw[zah (λz=>by rw[z,n0] at e;cases e)];exact I.base.free b o e n hx
 ·have z:=I.base.tups b xs e;rw[zah (zak z na)];exact z
 ·have z:=I.base.frzs b o u e;rw[zah (zak z na)];exact z
 ·obtain⟨more,z⟩:=I.base.tbls b ps e;exact⟨more,by rw[zah (zak z na)];exact z⟩
 ·rw[zah nL];exact I.free
 ·rw[zah (nC x c e)];exact I.freeC x c e
 ·rw[zah (np p hp)];exact(I.pin p hp).2.1
 ·by_cases hb:b=a
  ·subst hb;rw[zai] at e;cases e;exact⟨h1,ob,h1⟩
  ·rw [zah hb] at e
   exact(I.hok b u e).stay (λ_ _ _ q=>q) (λc q=>by rw[zah (zak q na)];exact q) λc xs q=>by rw[zah (zak q na)];exact q
theorem zpC{M:Model}{A:Around}{j:Nat}{n:Str}{pos:Pos}{Q:Unit->Shared->Prop}(I:Inv X pins σ H s)(hN:X.N.Nodup)(hj:X.N[j]?=some n)(hk:X.env.scope.names.lookup n=some .local)
    (h:∀s',Inv X pins (σ.set j none) H s'->Q () s'):wpAny M A (do bindName X.env n .none;unbindBehindTheSuite X.env n pos) Q EE s:=by
  obtain⟨m,hn,hl⟩:=id I.loc
  have hcls:(X.env.scope.kind==.class||(X.env.scope.kind==.module&&X.env.locals != X.env.globals))=false:=by rw[I.ok.kind];rfl
  refine wpAny_nameGoes_keeps hk hn hcls λh' v hn' hs=>h _ ?_;have ne:∀b o,X.s₀.heap.get? b=some o->b≠X.env.locals:=λb o e=>ZK (ZF (ZU e) I.ok.above);obtain⟨oL,_,_,hoL,_⟩:=id hn;refine⟨I.ok,I.os,I.bare,⟨λb o e n hb hx=>?_,λb o e n hb hx=>?_,I.base.free,λb o e hx=>?_,I.base.tups,I.base.frzs,I.base.tbls⟩,⟨_,hn',λi y v' e1 e2 e3=>?_⟩,λy c e=>?_,I.free,I.freeC,λp hp=>?_,λb ob e=>?_,by simpa using I.len⟩
  · exact(hs.2 b (ne b o e)).trans (I.base.keep b o e n hb hx)
  · obtain ⟨sl,e1⟩:=I.base.slot b o e n hb hx
    exact⟨sl,(hs.2 b (ne b o e)).trans e1⟩
  · obtain ⟨o',e1⟩:=I.base.there b o e hx
    exact⟨o',(hs.2 b (ne b o e)).trans e1⟩
  · by_cases hi:i=j
    · subst hi
      by_cases hz:i<σ.length
      · rw[Zo hz] at e2;cases e2
      · rw[YQ (by simpa using Nat.le_of_not_lt hz)] at e2;cases e2
    · rw [Zv (YZ hi)] at e2
      obtain⟨u',r',q⟩:=hl i y v' e1 e2 e3;refine⟨u',r',?_⟩
      rcases q with⟨k,e⟩|⟨k,c,e,z⟩
      · refine .inl ⟨k,?_⟩
        have:y≠n:=λe=>hi (zfs hN e1 (e▸hj))
        simp[this,e]
      · exact .inr ⟨k,c,e,z.sameBut hs (I.cne y c e)⟩
  · obtain ⟨w',z⟩:=I.cell y c e
    exact⟨w',z.sameBut hs (I.cne y c e)⟩
  · obtain ⟨p1,p2,p3,p4⟩:=I.pin p hp
    exact⟨(hs.2 _ p3).trans p1,p2,p3,p4⟩
  · refine (I.hok b ob e).stay (λc w' hc q=>(hs.2 c ?_).trans q) (λ_ q=>q) λ_ _ q=>q
    rintro rfl
    rcases hc with rfl | hc
    · rw[I.free] at e;cases e
    · rw[I.free] at hc;cases hc
theorem zfi(hd:zd5 X)(I:Inv X pins σ H s){e:Value}(c:CXk X.prog X.w X.stack H s E e s'){x n:Str}{j:Nat}{np pos:Pos}{b0:Stmt}{suite:List Stmt}{Ca:Addr}{Q:Flow->Shared->Prop}
  (hg:Gl X x) (hm:X.mg x=some (.ref Ca)) (hdb:(x==("__debug__":Str))=false) (hN:X.N.Nodup) (hj:X.N[j]?=some n) (hk:X.env.scope.names.lookup n=some .local)
  (hx:∀C od H',E C od H'->Wl X.K C (.ref Ca)=some true)
  (k:∀a C od H' ob s6 EE',E C od H'->ob.cls=C->ob.dict=od->(∃vs,ob.data=.fields vs)->H' a=none->Inv X pins (σ.set j (some (.ref a))) (upd H' a (.frz ob (.own a))) s6 →
   wpAny (model X.prog X.w) (X.A.mark (some (.ref a))) (execs (b0::suite) X.env) (λf s7=>wpAny (model X.prog X.w) X.A (do bindName X.env n .none;unbindBehindTheSuite X.env n pos) (λ_ s8=>Q f s8) EE s7) EE' s6):
  wpAny (model X.prog X.w) X.A (VD e X.env) (λ_ s₂=>wpAny (model X.prog X.w) X.A (VC e none) (λ_ s₃=>wpAny (model X.prog X.w) X.A (handleBy e X.env [.ExceptHandler (some (.Name x np)) (some n) (b0::suite) pos]) Q EE s₃) EE s₂) EE s':=by
 obtain⟨a,C,od,H',rfl,⟨os,bare,un,hok,B,t,fl,k3,k2⟩,dn,q⟩:=c;have fl':=fl;rw[hd.st] at fl'
 have fin:∀(h:Heap),B.StaysIn h->s'.heap.UpToSlots h->Inv X pins σ H' {s' with heap:=h}:=λh hB up=>by
  have kp:∀b u,B.get? b=some u->s'.heap.get? b=some u/\h.get? b=some u:=λb u e=>⟨fl.1 b u e,hB b u e⟩;refine I.call' (ch:=[]) os (zc4 un (λb o e hb o' e'=>?_) (λb o e hb o' e'=>?_)) (zcc hok (λb ⟨o,ho⟩ u e'=>?_)) bare (by simp)
  ·obtain ⟨u,eu⟩:=k3 b o e hb
   obtain⟨z1,z2⟩:=kp b u eu;rw[e'] at z1;cases z1;exact z2
  ·obtain ⟨_,o2,e2,hn⟩:=fl.2.2.1.mem hb
   rw[e'] at e2;cases e2;exact up b o' e' hn
  ·obtain ⟨u',eu⟩:=k2 b o ho
   obtain⟨z1,z2⟩:=kp b u' eu;rw[e'] at z1;cases z1;exact z2
 have nB:B.get? a=none:=fl.2.1;refine ZI (zen zcQ dn (Q:=λ_ s₂=>DN a od s₂->wpAny (model X.prog X.w) X.A (VC (.ref a) none) (λ_ s₃=>wpAny (model X.prog X.w) X.A (handleBy (.ref a) X.env [.ExceptHandler (some (.Name x np)) (some n) (b0::suite) pos]) Q EE s₃) EE s₂) (E:=EE) ?_) (λ_ _ z=>z.1 z.2) (λ_ _ z=>z.1);refine wpAny_looks_onW (by rw[I.ok.frames,hd.st]) hd.fr fl' λh4 held4 up4 dn4=>?_;refine ZI (zen zbv dn4 (Q:=λ_ s₃=>DN a od s₃->wpAny (model X.prog X.w) X.A (handleBy (.ref a) X.env [.ExceptHandler (some (.Name x np)) (some n) (b0::suite) pos]) Q EE s₃) (E:=EE) ?_) (λ_ _ z=>z.1 z.2) (λ_ _ z=>z.1);refine wpAny_landsW held4 λh5 fl5 up5 dn5=>?_;have I5:Inv X pins σ H' {s' with heap:=h5}:=fin h5 fl5.1 (up4.trans up5);obtain⟨ob,hob,hcls⟩:=fl5.there
 refine wpAny_handleBy_cons (codeAny_handlers_test ?_) (by intro z;cases z)
 refine XA (Q:=_) I5.ok.kind hg (Calls.loadGlobal_global (by rw[I5.ok.glob];exact I5.mod.glob.keeps I5.bk) hm ?_) hdb
 have LT:PySem.W.Looks (model X.prog X.w) h5 (typeOf (.ref a)) C:=by subst hcls;exact(PySem.W.Looks.ld hob).andThen .now
 refine PySem.W.exm_one (K:=X.K) I5.kIn LT (hx C od H' q) _ _ _ _ (λ_ _ z=>z) ?_;show XH _ _ _ _ _;refine codeAny_handlers_suite_as ?_;refine ZI (zen (zbv (e:=.ref a) (f:=none)) (s:={s' with heap:=h5}) dn5 (Q:=λ_ s₁=>DN a od s₁->_) ?_) (λ_ _ z=>z.1 z.2) (λ_ _ z=>z.1);refine PyProof.Rows.lands_againW fl5 λh6 fl6 up6 dn6=>?_;have I6:Inv X pins σ H' {s' with heap:=h6}:=fin h6 fl6.1 ((up4.trans up5).trans up6);obtain⟨oe,vs,T,oT,ts,he,⟨hc,_⟩,hdat,_⟩:=fl6.2.2.2;obtain⟨o',he',hdn⟩:=dn6;have eo:oe=o':=ZR (he.symm.trans he');subst eo
 have na:H' a=none:=by
  cases z:H' a with|none=>rfl|some o=>obtain⟨u,eu⟩:=k2 a o z;rw[nB] at eu;cases eu
 have nf:a∉frs X.stack:=λz=>by
  obtain⟨_,o2,e2,hn⟩:=fl6.2.2.1.mem (by rw[hd.st] at z;exact z)
  have:oe=o2:=ZR (he.symm.trans e2)
  subst this;exact hn vs hdat
 have n0:X.s₀.heap.get? a=none:=by
  cases z:X.s₀.heap.get? a with
  |none=>rfl
  |some o=>
   obtain⟨o1,e1⟩:=I.base.there a o z (by rw[hd.ex];simp)
   obtain⟨u,eu⟩:=k3 a o1 e1 nf;rw[nB] at eu;cases eu
 have np':∀p∈X.pn++pins,p.1≠a:=λp hp z=>by
  obtain⟨u,eu⟩:=k3 p.1 p.2 (I.pin p hp).1 (by rw[z];exact nf)
  rw[z,nB] at eu;cases eu
 have I7:=Inv.known I6 he hdat na n0 np';exact zeR I7 hN hj (.inl hk) (v:=.ref a) rfl (λs7 I8=>k a C od H' oe s7 _ q hc hdn ⟨vs,hdat⟩ na I8) (.inr hk)
end
end IT
namespace IT
open PySem PySem.Spec L2
structure zdO where
 name:Str
 hs:List Str:=[]
 isx:List (Str×Bool):=[]
 num:Bool:=false
structure ExcI(K:Z8)(D:Addr):Prop where
 cls:zgC K D
 dict:Wb K D=true
 obj:∃c d cd sl,K.lookup D=some ⟨c,d,.cls cd,sl⟩
theorem zmx{K:Z8}{x D:Addr}{ox:Obj}{odo:Option Obj}(c:ExcI K D):PySem.W.KitX K (.ref x) (.ref D) (λh=>PySem.W.InstAt h x ox D odo) where
 ty:=λ_ _ _ I=>I.type
 it:=λM h Y _ A' Q' E' s' k q=>PySem.W.mc_isType (s:=s') (λa o e=>k _ _ (Y a o e)) c.dict A' Q' E' s' (λ_ _ z=>z) q
 ne:=λh tp dd its n sl Y htp=>by refine Bool.eq_false_iff.mpr λq=>?_;have e:D=tp:=Y9.inj (beq_iff_eq.mp q);subst e;obtain⟨c',d',cd',sl',ho⟩:=c.obj;have z:=(Y _ _ ho).symm.trans htp;cases z
 ca:=λY I k=>zmT Y I c.cls k
inductive zgf(K:Z8)(mg:Str->Option Value)(D:Addr)(y:Str)(b:Bool):Prop where|own (Cy:Addr) (hm:mg y=some (.ref Cy)) (e:Ze K (.ref D) (.ref Cy)=some b)|blt (T:String) (hm:mg y=none) (hb:XU y=some (.type T)) (hn:y ≠ "__name__") (e:Ze K (.ref D) (.type T)=some b)
structure XOk(K:Z8)(mg:Str->Option Value)(Ca:Addr)(u:zdO):Prop where
 hs:∀y∈u.hs,∃Cy,mg y=some (.ref Cy)/\Wl K (.ref Ca) (.ref Cy)=some true
 cls:u.isx=[]\/ExcI K Ca
 isx:∀p∈u.isx,zgf K mg Ca p.1 p.2
section
variable {X:Cx}{Dc:Addr}
end
section
variable {X:Cx}{cv:ClsV}
end
end IT
namespace IT
open PySem PySem.Spec
section
variable {prog:ZH}{w:World}{A:Around}{E:Value->Shared->Prop}{h:Heap}{g:Array GenState}{d:Drawn}{t:Nat}{os:OsState}
variable {nm q:Str}{C N:Addr}{bs bm bmB:List Value}{hdct:Bool}{sn:List Str}{sub:List Value}{ab:Bool}{col:Option Bool}{dd:Option Addr}{k0 k1 k2 k3 k5:Option Value}{B newId initId:String}
theorem ziv(F:ExcBaseFacts B newId initId bmB)(T:VB h bmB bm){K:Z8}{rest:List Value}{fI:Addr}{Q:Value->Shared->Prop}(X:K.In h)
  (hC:h.get? C=some (WH nm q C N bs bm hdct sn sub ab col dd k0 k1 k2 k3 k5 newId)) (hi:Y6 K (.ref C) "__init__"=some (some (.ref fI))) (hf:Wj K (.ref fI)=some (.type "function")) (hrest:rest.length<=sizeLine)
  (hq:∀h' e,Wm h h' e (.ref C) rest->h.objs.size<=e->wpAny (model prog w) (A.under (.builtin "type.__call__" ⟨.ref C::rest,[]⟩)) (call (.ref fI) (.ref e::rest)) (λr s'=>r=.none/\Q (.ref e) s') E ⟨h',g,d,t,os⟩):
  wpAny (model prog w) A (call (.ref C) rest) Q E ⟨h,g,d,t,os⟩:=by
 have f1:=tc_lookup;have f2:=tc_bind (.ref C);have hT:(⟨h,g,d,t,os⟩:Shared).TypeIs (.ref C) "type":=⟨_,hC,rfl⟩;refine WT (WC ?_);show wpAny _ _ (callAny (.ref C) _) _ _ _
 repeat(any_goals (first | assumption | with_reducible refine XF hC ?_ | wp_step))
 refine⟨rfl,?_⟩;refine codeAny_call_builtin_at (W8 _ (by decide +kernel)) entry_typeCall (wpAny_check_type_call_sub hC ?_)
 repeat(first | with_reducible refine XF hC ?_ | with_reducible refine wpAny_madeBy_exc hC ?_ | wp_step)
 refine codeAny_call_builtin_code (W8 _ F.quiet) (wpAny_check_new_subT F T hC ?_);refine codeAny_exc_new_subT F T hC ?_ hrest;show wpAny _ _ _ _ _ (⟨((h.push {cls:=.type "tuple",data:=.seq rest.toArray}).push {cls:=.ref C,data:=.fields #[.ref h.objs.size,.none,.none,.none,.bool false,.none]}),g,d,t,os⟩:Shared);generalize hh1:((h.push {cls:=.type "tuple",data:=.seq rest.toArray}).push {cls:=.ref C,data:=.fields #[.ref h.objs.size,.none,.none,.none,.bool false,.none]})=h1
 have kp:∀b o,h.get? b=some o->h1.get? b=some o:=λb o e=>by subst hh1;exact Z4 _ (Z4 _ e)
 have hget:h1.get? (h.objs.size+1)=some {cls:=.ref C,data:=.fields #[.ref h.objs.size,.none,.none,.none,.bool false,.none]}:=by subst hh1;heap_get
 have hm:Wm h h1 (h.objs.size+1) (.ref C) rest:=⟨kp,WJ (Xx _),h.objs.size,hget,WJ (ZX _),by subst hh1;exact Z4 _ (Heap.get?_push_at rfl rfl)⟩
 have hC₁:=kp _ _ hC
 have hcC:(Y9 C::bm).contains (.ref C)=true:=by simp
 unfold VA
 repeat(first | with_reducible refine XF hget ?_ | (with_reducible refine wpAny_isSubtype_exc hC₁ ?_;rw[hcC]) | wp_step)
 show wpAny _ _ (typeLookup (.ref C) _) _ _ _;have X1:K.In h1:=X.keeps kp;refine(PySem.W.looks_findIn X1 hi).here ?_;refine YX (Z7 ((PySem.W.bind_fn X1 _ hf).here ?_));refine Z7 (ZI (hq _ _ hm (Xx _)) (λr s' hr=>?_) λ_ _ x=>x);obtain⟨rfl,hQ⟩:=hr
 wp_walk
 exact hQ
end
end IT
namespace IT
open PySem PySem.Spec PySem.W PySem.Builtin PySem.Builtin.ObjectAttr
theorem zhs(self:Value){h:Heap}{l:List Value}(T:VB h veM l):refuseLoop self "__setattr__" l=pure ():=by
 induction T with|base=>kernel_rfl|own _ _ _ _ ih=>rw[refuseLoop_ref];exact ih
section
variable {prog:ZH}{w:World}{A:Around}{E:Value->Shared->Prop}{s:Shared}{K:Frag}{C e:Addr}{vs:Array Value}
variable {nm q:Str}{N:Addr}{bs bm:List Value}{sn:List Str}{sub:List Value}{ab:Bool}{col:Option Bool}{dd:Option Addr}{k0 k1 k2 k3 k5:Option Value}{newId:String}
theorem zol{name:Str}{v:Value}{Q:Unit->Shared->Prop}(X:K.In s.heap)(hC:K.lookup C=some (WH nm q C N bs bm true sn sub ab col dd k0 k1 k2 k3 k5 newId))(T:VB s.heap veM bm)
  (hs:findIn K (.ref C) "__setattr__"=some (some (.builtin "object.__setattr__"))) (ht:takerIn K C name=some none) (he:s.heap.get? e=some ⟨.ref C,none,.fields vs,#[]⟩)
  (hq:∀h',h'.get? e=some ⟨.ref C,some s.heap.objs.size,.fields vs,#[]⟩->h'.Ns1 s.heap.objs.size (λy=>if y=name then some v else none)->(∀b o,b≠e->s.heap.get? b=some o->h'.get? b=some o)->Q () {s with heap:=h',toks:=s.toks+2}):
  wpAny (model prog w) A (setAttr (.ref e) name v) Q E s:=by
 have J:InstAt s.heap e ⟨.ref C,none,.fields vs,#[]⟩ C none:=⟨he,rfl,rfl,trivial⟩;have hCh:=X _ _ hC;have SF:=PySem.F.store_object;refine set_plain X J hs ?_
 have hob:(Y9 C::bm).contains (.type "object")=true:=by rw[Wi,T.hasType (X:="object") (b:=true) (by decide),Bool.or_true]
 obtain⟨cd,hcl,hmro,hhd⟩:∃cd,clsIn K C=some cd/\cd.mro=.ref C::bm/\cd.hasDict=true:=⟨_,by unfold clsIn;rw[hC],rfl,rfl⟩
 have hm:Looks (model prog w) s.heap (mroOf (.ref C)) (.ref C::bm):=by rw[<-hmro];exact(looks_clsIn X hcl).andThen .now
 have sub':Looks (model prog w) s.heap (VA (.ref e) (.type "object")) true:=J.type.andThen (looks_mroIn X (by unfold mroIn;rw[hcl,Option.bind_some,hmro,if_neg (by simp),hob]))
 refine YI SF.slot.plain SF.entry (@check_slot (model prog w) _ _ {s with toks:=s.toks+1} "object.__setattr__" "object" "__setattr__" (.ref e) [.str name s.toks,v] [] _ SF.kind SF.split sub' (SF.args (.ref e) (.str name s.toks) v) ?_);obtain⟨attr,ha,hr⟩:=Option.bind_eq_some_iff.mp ht
 have L3:Looks (model prog w) s.heap (storeTaker? attr) none:=by
  cases attr with
  |none=>exact .now
  |some a=>
   obtain⟨b,hb,hr⟩:=ZW.mp hr;refine(looks_takesIn X hb).andThen ?_;cases b
   ·exact .now
   ·cases hr
 rw[osa_eq,refuse_eq];generalize hs2:({s with toks:=s.toks+1}:Shared)=s2
 have hh2:s2.heap=s.heap:=by rw[<-hs2]
 rw[<-hh2] at J hm L3 X he;refine Z7 (Z7 (J.type.here (Z7 (hm.here ?_))));rw[refuseLoop_ref,zhs _ T];refine ZY (Z7 (J.type.here (Z7 ((looks_findIn X ha).here (Z7 (L3.here ?_))))));refine Z7 (ZY (Z7 (Z7 (wpAny_loadPart he (Z7 ((looks_clsIn X hcl).here ?_))))));rw[hhd]
 show wpAny _ _ (do
  let d<-PySem.alloc {cls:=Yi "dict",data:=VE #[]}
  update e λo=>{cls:=o.cls,dict:=some d,data:=o.data,slots:=o.slots}
  dictMade (.ref C) e d) _ _ _
 have he1:(s2.heap.push {cls:=Yi "dict",data:=VE #[]}).get? e=some ⟨.ref C,none,.fields vs,#[]⟩:=Z4 _ he;refine Z7 (wpAny_alloc (Z7 (wpAny_update he1 ?_)));generalize hh3:Heap.update _ _ _=h3
 have e3:h3.get? e=some ⟨.ref C,some s2.heap.objs.size,.fields vs,#[]⟩:=by rw[<-hh3,Yg _ he1 rfl]
 have o3:∀b,b≠e->h3.get? b=(s2.heap.push {cls:=Yi "dict",data:=VE #[]}).get? b:=λb hb=>by rw[<-hh3,YT _ _ (YZ hb)]
 have ne:s2.heap.objs.size≠e:=YZ (ZK (ZU he));have n3:h3.Ns s2.heap.objs.size (λ_=>none):=⟨{cls:=Yi "dict",data:=VE #[]},#[],_,(o3 _ ne).trans (ZC _ rfl),rfl,(λe he=>absurd he (by simp)),λ_=>rfl⟩;refine ZY (a:=some s2.heap.objs.size) (Z7 (ZY (Z7 ?_)));refine wpAny_nsSet1 (Heap.Ns1.of_empty n3) λh' hn2 hs2'=>?_;obtain⟨oD,esD,epD,hoD,hdD,hcD⟩:=hn2.count (PySem.Within.cons name v (ns:=[]) (m:=λ_=>none) λy hy=>absurd rfl hy)
 refine Z7 (wpAny_lookBehind hoD (by rw[hdD];exact pastItsLine_dict (Zc hcD (by show 1<=sizeLine+1;omega))) ?_)
 subst hs2
 exact ZY (hq h' ((hs2'.2 _ (YZ ne)).trans e3) hn2 λb o hb q=>by
  rw[hs2'.2 b (ZK (ZU q)),o3 b hb]
  exact Z4 _ q)
theorem zjz{t:Addr}{x:Value}{Q:Value->Shared->Prop}(hC:s.heap.get? C=some (WH nm q C N bs bm true sn sub ab col dd k0 k1 k2 k3 k5 "ValueError.__new__"))(T:VB s.heap veM bm)
  (he:s.heap.get? e=some ⟨.ref C,none,.fields #[.ref t,.none,.none,.none,.bool false,.none],#[]⟩)
  (hq:∀h' t',(∀b o,b≠e->s.heap.get? b=some o->h'.get? b=some o)->h'.get? e=some ⟨.ref C,none,.fields #[.ref t',.none,.none,.none,.bool false,.none],#[]⟩->Q .none {s with heap:=h'}):
  wpAny (model prog w) A (call (.builtin "ValueError.__init__") [.ref e,x]) Q E s:=by
 have F:=Wh;obtain⟨hh,g,d,tk,os⟩:=s;refine WT (YI F.init.plain F.initEntry (wpAny_check_init_subT F T hC he rfl ?_))
 wp_walk
 refine hq _ hh.objs.size (λb o hb q=>?_) ?_
 ·rw [YT _ _ (YZ hb)]
  exact Z4 _ q
 ·rw [Yg _ (Z4 _ he) rfl]
  rfl
end
end IT
namespace IT
open PySem PySem.Spec L2
def XO(C e:Addr)(od:Option Addr):HO:=.ext λh=>∃t,h.get? e=some ⟨.ref C,od,.fields #[.ref t,.none,.none,.none,.bool false,.none],#[]⟩
theorem XO.ok{P:ZH}{w:World}{H:Hp}{h:Heap}{C e t:Addr}{od:Option Addr}(x:h.get? e=some ⟨.ref C,od,.fields #[.ref t,.none,.none,.none,.bool false,.none],#[]⟩):zaI P w H h e (XO C e od):=⟨⟨t,x⟩,⟨_,x⟩,λ_ _ ⟨t,y⟩ k=>⟨t,k _ y⟩⟩
structure ExcN(K:Z8)(C:Addr):Prop where
 ex:∃nm q N bs bm sn sub ab col dd k0 k1 k2 k3 k5,K.lookup C=some (WH nm q C N bs bm true sn sub ab col dd k0 k1 k2 k3 k5 "ValueError.__new__")/\∀h,K.In h->VB h veM bm
 sa:Y6 K (.ref C) "__setattr__"=some (some (.builtin "object.__setattr__"))
 tk:PySem.W.takerIn K C "number"=some none
 kp:YO K (.ref C)=true
structure zq7(K:Z8)(B:Addr):Prop where
 sp:PySem.W.specialIn K (.ref B) "__getattribute__"=some (some (.builtin "type.__getattribute__"))
 rd:PySem.W.readsIn K B (.type "type")=true
 fc:PySem.W.findCls K (.ref B) (.type "type") "__init__"=some (.val (.builtin "ValueError.__init__"))
section
variable {X:Cx}
theorem zn7{a b:Str}{n:Str}{j:Nat}{k1 k2:Nat}{p1 p2 p3 p4 pos:Pos}(ha:a.length<=1000)(hb:b.length<=1000)(hj:X.N[j]?=some n)(hv:Vis X.env.scope n)(hd:(n==("__debug__":Str))=false)(hc:(n==("__classdict__":Str))=false):
  PE X (.JoinedStr [.Constant (.str a) k1 p1,.FormattedValue (.Name n p2) (-1) none p3,.Constant (.str b) k2 p4] pos) (λσ H Q=>∃k:Int,σ[j]?=some (some (.int k))/\k.natAbs<2^200/\∀x,Q (.str x) H):=by
 intro pins s σ H Q I ⟨k,e,hk,q⟩
 have hlog:k.natAbs.log2<1920:=by
  rcases Nat.eq_zero_or_pos k.natAbs with z | z
  ·rw[z];decide
  ·exact ZF ((Nat.log2_lt (X9 z)).mpr hk) (by decide)
 have hlen:(Yx (toString k)).length<=2000:=by
  have e:=int_text_length_le (k:=1920) (by decide) hlog
  rw[ofString_length];omega
 refine wpAny_JoinedStr ?_;refine thn (zjg (x:=a) pins s σ H (λv H1=>v=.str a/\H1=H) I ⟨rfl,rfl⟩) λu s1 q_=>?_;obtain⟨v,H1,I1,r1,e1,e2⟩:=q_;subst e1 e2;obtain⟨t1,rfl⟩:=r1;refine⟨a,t1,rfl,?_,?_⟩
 ·rw[YK];simp only[VY];omega
 refine wpAny_FormattedValue_plain (thn (zc5 hj hv hd hc pins s1 σ H1 (λv H2=>v=.int k/\H2=H1) I1 ⟨.int k,e,rfl,rfl⟩) λu s2 q_=>?_);obtain⟨v,H2,I2,r2,e1,e2⟩:=q_;subst e1 e2;obtain⟨t2,rfl⟩:=r2;refine wpAny_formatField_int hlog ?_;refine⟨Yx (toString k),_,rfl,?_,?_⟩
 ·rw[YK,V8,VY];omega
 refine thn (zjg (x:=b) pins _ σ H2 (λv H1=>v=.str b/\H1=H2) (I2.tok _) ⟨rfl,rfl⟩) λu s3 q_=>?_;obtain⟨v,H3,I3,r3,e1,e2⟩:=q_;subst e1 e2;obtain⟨t3,rfl⟩:=r3
 have hz:(Str.empty++a++Yx (toString k)++b).length<=sizeLine:=by rw[YK,V8,V8,VY];omega
 exact⟨b,t3,rfl,hz,hz,.str _,H3,I3.tok _,⟨_,rfl⟩,q _⟩
theorem zot{cx:Str}{B:Addr}{a0 a1:Expr}{t:TA}{p apos pos:Pos}{pl:Sem Bool}(hb:zq7 X.K B)(hg:Gl X cx)(hm:X.mg cx=some (.ref B))(hdb:(cx==("__debug__":Str))=false)(ha:PA X [a0,a1] t)
  (hst:ZT [a0,a1] X.env=[(false,eval a0 X.env),(false,eval a1 X.env)])
  (ht:eval (.Call (.Attribute (.Name cx p) "__init__" apos) [a0,a1] [] pos) X.env=(do
   let ov<-eval (.Name cx p) X.env
   Ww apos.atName
   let (f,first)<-holding [ov] (getMethod ov "__init__" pl)
   callWith pos f first (backTo pos (ZT [a0,a1] X.env)) (Xl pos (Ym [] X.env)))):
  PE X (.Call (.Attribute (.Name cx p) "__init__" apos) [a0,a1] [] pos) (λσ H Q=>t σ H λvs H1=>∃e C x,vs=[.ref e,x]/\ExcN X.K C/\H1 e=some (XO C e none)/\Q .non (upd H1 e (XO C e none))):=by
 intro pins s σ H Q I h;refine PySem.W.methodCall_KW (pl:=pl) (zdL I hg hm ?_ hdb) ht;refine PySem.W.method_cls I.kIn hb.sp (PySem.W.cls_value I.kIn hb.rd hb.fc rfl ?_);have hA:=ha pos pins _ σ H _ (I.tok (s.toks+1)) h;rw[hst] at hA⊢;refine Calls.callWith_builtin rfl (Calls.evalArgs_plain ?_);refine thn hA λus s2 q_=>?_;obtain⟨vs,H2,I2,r2,e,C,x,ev,xc,eH,q⟩:=q_;subst ev
 cases r2 with
 | cons r0 r2=>
  cases r2 with
  |cons r1 r2=>
   cases r2
   cases (show _=Y9 e from r0)
   obtain⟨nm,q',N,bs,bm,sn,sub,ab,col,dd,k0,k1,k2,k3,k5,lk,tl⟩:=xc.ex;obtain⟨⟨t,he⟩,_⟩:=(show zaI X.prog X.w H2 s2.heap e (XO C e none) from I2.hok e _ eH);refine zjz (I2.kIn _ _ lk) (tl _ I2.kIn) he λh' t' kp he'=>?_
   have I3:=I2.write (x:=e) (e:=e) (o:=XO C e none) (h':=h') (t':=s2.toks) (by rw[eH];exact WP) (.inl rfl) (λb u hb z=>kp b u hb z) ⟨_,he'⟩ (XO.ok he')
   exact⟨.non,_,I3,rfl,q⟩
theorem zpI{value o:Expr}{ta tv:TE}{pos pos':Pos}(ha:PE X o ta)(hv:PE X value tv)(hs:W7 value (some (.Attribute o "number" pos')) pos.line X.env=pure false):
  PS X (.Assign [.Attribute o "number" pos'] value pos) (λD σ H=>tv σ H λy H1=>ta σ H1 λx H2=>∃e C,x=.ref e/\ExcN X.K C/\H2 e=some (XO C e none)/\∀dx,H2 dx=none->D.nx σ (upd (upd H2 dx (.xd [("number",y)])) e (XO C e (some dx)))):=by
 intro pins s σ H D I h;refine plainObj_wpAny_Assign_Attribute (thn (hv pins s σ H _ I h) λu s1 ⟨y,H1,I1,ry,q⟩=>thn (ha pins s1 σ H1 _ I1 q) λov s2 q_=>?_) hs;obtain⟨x,H2,I2,rx,e,C,ex,xc,eH,q2⟩:=q_;subst ex;obtain rfl:ov=Y9 e:=rx;obtain⟨nm,q',N,bs,bm,sn,sub,ab,col,dd,k0,k1,k2,k3,k5,lk,tl⟩:=xc.ex;obtain⟨⟨t,he⟩,_⟩:=(show zaI X.prog X.w H2 s2.heap e (XO C e none) from I2.hok e _ eH);refine zol I2.kIn lk (tl _ I2.kIn) xc.sa xc.tk he λh' he' hn kp=>?_;have hn':=hn;obtain⟨o,es,ep,eo,r⟩:=hn;have ne:e≠s2.heap.objs.size:=ZK (ZU he)
 have em:(s2.heap.push o).get? s2.heap.objs.size=some o:=ZC _ (by obtain⟨c1,c2,c3,c4⟩:=o;have:=r.1;simp only at this;subst this;rfl)
 have hf:H2 s2.heap.objs.size=none:=I2.hok.fresh (ZX _)
 have Im:=I2.laid (a:=s2.heap.objs.size) (o:=.xd [("number",y)]) (h':=s2.heap.push o) (t':=s2.toks) (λb u z=>Z4 _ z) (ZX _) ⟨_,⟨o,es,ep,em,r⟩,λf=>by
  show RelO (List.lookup f [(("number":Str),y)]) (if f="number" then some u else none)
  by_cases hz:f="number"
  ·subst hz
   simp only[List.lookup,beq_self_eq_true,if_true];exact ry
  ·rw [if_neg hz]
   have:(f==("number":Str))=false:=by simpa using hz
   simp only[List.lookup,this]
   trivial⟩
 have Iw:=Im.write (x:=e) (e:=e) (o:=XO C e (some s2.heap.objs.size)) (h':=h') (t':=s2.toks+2) (by rw[zah ne,eH];exact WP) (.inl rfl) (λb u hb z=>by
  by_cases hd:b=s2.heap.objs.size
  ·subst hd
   rw[em] at z;cases z;exact eo
  ·exact kp b u hb (by
    have z':=z;rw[Heap.get?_push_ne _ _ _ hd] at z'
    exact z')) ⟨_,he'⟩ (XO.ok he')
 exact⟨σ,_,Iw,q2 _ hf⟩
end
end IT
namespace IT
open PySem PySem.Spec L2
def zmf(C:Addr):Sp:=λvs H Q _=>∃e k,vs=[.ref e,.int k]/\k.natAbs<2^200/\H e=some (XO C e none)/\∀dx,H dx=none->dx≠e->Q .non (upd (upd H dx (.xd [("number",.int k)])) e (XO C e (some dx)))
section
variable {P:ZH}{w:World}{K:Z8}{mg:Str->Option Value}{base:Heap}
theorem zlZ{x qual:Str}{st:Stmt}{f:Addr}{fd:FuncData}{k:Nat}{C B:Addr}{cx a b:Str}{k1 k2:Nat}{p1 p2 p3 p4 p5 p6 p7 p8 p9 p10 q1 q2 q3 q4:Pos}(F:Fun K x qual st f fd)(S:za9 ["self", "number"] ["self", "number"] (zae st))
  (hb:zay st=[.Expr (.Call (.Attribute (.Name cx p1) "__init__" p2) [.Name "self" p3,.JoinedStr [.Constant (.str a) k1 p4,.FormattedValue (.Name "number" p5) (-1) none p6,.Constant (.str b) k2 p7] p8] [] p9) q1,.Assign [.Attribute (.Name "self" q2) "number" q3] (.Name "number" q4) p10])
  (ha:a.length<=1000) (hb':b.length<=1000) (hgl:(zae st).names.lookup cx=some .globalImplicit) (hdb:(cx==("__debug__":Str))=false) (hm:mg cx=some (.ref B)) (bi:zq7 K B) (xc:ExcN K C) {pl:Yz->Sem Bool}
  (ht:∀env,eval (.Call (.Attribute (.Name cx p1) "__init__" p2) [.Name "self" p3,.JoinedStr [.Constant (.str a) k1 p4,.FormattedValue (.Name "number" p5) (-1) none p6,.Constant (.str b) k2 p7] p8] [] p9) env=(do
   let ov<-eval (.Name cx p1) env
   Ww p2.atName
   let (f,first)<-holding [ov] (getMethod ov "__init__" (pl env))
   callWith p9 f first (backTo p9 (ZT [.Name "self" p3,.JoinedStr [.Constant (.str a) k1 p4,.FormattedValue (.Name "number" p5) (-1) none p6,.Constant (.str b) k2 p7] p8] env)) (Xl p9 (Ym [] env)))):
  FnOk P w K mg base CX0 (k+1) f fd ["self", "number"] (zmf C):=by
 refine F.ok S (λvs H Q E ⟨e,k,z,_⟩=>by rw[z];rfl) λcdv A outer s H vs Q E hr q_=>?_
 obtain⟨e,k,ev,hk,eH,q⟩:=q_;rw[hb];have vis:∀y∈(["self", "number"]:List Str),Vis (zae st) y:=λy hy=>(S.par y hy).elim .inl λz=>.inr (.inl z);have v0:=vis "self" (by simp);have v1:=vis "number" (by simp);refine⟨_,zcZ (zgS (zot (pl:=pl _) bi hgl hm hdb (zat (pv 0 rfl v0) (zat (zn7 (j:=1) ha hb' rfl v1 rfl rfl) zaW rfl) rfl) rfl (ht _))) (zfa (zpI (pv 0 rfl v0) (pv 1 rfl v1) rfl)),?_⟩;subst ev;refine⟨.ref e,rfl,k,rfl,hk,λx=>⟨e,C,.str x,rfl,xc,eH,.int k,rfl,.ref e,rfl,e,C,rfl,xc,zai,λdx hdx=>?_⟩⟩
 have ne:dx≠e:=λz=>by rw[z,zai] at hdx;cases hdx
 rw[zah ne] at hdx;have hq:=q dx hdx ne
 rwa [show upd (upd (upd H e (XO C e none)) dx (HO.xd [("number",V.int k)])) e (XO C e (some dx))=upd (upd H dx (HO.xd [("number",V.int k)])) e (XO C e (some dx)) from by
  funext b
  unfold upd
  split
  ·rfl
  ·split<;>rfl]
end
end IT
namespace IT
open PySem PySem.Spec L2
section
variable {X:Cx}{pins:List (Addr×Obj)}{σ:St}{H:Hp}{s s':Shared}{E:XK}{EE:Value->Shared->Prop}
theorem zk9(hd:zd5 X)(I:Inv X pins σ H s){e t dx C:Addr}(he:s.heap.get? e=some ⟨.ref C,some dx,.fields #[.ref t,.none,.none,.none,.bool false,.none],#[]⟩)(ne:H e=none)(n0:X.s₀.heap.get? e=none)(q:E (.ref C) (some dx) H):
  wpAny (model X.prog X.w) X.A (leaving X.env (.ref e)) (λ_ s''=>CXk X.prog X.w X.outer X.H₀ X.s₀ E (.ref e) s'') EE s:=by
 have hd0:DN e (some dx) s:=⟨_,he,rfl⟩;refine ZI (zen zcD hd0 (Q:=λ_ s''=>Fly X.prog X.w X.outer X.H₀ X.s₀ (.ref C) e H s'') (E:=EE) ?_) (λ_ s'' z=>⟨e,.ref C,some dx,H,rfl,z.1,z.2,q⟩) (λ_ _ z=>z.1);have hst:=I.stack
 have nf:e∉frs X.stack:=λz=>by obtain⟨_,o2,e2,hn⟩:=hst.mem z;rw[he] at e2;cases e2;exact hn _ rfl
 refine wpAny_leaving_firstW (base:=WF s.heap (e::frs X.stack)) (L:=X.env.locals) (outer:=X.outer) (a0:=.ref t) (by rw[I.ok.frames,hd.st]) (by rw[<-hd.st];exact PySem.W.funFrames_hide hst λenv he a hf=>.tail _ (W9.mpr ⟨env,he,hf⟩)) hd.fr he (λb o q=>Wu _ q) (WK _ (.head _)) rfl rfl rfl λh2 hL=>?_
 obtain⟨k1,⟨_,_,k2'⟩,k3,up⟩:=hL;have kp:∀b o,s.heap.get? b=some o->b≠e->b∉frs X.stack->h2.get? b=some o:=λb o e1 hb hb'=>k1 b o (YF _ e1 λz=>(ZE.mp z).elim hb hb')
 have sl:∀b o,b∈frs X.stack->s.heap.get? b=some o->∃z,h2.get? b=some {o with slots:=z}:=λb o hb e=>by obtain⟨_,o',e',hn⟩:=hst.mem hb;rw[e] at e';cases e';exact up b o e hn
 have b0:=I.base;rw[hd.ex] at b0
 have ne0:∀b o,X.s₀.heap.get? b=some o->b≠e:=λb o q z=>by rw[z,n0] at q;cases q
 have neH:∀b o,H b=some o->b≠e:=λb o q z=>by rw[z,ne] at q;cases q
 refine ⟨I.os,I.bare,zc4 b0 (λb o e1 hb o' e'=>kp b o' e' (ne0 b o e1) (ziU hd I e1 hb)) (λb o e1 hb o' e'=>sl b o' (znF hd hb) e'),zcc I.hok (λb ⟨o,ho⟩ u e'=>kp b u e' (neH b o ho) λz=>by rw[I.stkFree b z] at ho;cases ho),WF s.heap (e::frs X.stack),.ref t,⟨k1,WK _ (.head _),k2',k3⟩,λb o e1 hb=>?_,λb o ho=>?_⟩
 ·obtain ⟨o',e'⟩:=b0.there b o e1 (by simp)
  exact⟨o',YF _ e' λz=>(ZE.mp z).elim (ne0 b o e1) (ziU hd I e1 hb)⟩
 ·obtain ⟨u,e'⟩:=zkc (I.hok b o ho)
  exact⟨u,YF _ e' λz=>(ZE.mp z).elim (neH b o ho) λz=>by rw[I.stkFree b z] at ho;cases ho⟩
end
end IT
namespace IT
open PySem PySem.Spec L2
section
variable {X:Cx}{pins:List (Addr×Obj)}{σ:St}{H H':Hp}{s:Shared}
theorem Inv.drop{e:Addr}{φ:Heap->Prop}(I:Inv X pins σ H s)(n0:X.s₀.heap.get? e=none)(eH:H e=some (.ext φ))(e1:H' e=none)(e2:∀b,b≠e->H' b=H b):Inv X pins σ H' s:=by
 have ne:∀{b:Addr} {o:HO},H b=some o->o≠.ext φ->b≠e:=λq d z=>by subst z;rw[eH] at q;exact d (ZR q).symm
 have nn:∀{b:Addr},H b=none->H' b=none:=λ{b} q=>by
  by_cases z:b=e
  ·rw[z];exact e1
  ·rw[e2 b z];exact q
 refine⟨I.ok,I.os,I.bare,⟨I.base.keep,I.base.slot,λb o q n hx=>nn (I.base.free b o q n hx),I.base.there,λb xs q=>?_,λb o u q=>?_,λb ps q=>?_⟩,I.loc,I.cell,nn I.free,λx c q=>nn (I.freeC x c q),λp hp=>⟨(I.pin p hp).1,nn (I.pin p hp).2.1,(I.pin p hp).2.2⟩,λb o q=>?_,I.len⟩
 ·have z:=I.base.tups b xs q;rw[e2 b (ne z (by intro w;cases w))];exact z
 ·have z:=I.base.frzs b o u q;rw[e2 b (ne z (by intro w;cases w))];exact z
 ·obtain⟨more,z⟩:=I.base.tbls b ps q;exact⟨more,by rw[e2 b (ne z (by intro w;cases w))];exact z⟩
 ·have hb:b≠e:=λz=>by rw[z,e1] at q;cases q
  rw[e2 b hb] at q
  exact(I.hok b o q).stay (λ_ _ _ z=>z) (λc z=>by rw[e2 c (ne z (by intro w;cases w))];exact z) λc xs z=>by rw[e2 c (ne z (by intro w;cases w))];exact z
end
section
variable {M:Model}{A:Around}{E:Value->Shared->Prop}{env:Yz}
variable {nm q:Str}{C N:Addr}{bs bm:List Value}{hdct:Bool}{sn:List Str}{sub:List Value}{ab:Bool}{col:Option Bool}{dd:Option Addr}{k0 k1 k2 k3 k5:Option Value}{newId:String}
theorem zlm{s:Shared}{x:Expr}{pos:Pos}{Q:Flow->Shared->Prop}{K:Z8}(lk:K.lookup C=some (WH nm q C N bs bm hdct sn sub ab col dd k0 k1 k2 k3 k5 newId))(hbase:bm.contains (.type "BaseException")=true)(hh:A.handled=none)
  (h:wpAny M A (eval x env) (λv s₁=>∃e od t,v=.ref e/\K.In s₁.heap/\s₁.heap.get? e=some ⟨.ref C,od,.fields #[.ref t,.none,.none,.none,.bool false,.none],#[]⟩/\E (.ref e) s₁) E s):
  wpAny M A (exec (.Raise (some x) none pos) env) Q E s:=by
 have hcB:(Y9 C::bm).contains (.type "BaseException")=true:=by rw[Wi,hbase,Bool.or_true]
 rw[arm_exec_Raise];refine Z7 (XJ ?_);simp only[evalOpt,Option.map];unfold raiseStmt;refine Z7 (Z7 (ZI h (λv s₁ h₁=>Z7 (XJ (ZY ?_))) λ_ _ x=>x));obtain⟨e,od,t,rfl,kin,he,hE⟩:=h₁;have hC:=kin _ _ lk;obtain⟨hp,g,d,tk,os⟩:=s₁
 repeat(first | with_reducible refine XF he ?_ | with_reducible refine XF hC ?_ | (with_reducible refine wpAny_isSubtype_exc hC ?_;rw[hcB]) | wp_step)
 exact wpAny_raiseNew_none hh hE
end
inductive znc(X:Cx)(n:Nat)(C:Addr):Prop where|mk (fI:Addr) (fd:FuncData) (hi:Y6 X.K (.ref C) "__init__"=some (some (.ref fI))) (hf:Wj X.K (.ref fI)=some (.type "function")) (F:FnOk X.prog X.w X.K X.mg X.base CX0 n fI fd ["self", "number"] (zmf C)) (b:zdk X.K fd ["self", "number"] [])
section
variable {X:Cx}{E:R->Hp->Prop}{cv:ClsV}
theorem zkj{x:Str}{Ca:Addr}{n c:Nat}{np cpos pos:Pos}{a:Expr}{fe:IT.Env->M R}(hd:zd5 X)(hc:X.calm=true)(xc:ExcN X.K Ca)(hin:znc X n Ca)(hr:Room (n+1) X.A)(hg:Gl X x)(hm:X.mg x=some (.ref Ca))(hcv:∀k,cv (.d (.tup [.int c,.int k]))=some (.ref Ca))(ha:IE X a fe)
  (hdb:(x==("__debug__":Str))=false) (hst:ZT [a] X.env=[(false,eval a X.env)])
  (thr:∀pins σ H s e t dx,Inv X pins σ H s->s.heap.get? e=some ⟨.ref Ca,some dx,.fields #[.ref t,.none,.none,.none,.bool false,.none],#[]⟩->H e=none->X.s₀.heap.get? e=none->wX cv E (.ref Ca) (some dx) H->X.xe (.ref e) s):
  XS X E (.Raise (some (.Call (.Name x np) [a] [] cpos)) none pos) (λσ=>bnd (fe σ) λr=>raN c r):=by
 intro pins s σ H I ⟨μ,h,env,R0,re,r',h',ee,k⟩;simp only[zab] at ee;obtain⟨r,h1,e1,e2⟩:=ee
 obtain ⟨kn,rfl,hk,e3⟩:∃kn:Int,r=.d (.int kn)/\kn.natAbs<2^200/\ok (.d (.tup [.int c,.int kn])) h1=some (r',h'):=by
  unfold raN at e2
  split at e2
  ·rename_i kn
   split at e2
   ·rename_i z;exact⟨kn,rfl,z,e2⟩
   ·cases e2
  ·cases e2
 simp only[zac] at e3;obtain⟨rfl,rfl⟩:=e3;obtain⟨nm,q,N,bs,bm,sn,sub,ab,col,dd,k0,k1,k2,k3,k5,lk,tl⟩:=xc.ex;obtain⟨fI,fd,hi,hf,F,hb⟩:=hin;have FB:=Wh;refine zlm lk ((tl _ I.kIn).hasType FB.hasBase) (I.ok.hd hc) ?_;refine XR (zdL I hg hm ?_ hdb);refine Wt (h₀:=X.base) I.ok.mod.kin xc.kp (thn (zat ha zaW hst cpos pins s σ H (λvs H1=>vs=[.int kn]/\E (.d (.tup [.int c,.int kn])) H1/\∀dx,H1 dx=none->E (.d (.tup [.int c,.int kn])) (upd H1 dx (.xd [("number",.int kn)]))) I ⟨μ,h,env,R0,re,_,h1,e1,λμ1 H1 v s1 R1 q1=>?_⟩) λus s1 ⟨vs,H1,I1,rv,ev,qe,qd⟩=>⟨I1.kIn,?_⟩) hst rfl
 ·have q1:v=.int kn:=by simpa only[RepR,RepD] using q1
  subst q1;exact⟨rfl,k μ1 H1 s1 R1,λdx hn=>k μ1 _ (s1.trans (Stp.fresh hn)) (R1.fresh hn)⟩
 subst ev;have hul:us.length=1:=rv.length.symm;obtain⟨hh,g,d,tk,os⟩:=s1
 refine ziv FB (tl _ I1.kIn) I1.kIn (I1.kIn _ _ lk) hi hf (by show us.length<=_;rw[hul];decide) λh' e m hsz=>?_
 obtain⟨t,he,_⟩:=m.there;have eF:H1 e=none:=I1.hok.fresh hsz
 have n0:X.s₀.heap.get? e=none:=by
  cases z:X.s₀.heap.get? e with
  |none=>rfl
  |some o=>
   obtain⟨o1,e1⟩:=I1.base.there e o z (by rw[hd.ex];simp)
   rw[m.new] at e1;cases e1
 have I2:=I1.laid (a:=e) (o:=XO Ca e none) (h':=h') (t':=tk) m.keeps hsz (XO.ok he);have r2:Vals [V.ref e,V.int kn] (Y9 e::us):=.cons rfl rv
 have hsp:zmf Ca [V.ref e,V.int kn] (upd H1 e (XO Ca e none)) (λv H3=>v=.non/\∃dx,dx≠e/\H1 dx=none/\H3=upd (upd (upd H1 e (XO Ca e none)) dx (.xd [("number",.int kn)])) e (XO Ca e (some dx))) E0:=⟨e,kn,rfl,hk,zai,λdx hdx hne=>⟨rfl,dx,hne,by rw[zah hne] at hdx;exact hdx,rfl⟩⟩
 refine WT (XT (F.run _ X.stack _ _ ⟨Y9 e::us,[]⟩ (Y9 e::us) _ _ E0 (hr.make Ca us []) (I2.env0.make Ca us []) (by have:=hb _ (Y9 e::us) I2.kIn (by simp[hul]);rwa [Zg] at this) r2 hsp) λres s' hq'=>?_)
 match res,hq' with
 |.error _,hq'=>exact hq'.elim
 | .ok (.ret u),hq'=>
  obtain⟨v,H3,I3,ru,ev,dx,hne,hdx,e3⟩:=I2.after hq';subst ev;have eu:u=XD:=ru;subst eu;subst e3;obtain⟨⟨t3,he3⟩,_⟩:=(show zaI X.prog X.w _ s'.heap e (XO Ca e (some dx)) from I3.hok e _ zai)
  have I4:Inv X pins σ (upd H1 dx (.xd [("number",.int kn)])) s':=Inv.drop I3 n0 zai (by rw[zah (YZ hne)];exact eF) λb hb'=>by
   rw[zah hb'];unfold upd
   split
   ·rfl
   ·first | rfl | rw[if_neg hb']
  exact⟨rfl,e,some dx,t3,rfl,I3.kIn,he3,thr pins σ _ s' e t3 dx I4 he3 (by rw[zah (YZ hne)];exact eF) n0 ⟨.d (.tup [.int c,.int kn]),hcv kn,⟨dx,rfl,zai⟩,qd dx hdx⟩⟩
end
end IT
namespace IT
open PySem PySem.W
section
variable {K:Frag}{prog:ZH}{w:World}{A:Around}{E:Value->Shared->Prop}{s:Shared}{x D dx:Addr}{ox:Obj}{odo:Option Obj}{mA:Str->Option Value}{v:Value}
theorem zjw{tk:Tok}{vs:Array Value}{sl:Array (Option Value)}{Q:Fin->Shared->Prop}(X:K.In s.heap)(he:s.heap.get? x=some ⟨.ref D,some dx,.fields vs,sl⟩)(hdc:hasDictIn K D=true)(hn:findIn K (.ref D) "number"=some none)(hm:s.heap.Ns dx mA)(hv:mA "number"=some v)(hq:Q (.done (.ret v)) s):
  wpAny (model prog w) A (Zh.«object.__getattribute__» ⟨[.ref x,.str "number" tk],[]⟩) Q E s:=by
 have L0:Looks (model prog w) s.heap (typeOf (.ref x)) (.ref D):=(Looks.ld he).andThen .now;have L1:=looks_findIn (M:=model prog w) X hn;obtain⟨cd,hc,hd'⟩:=any_some hdc;obtain⟨hh,gg,d,t,os⟩:=s
 repeat(any_goals (first | assumption | with_reducible refine L0.at ?_ | with_reducible refine L1.at ?_ | wp_step))
 obtain ⟨o1,o2,o3,hD⟩:∃o1 o2 o3,hh.get? D=some ⟨o1,o2,.cls cd,o3⟩:=by
  unfold clsIn at hc
  split at hc
  ·rename_i q;cases hc;exact⟨_,_,_,X _ _ q⟩
  ·cases hc
 refine wpAny_load hD (ZY ?_);rw[hd'];refine ZY (a:=some dx) ?_;refine wpAny_nsGet hm ?_;rw[hv]
 repeat(any_goals (first | assumption | wp_step))
theorem zlJ{vs:Array Value}{sl:Array (Option Value)}{b:Bool}{Q:Value->Shared->Prop}(X:K.In s.heap)(he:s.heap.get? x=some ⟨.ref D,some dx,.fields vs,sl⟩)(c:zgC K D)(hdc:hasDictIn K D=true)(hn:findIn K (.ref D) "number"=some none)(hm:s.heap.Ns dx mA)(hv:mA "number"=some v)(hh:handedIn v=true)(h:Q v {s with toks:=s.toks+1}):
  wpAny (model prog w) A (getAttr (.ref x) "number" b) Q E s:=by
 have hm':=hm;obtain⟨oD,_,_,hoD,_⟩:=hm';have I:InstAt s.heap x ⟨.ref D,some dx,.fields vs,sl⟩ D (some oD):=⟨he,rfl,rfl,hoD⟩;have L0:=I.type (M:=model prog w);have L1:=looks_findIn (M:=model prog w) X c.ga;have L2:=looks_findIn (M:=model prog w) X c.gt;obtain⟨hp,gg,d,t,os⟩:=s;have f3:=WV.ga.bind (.ref x)
 have two:∀b:Bool,(b&&Yy "BaseException.__getattribute__"==Yy "object.__getattribute__")=false:=λb=>by
  cases b
  ·rfl
  ·decide +kernel
 have hx1:=two (onTheHeap (.ref D));have hx2:(Yy "BaseException.__getattribute__"==Yy "object.__getattribute__")=false:=two true;unfold getAttr getAttrBy
 repeat(any_goals (first | assumption | with_reducible refine L0.at ?_ | with_reducible refine L1.at ?_ | with_reducible refine L2.at ?_ | wp_step))
 rw[show(b&&onTheHeap (Yy "BaseException.__getattribute__"))=false from XY _,if_neg (by decide)];unfold boundAndCalled
 repeat(any_goals (first | assumption | wp_step))
 refine YI WV.ga.plain F.entry_bexc_ga (zh9 (s:=⟨hp,gg,d,t+1,os⟩) X I c (zjw (s:=⟨hp,gg,d,t+1,os⟩) X he hdc hn hm hv ?_));show wpAny _ _ (handedOut v) _ _ _;exact handed_on hh h
end
end IT
namespace IT
open PySem PySem.Spec L2
def zgq(Dc:Addr)(k:Int)(j:Nat)(σ:St)(H:Hp):Prop:=∃a c sl dx vs,σ[j]?=some (some (.ref a))/\H a=some (.frz ⟨.ref Dc,some dx,.fields vs,sl⟩ (.own a))/\H dx=some (.xd [("number",.int k)])/\c=()
structure ExcJ(K:Z8)(D:Addr):Prop where
 i:ExcI K D
 no:Y6 K (.ref D) "number"=some none
section
variable {X:Cx}{Dc:Addr}{k num:Int}{j o m:Nat}{nn oo mm:Str}
theorem zkE{cv:V}{cu:Value}{b:Bool}(ec:ExcI X.K Dc)(hcu:∀u,RelV cv u->u=cu)(e:Ze X.K (.ref Dc) cu=some b):
  zdr X (.builtin "isinstance") (λvs H Q=>∃a sl dx fs,vs=[.ref a,cv]/\(H a=some (.frz ⟨.ref Dc,some dx,.fields fs,sl⟩ (.own a))/\H dx=some (.xd [("number",.int k)]))/\Q (.bl b) H):=by
 intro pins s σ H xs us Q I rs q;obtain⟨a,sl,dx,fs,rfl,⟨eH,eD⟩,q⟩:=q
 cases rs with
 | cons r1 r2=>
  cases r2 with
  |cons r2 r3=>
   cases r3;have e2:=hcu _ r2;subst e2
   cases (show _=Y9 a from r1)
   obtain⟨h1,_⟩:=(show zaI X.prog X.w H s.heap a (.frz _ (.own a)) from I.hok a _ eH);obtain⟨oD,hoD⟩:=zkc (I.hok dx _ eD);have J:PySem.W.InstAt s.heap a ⟨.ref Dc,some dx,.fields fs,sl⟩ Dc (some oD):=⟨h1,rfl,rfl,hoD⟩;exact Ya (zmx ec) I.kIn J e (λz=>nomatch z) λtk=>⟨.bl b,H,I.tok tk,rfl,q⟩
theorem zph{n y:Str}{b:Bool}{p p1 p2 pos:Pos}(ec:ExcI X.K Dc)(io:zgf X.K X.mg Dc y b)(hg:Gl X "isinstance")(hm:X.mg "isinstance"=none)(hgy:Gl X y)(hdy:(y==("__debug__":Str))=false)
  (hj:X.N[j]?=some n) (hv:Vis X.env.scope n) (hdn:(n==("__debug__":Str))=false) (hcn:(n==("__classdict__":Str))=false):
  PE X (.Call (.Name "isinstance" p) [.Name n p1,.Name y p2] [] pos) (λσ H Q=>zgq Dc k j σ H/\Q (.bl b) H):=by
 have fin:∀{cv:V} {cu:Value},(∀u,RelV cv u->u=cu)->Ze X.K (.ref Dc) cu=some b->PE X (.Name y p2) (tC cv)->PE X (.Call (.Name "isinstance" p) [.Name n p1,.Name y p2] [] pos) (λσ H Q=>zgq Dc k j σ H/\Q (.bl b) H):=λh1 h2 h3=>by refine PE.imp (zaY (zkE (k:=k) ec h1 h2) hg hm XL (zat (zc5 hj hv hdn hcn) (zat h3 zaW rfl) rfl) (by decide) (by decide) rfl rfl) λσ H Q q=>?_;obtain⟨⟨a,_,sl,dx,fs,e1,e2,e3,_⟩,q⟩:=q;exact⟨.ref a,e1,a,sl,dx,fs,rfl,⟨e2,e3⟩,q⟩
 cases io with|own Cy hm2 e=>exact fin (cv:=.ref Cy) (λu r=>r) e (zjO hgy hm2 rfl hdy)|blt T hm2 hb hn e=>exact fin (cv:=.ty T) (λu r=>r) e (zgQ hgy hm2 hb rfl hn hdy)
theorem zoJ{n:Str}{p pos:Pos}(ec:ExcJ X.K Dc)(hj:X.N[j]?=some n)(hv:Vis X.env.scope n)(hdn:(n==("__debug__":Str))=false)(hcn:(n==("__classdict__":Str))=false):
  PE X (.Attribute (.Name n p) "number" pos) (λσ H Q=>zgq Dc k j σ H/\Q (.int k) H):=by
 intro pins s σ H Q I ⟨⟨a,_,sl,dx,fs,e1,eH,eD,_⟩,q⟩;refine zpg rfl (thn (zc5 hj hv hdn hcn pins s σ H (λv H1=>v=.ref a/\H1=H) I ⟨.ref a,e1,rfl,rfl⟩) λu s1 q_=>?_);obtain⟨x,H1,I1,rx,ex,eh⟩:=q_;subst ex eh;obtain rfl:u=Y9 a:=rx;obtain⟨h1,_⟩:=(show zaI X.prog X.w H1 s1.heap a (.frz _ (.own a)) from I1.hok a _ eH);obtain⟨mA,hn,r⟩:=(show zaI X.prog X.w H1 s1.heap dx (.xd _) from I1.hok dx _ eD)
 obtain⟨v,hv',rv⟩:=RelO.some_of (v:=.int k) (o:=mA "number") (by have:=r "number";simpa using this)
 exact zlJ I1.kIn h1 ec.i.cls ec.i.dict ec.no hn.ns hv' (zkP rv) ⟨.int k,H1,I1.tok _,rv,q⟩
end
end IT
namespace IT
open PySem PySem.Spec L2
structure HnN(X:Cx)(Dc:Addr)(j o m:Nat)(nn oo mm z1 z2 z3 y:Str):Prop where
 ec:ExcJ X.K Dc
 i1:zgf X.K X.mg Dc z1 false
 i2:zgf X.K X.mg Dc z2 false
 i3:zgf X.K X.mg Dc z3 false
 iy:zgf X.K X.mg Dc y true
 iv:zgf X.K X.mg Dc "ValueError" true
 gi:Gl X "isinstance"
 mi:X.mg "isinstance"=none
 gb:Gl X "bool"
 mb:X.mg "bool"=none
 gl:∀x∈[z1,z2,z3,y,("ValueError":Str)],Gl X x/\(x==("__debug__":Str))=false
 nd:X.N.Nodup
 nj:X.N[j]?=some nn
 no:X.N[o]?=some oo
 nm:X.N[m]?=some mm
 vj:Vis X.env.scope nn
 lo:Loc X.env.scope oo
 vm:Vis X.env.scope mm
 fo:X.fn oo=true\/X.env.scope.names.lookup oo=some .local
 pl:∀x∈[nn,oo,mm],(x==("__debug__":Str))=false/\(x==("__classdict__":Str))=false
 jo:j≠o
 mo:m≠o
section
variable {X:Cx}{Dc:Addr}{k num:Int}{j o m:Nat}{nn oo mm z1 z2 z3 y:Str}
theorem Vis.of(h:Loc X.env.scope oo):Vis X.env.scope oo:=h.elim .inl λz=>.inr (.inl z)
theorem zrC{a1 a2 a3 a4 a5 a6 a7 a8 a9 b1 b2 b3 b4 b5 b6 b7 b8 b9 c1 c2 c3 c4 c5 c6 c7 c8 c9 d1 d2 d3 d4 d5 d6 d7 d8 d9 e1 e2 e3 e4 e5 e6 e7 e8:Pos}{kk:Nat}(h:HnN X Dc j o m nn oo mm z1 z2 z3 y):
  PSs X [.Assign [.Name oo a1] (.BoolOp .Or [.Call (.Name "isinstance" a2) [.Name nn a3,.Name z1 a4] [] a5,.Call (.Name "isinstance" a6) [.Name nn a7,.Name z2 a8] [] a9,.Call (.Name "isinstance" b1) [.Name nn b2,.Name z3 b3] [] b4] b5) b6,
   .If (.BoolOp .Or [.Name oo b7,.UnaryOp .Not (.Call (.Name "isinstance" b8) [.Name nn b9,.Name y c1] [] c2) c3,.UnaryOp .Not (.Call (.Name "isinstance" c4) [.Name nn c5,.Name "ValueError" c6] [] c7) c8] c9) [.Return (some (.Constant (.bool false) kk d1)) d2] [] d3,
   .Return (some (.BoolOp .And [.Compare (.Attribute (.Name nn d4) "number" d5) [.Eq] [.Name mm d6] d7,.UnaryOp .Not (.Call (.Name "isinstance" d8) [.Attribute (.Name nn d9) "number" e1,.Name "bool" e2] [] e3) e4] e5)) e6]
   (λD σ H=>zgq Dc k j σ H/\σ[m]?=some (some (.int num))/\o<σ.length/\D.rt (.bl (k==num)) H):=by
 have hp:=h.pl;have pj:=hp nn (by simp);have po:=hp oo (by simp);have pm:=hp mm (by simp)
 have isx:∀{X':Cx} {x:Str} {b:Bool} {p p1 p2 pos:Pos},X'=X->zgf X.K X.mg Dc x b->x∈[z1,z2,z3,y,("ValueError":Str)]->PE X (.Call (.Name "isinstance" p) [.Name nn p1,.Name x p2] [] pos) (λσ H Q=>zgq Dc k j σ H/\Q (.bl b) H):=λ_ io hx=>zph h.ec.i io h.gi h.mi (h.gl _ hx).1 (h.gl _ hx).2 h.nj h.vj pj.1 pj.2
 have hnum:∀{p pos:Pos},PE X (.Attribute (.Name nn p) "number" pos) (λσ H Q=>zgq Dc k j σ H/\Q (.int k) H):=zoJ h.ec h.nj h.vj pj.1 pj.2;have hbool:∀{p2:Pos},PE X (.Name "bool" p2) (tC (.ty "bool")):=zgQ (x:="bool") h.gb h.mb (zjN .bool) rfl (by decide) rfl;have s1:=zqk (X:=X) (pos:=b6) (pos':=a1) (i:=o) h.nd h.no h.lo (zpu (pos:=b5) (isx (p:=a2) (p1:=a3) (p2:=a4) (pos:=a5) rfl h.i1 (by simp)) (zpu (isx (p:=a6) (p1:=a7) (p2:=a8) (pos:=a9) rfl h.i2 (by simp)) (zia (isx (p:=b1) (p1:=b2) (p2:=b3) (pos:=b4) rfl h.i3 (by simp))))) rfl h.fo
 have t2:PT X (.BoolOp .Or [.Name oo b7,.UnaryOp .Not (.Call (.Name "isinstance" b8) [.Name nn b9,.Name y c1] [] c2) c3,.UnaryOp .Not (.Call (.Name "isinstance" c4) [.Name nn c5,.Name "ValueError" c6] [] c7) c8] c9) _:=(zpB (zkr (zc5 (pos:=b7) h.no (Vis.of h.lo) po.1 po.2)) (zpB (zk6 (zkr (isx (p:=b8) (p1:=b9) (p2:=c1) (pos:=c2) rfl h.iy (by simp)))) (zm2 (zk6 (zkr (isx (p:=c4) (p1:=c5) (p2:=c6) (pos:=c7) rfl h.iv (by simp))))))).pt
 have s2:=zq0 (pos:=d3) t2 (zfa (zhX (pos:=d2) (zqr (X:=X) (b:=false) (j:=kk) (pos:=d1)))) zlp;have hisb:PE X (.Call (.Name "isinstance" d8) [.Attribute (.Name nn d9) "number" e1,.Name "bool" e2] [] e3) _:=zaY (zie .bool) h.gi h.mi XL (zat hnum (zat hbool zaW rfl) rfl) (by decide) (by decide) rfl rfl;have s3:=zhX (pos:=e6) (znC (pos:=e5) (zjC (pos:=d7) zsO (hnum (p:=d4) (pos:=d5)) (zc5 (pos:=d6) h.nm h.vm pm.1 pm.2) (zqV _)) (zia (zqX (pos:=e4) hisb)));refine PSs.imp (zcZ s1 (zcZ s2 (zfa s3))) λD σ H q=>?_;obtain⟨hH,hmn,hol,q⟩:=q
 have hH1:zgq Dc k j (σ.set o (some (.bl false))) H:=by
  obtain⟨a,c,sl,dx,vs,e1,r⟩:=hH
  exact⟨a,c,sl,dx,vs,by rw[Zv (YZ h.jo)];exact e1,r⟩
 have hm1:(σ.set o (some (V.bl false)))[m]?=some (some (.int num)):=by rw[Zv (YZ h.mo)];exact hmn
 refine⟨hH,false,rfl,iteF ⟨hH,false,rfl,iteF ⟨hH,?_⟩⟩⟩;refine⟨.bl false,Zo hol,false,rfl,iteF ⟨hH1,true,rfl,iteF ⟨hH1,true,rfl,iteF ?_⟩⟩⟩;refine⟨hH1,.int num,hm1,rfl,decide (V.int k=V.int num),rfl,?_⟩;rw[zkD]
 cases e:(k==num) with|false=>rw[e] at q;exact iteF q|true=>rw[e] at q;exact iteT ⟨hH1,(λ_=>False),.int k,.int k,by simp only[RdD,RepD],rfl,false,rfl,q⟩
end
end IT
namespace IT
open PySem PySem.Spec L2
theorem zjQ{c:Nat}{r:R}{k:Int}(h:numE c r=some k):r=.d (.tup [.int c,.int k]):=by
 unfold numE at h
 split at h
 ·split at h
  ·rename_i z;cases h;rw[z]
  ·cases h
 ·cases h
structure zoh(X:Cx)(cv:ClsV)(ce:Expr)(f g:IT.Env->M R):Prop where
 ok:∀E',IE (X.wish E') ce f
 rs:∀(E':Value->Shared->Prop) (E:R->Hp->Prop) (pins:List (Addr×Obj)) (σ:St) (H:Hp) (s:Shared),Inv (X.wish E') pins σ H s->RX X.K g E σ H->(∀H1 s1 e s',Inv (X.wish E') pins σ H1 s1->CXk X.prog X.w X.stack H1 s1 (wX cv E) e s'->E' e s')->wpAny (model X.prog X.w) X.A (eval ce X.env) (λ_ _=>False) E' s
section
variable {X:Cx}{cv:ClsV}
theorem zqh{n np:Nat}{fx:Str}{dfl:List D}{m mX:List R->M R}{e:Expr}{es:List Expr}{p cpos:Pos}{fs:IT.Env->M (List R)}(hnx:X.xe=λ_ _=>False)(hF:zos X n fx np dfl m)(hX:FunX X cv n fx np dfl mX)(hr:Room n X.A)(hg:Gl X fx)(ha:IA X (e::es) fs)(hf:∀σ h rs h',fs σ h=some (rs,h')->rs.length=(e::es).length)
  (hdb:(fx==("__debug__":Str))=false) (he:ZT (e::es) X.env=(false,eval e X.env)::ZT es X.env) (hpl:(backTo cpos (ZT es X.env)).any (·.1)=false):
  zoh X cv (.Call (.Name fx p) (e::es) [] cpos) (λσ=>bnd (fs σ) λrs=>m rs) (λσ=>bnd (fs σ) λrs=>mX rs) where
 ok:=λE'=>zi9 (X:=X.wish E') (pos:=cpos) (p:=p) ⟨hF.ex,hF.fill,hF.len⟩ hr hg (zkg (X:=X.wish E') (by rw[zhQ hnx];exact ha)) hf hdb he hpl
 rs := λE' E pins σ H s I q hx=>by
  have ha':IA (X.wish E') (e::es) fs:=zkg (X:=X.wish E') (by rw[zhQ hnx];exact ha)
  obtain⟨μ,h,env,R0,re,r,h',ee,k⟩:=q;simp only[zab] at ee;obtain⟨rs,h1,e1,ex⟩:=ee;obtain⟨f,fd,ps,dvs,F,hm,hk',hdd,hb⟩:=hX.ex;have hrs:=hf _ _ _ _ e1;have hlen:=hX.len _ _ _ ex;obtain⟨C,hC⟩:=hX.cls _ _ _ _ ex
  have hnot:¬(e::es).length+dfl.length<np:=λz=>by
   rw[za8 (by rw[hrs];exact z),hrs] at hlen
   omega
  have hjj:(e::es).length+dfl.length-np<=dfl.length:=by
   rw[zaK (by rw[hrs];exact hnot)] at hlen
   simp only[ZZ,Z1,YU] at hlen;omega
  obtain⟨ds,hb,hv⟩:=hb _ hjj;refine ZI (zjT (X:=X.wish E') (Q:=λ_ _=>False) (E:=wX cv E) (t:=tAs X.K fs) F hr hg hm hk' hb hv ha' hdb he hpl I ⟨μ,h,env,R0,re,rs,h1,e1,λμ1 H1 vs s1 R1 q1=>?_⟩ hx) (λ_ _ ⟨_,_,_,_,z⟩=>z) λ_ _ z=>z
  have qq:zaM X.K μ1 h1 H1 (zar np dfl rs) (vs++dvs.drop ((e::es).length+dfl.length-np)):=by
   rw[zaK (by rw[hrs];exact hnot),hrs]
   exact q1.app (RepDs.drop _ (hdd _ _)).rs
  rw[hX.fill rs] at ex
  exact⟨by rw[<-qq.length];exact hlen,μ1,h1,zar np dfl rs,_,h',C,R1,qq,ex,hC,λμ2 H2 od s2 R2 o2=>⟨r,hC,o2,k μ2 H2 (s1.trans s2) R2⟩⟩
theorem zoV{ci m j o:Nat}{cx nn:Str}{ce:Expr}{f g:IT.Env->M R}{b0:Stmt}{suite:List Stmt}{p1 np' hpos pos:Pos}{Ca Cr:Addr}
  (hnx:X.xe=λ_ _=>False) (hd:zd5 X) (hc:zoh X cv ce f g) (hsw:W7 ce none p1.line X.env=pure false)
  (hgc:Gl X cx) (hmc:X.mg cx=some (.ref Ca)) (hdc:(cx==("__debug__":Str))=false) (hcv:∀k,cv (.d (.tup [.int ci,.int k]))=some (.ref Cr)) (hxm:Wl X.K (.ref Cr) (.ref Ca)=some true)
  (hN:X.N.Nodup) (hj:X.N[j]?=some nn) (hk:X.env.scope.names.lookup nn=some .local) (ho:o<X.N.length) (hjm:j≠m)
  (hs:∀(a:Addr) (EE':Value->Shared->Prop) (k num:Int),PSs (Cx.caught X a EE') (b0::suite) (λD σ H=>zgq Cr k j σ H/\σ[m]?=some (some (.int num))/\o<σ.length/\D.rt (.bl (k==num)) H)):
  PS X (.Try [.Expr ce p1] [.ExceptHandler (some (.Name cx np')) (some nn) (b0::suite) hpos] [] [] pos) (tS X.K (tryN ci m f g)):=by
 intro pins s σ H D I q0;obtain⟨μ,h,env,R0,re,fl,env',h',ee,k⟩:=q0;unfold tryN at ee;refine wpAny_Try_except ?_;generalize hE:(λ(e:Value) (s₁:Shared)=>wpAny (model X.prog X.w) X.A (VD e X.env) (λ_ s₂=>wpAny (model X.prog X.w) X.A (VC e none) (λ_ s₃=>wpAny (model X.prog X.w) X.A (handleBy e X.env [.ExceptHandler (some (.Name cx np')) (some nn) (b0::suite) hpos]) (SP X pins D) X.xe s₃) X.xe s₂) X.xe s₁)=E';have I':Inv (X.wish E') pins σ H s:=I.wish E'
 cases em:f env h with
 |some pr=>
  obtain⟨r,h2⟩:=pr;rw[em] at ee;simp only[Z6,ZS] at ee;obtain⟨⟨rfl,rfl⟩,rfl⟩:=ee;have hb:=zfa (zgS (X:=X.wish E') (pos:=p1) (hc.ok E') hsw);refine ZI (hb pins s σ H D I' ⟨μ,h,env,R0,re,r,h2,em,λμ1 H1 v s1 R1 q1=>k μ1 H1 σ s1 R1 (re.stp s1 R0)⟩) (λf s1 q=>?_) λ_ _ z=>z;have q:=q.unwish
  cases f with|next=>exact WE q|brk=>exact q|cont=>exact q|ret u=>exact q
 | none=>
  rw[em] at ee;simp only at ee
  cases ex:g env h with
  |none=>rw[ex] at ee;cases ee
  | some pr=>
   obtain⟨r,h2⟩:=pr;rw[ex] at ee;simp only at ee
   cases en:numE ci r with
   |none=>rw[en] at ee;cases ee
   | some kk=>
    rw[en] at ee;simp only at ee
    split at ee
    case h_2=>cases ee
    rename_i num hm;simp only[Z6,ZS] at ee;obtain⟨⟨rfl,rfl⟩,rfl⟩:=ee;have hr:=zjQ en;subst hr;refine Xu (wpAny_Expr_any (ZI (hc.rs E' (λr H'=>r=.d (.tup [.int ci,.int kk])/\∃μ',Stp μ h H μ' h2 H'/\Rep X.K μ' h2 H') pins σ H s I' ⟨μ,h,env,R0,re,_,h2,ex,λμ1 H1 s1 R1=>⟨rfl,μ1,s1,R1⟩⟩ λH1 s1 e s' I1 c=>?_) (λ_ _ z=>z.elim) λ_ _ z=>z) I.quiet hsw);rw[<-hE];refine zfi hd I1.unwish c hgc hmc hdc hN hj hk (λC od H' z=>?_) λa C od H' ob s6 EE' z hcl hdn hfl na I6=>?_
    ·obtain ⟨r,e1,_,rfl,_⟩:=z
     rw[hcv] at e1;cases e1;exact hxm
    obtain⟨r,e1,e2,rfl,μ',st,R'⟩:=z;rw[hcv] at e1;cases e1;obtain⟨dx,rfl,eD⟩:=e2;obtain⟨vs,hvs⟩:=hfl;obtain⟨oc,od,odt,osl⟩:=ob;simp only at hcl hdn hvs;subst hcl hdn hvs
    have hjl:j<σ.length:=by rw[I.len];exact(Z3.mp hj).1
    have I7:=Inv.caught I6 a EE'
    have nd:dx≠a:=λz=>by rw[z,na] at eD;cases eD
    obtain⟨vm,em1,em2⟩:=re.get m _ hm
    have em2:vm=.int num:=by simpa only[RepR,RepD] using em2
    subst em2
    refine ZI (hs a EE' kk num pins s6 _ _ ⟨λ_ _=>False,λv H9=>D.rt v H9,λ_ _=>False,λ_ _=>False⟩ I7 ⟨⟨a,(),osl,dx,vs,Zo hjl,zai,by rw[zah nd];exact eD,rfl⟩,by rw[Zv hjm];exact em1,by rw[VM,I.len];exact ho,?_⟩) (λf s7 q=>?_) λ_ _ z=>z
    ·have s2:=Stp.fresh (μ:=μ') (h:=h2) (o:=HO.frz ⟨Y9 Cr,some dx,Data.fields vs,osl⟩ (.own a)) na
     have R2:=R'.fresh (o:=HO.frz ⟨Y9 Cr,some dx,Data.fields vs,osl⟩ (.own a)) na;exact k μ' _ σ (st.trans s2) R2 (re.stp (st.trans s2) R0) _ (by simp only[RepR,RepD])
    ·cases f with
     |next=>obtain⟨σ',H9,J,q⟩:=q;exact q.elim|brk=>obtain⟨σ',H9,J,q⟩:=q;exact q.elim|cont=>obtain⟨σ',H9,J,q⟩:=q;exact q.elim
     |ret u=>obtain⟨v',σ',H9,J,r,q⟩:=q;exact zpC (Inv.uncaught I6 J) hN hj hk λs8 I8=>⟨v',_,H9,I8,r,q⟩
end
end IT
namespace IT
open PySem PySem.Spec L2
section
variable {X:Cx}{pins:List (Addr×Obj)}{σ:St}{H:Hp}{s:Shared}
end
end IT
namespace IT
open PySem PySem.Spec L2
section
variable {X:Cx}{Pt:Addr}{params:Arguments}{body:Expr}{scope:Scope}{pos:Pos}
end
end IT
namespace IT
open PySem PySem.Spec L2
section
variable {X:Cx}{params:Arguments}{body:Expr}{scope:Scope}{pos:Pos}{x:Str}
end
section
variable {X:Cx}{n:Nat}{y:Str}{m mX:List R->M R}{params:Arguments}{body:Expr}{scope:Scope}{cv:ClsV}
end
section
variable {X:Cx}{Γ:Calls}{n i:Nat}{x:Str}{tb:List (Str×Nat)}{fs:IT.Env->M (List R)}{e:Expr}{p pos:Pos}{cv:ClsV}
end
end IT
namespace IT
open PySem PySem.Spec L2
section
variable {X:Cx}{E:R->Hp->Prop}{g:IT.Env->M R}
end
end IT
namespace IT
open PySem PySem.Spec L2
theorem noT{P:Prop}(h:false=true):P:=by cases h
theorem noF{P:Prop}(h:true=false):P:=by cases h
structure zkz where
 name:Str
 init:Nat
 fields:List Str
 meths:List (Str×Nat)
structure Cst where
 N:List Str
 names:List (Str×X0)
 fns:List (Str×Nat×List D)
 globs:List (Str×D)
 top:Bool
 cls:List zkz
 gds:List (Str×List (List Nat×D))
 exs:List zdO:=[]
 lm:Bool:=false
def zaj:Expr->Bool|.Starred _ _=>false|_=>true
def visB(C:Cst)(x:Str):Bool:=match C.names.lookup x with|some .local=>true|some .cell=>true|some .free=>true|_=>false
def locB(C:Cst)(x:Str):Bool:=match C.names.lookup x with|some .local=>true|some .cell=>C.top|_=>false
def zb4(C:Cst)(x:Str):Bool:=match C.names.lookup x with|some .globalImplicit=>true|_=>false
def zaJ(x:Str):Bool:=!(x==("__debug__":Str))&&!(x==("__classdict__":Str))
def conB:D->Const->Bool|.non,.none=>true|.bl b,.bool c=>b==c|.int i,.int j=>i==j|.str x,.str y=>zaa x==y|_,_=>false
def boB:Bo->V3->Bool|.add,.Add=>true|.sub,.Sub=>true|.mul,.Mult=>true|.fdiv,.FloorDiv=>true|.mod,.Mod=>true|_,_=>false
def coB:Co->CmpOp->Bool|.eq,.Eq=>true|.ne,.NotEq=>true|.lt,.Lt=>true|.le,.LtE=>true|.gt,.Gt=>true|.ge,.GtE=>true|.isin,.In=>true|.notin,.NotIn=>true|.isN,.Is=>true|.isnotN,.IsNot=>true|_,_=>false
def biS:Bi->Str|.len=>"len"|.sum=>"sum"|.tuple=>"tuple"|.int=>"int"|.all=>"all"|.any=>"any"|.max=>"max"|.min=>"min"|.str=>"str"
def meS:Me->Str|.append=>"append"|.extend=>"extend"
def biOn:Bi->Bool|.len=>true|.sum=>true|.tuple=>true|.int=>false|.all=>true|.any=>true|.max=>false|.min=>false|.str=>false
def meOn:Me->Bool|.append=>true|.extend=>true
def zmo:Expr->Bool|.Call _ [] _ _=>false|_=>true
def me0:Me->Bool|_=>false
def zgx:Expr->Bool|.Name _ _=>true|_=>false
def ziL:Expr->Bool|.Set _ _ _=>true|_=>false
def zdd:Expr->Bool|.Slice _ _ _ _=>true|_=>false
def zc3:E->Bool|.con .non=>true|_=>false
def zdE:Expr->Bool|.UnaryOp .Not _ _=>false|.BoolOp _ _ _=>false|.IfExp _ _ _ _=>false|.Compare _ _ _ _=>false|_=>true
def zkK:Expr->Bool|.Compare _ _ _ _=>true|_=>false
def zpV(x:Str):Str:=("?":Str)++x
def relN(outer names:List (Str×X0)):List (Str×X0):=names.map λ(n,k)=>if(k==WM&&outer.lookup n==some .cell) then(n,.cell) else(n,k)
mutual
noncomputable def zcG:Tg->Expr->List (Nat×Str)
 |.name i,e=>match e with
  |.Name x _=>[(i,x)]|_=>[]
 |.tup ts,e=>match e with
  |.Tuple xs _ _=>tgNamess ts xs|_=>[]
noncomputable def tgNamess:List Tg->List Expr->List (Nat×Str)
 | [],_=>[]
 |t::ts,es=>match es with
  |e::es=>zcG t e++tgNamess ts es| []=>[]
end
def blkN(N:List Str)(own:List (Nat×Str)):List Str:=own.foldl (λM p=>M.set p.1 p.2) (N.map λx=>if own.any (λp=>p.2==x) then zpV x else x)
def blkC(C:Cst)(sc:Scope)(own:List (Nat×Str)):Cst:={N:=blkN C.N own,names:=relN C.names sc.names,fns:=C.fns,globs:=C.globs,top:=false,cls:=C.cls,gds:=C.gds}
def zrw(C:Cst)(C':Cst)(own:List Nat)(i:Nat)(x:Str):Bool:=match C'.names.lookup x with
 |some .local=>own.contains i
 |some .cell | some .free=>own.contains i||(C.N[i]?==some x&&(C.names.lookup x==some .cell||C.names.lookup x==some .free))
 |_=>true
def zkI(C:Cst)(sc:Scope)(C':Cst)(own:List Nat):Bool:=
 sc.kind==.function&&sc.names.all (λy=>y.2 != .cell)&&sc.names.all (λx=>x.2 != .local||sc.names.lookup x.1==some .local)
 && sc.names.all (λx=>x.2 != .free||C.names.lookup x.1==some .cell||C.names.lookup x.1==some .free)
 && (Zk C'.N.length).all (λi=>match C'.N[i]? with | some x=>zrw C C' own i x | none=>true)
 && C'.N.length==C.N.length&&decide C'.N.Nodup
mutual
noncomputable def zdP(C:Cst):Tg->Expr->Bool
 |.name i,e=>match e with
  |.Name x _=>C.N[i]?==some x&&locB C x|_=>false
 |.tup ts,e=>match e with
  |.Tuple xs _ _=>chkTgs C ts xs|_=>false
noncomputable def chkTgs(C:Cst):List Tg->List Expr->Bool
 | [],es=>match es with
  | []=>true|_=>false
 |t::ts,es=>match es with
  |e::es=>zaj e&&zdP C t e&&chkTgs C ts es| []=>false
end
def inB:Bool->CmpOp->Bool|false,.In=>true|true,.NotIn=>true|_,_=>false
def enuB:I->Expr->Bool
 |.enk _ _,e=>match e with
  |.Tuple _ _ _=>true|_=>false
 |_,_=>true
theorem andT{a b:Bool}(h:(a&&b)=true):a=true/\b=true:=by simpa using h
def kNil(l:List α)(b:Bool):Bool:=match l with| []=>b|_::_=>false
inductive JNil(b:Bool):List α->Prop|mk (h:b=true):JNil b []
theorem zht(h:kNil l b=true):JNil b l:=by
 cases l with|nil=>exact⟨h⟩|cons _ _=>exact noT h
def zcb(l:List α)(k:α->List α->Bool):Bool:=match l with| []=>false|v::vs=>k v vs
inductive zrh(k:α->List α->Bool):List α->Prop|mk (v:α) (vs:List α) (h:k v vs=true):zrh k (v::vs)
theorem zaS(h:zcb l k=true):zrh k l:=by
 cases l with|nil=>exact noT h|cons _ _=>exact⟨_,_,h⟩
def kOne(l:List α)(k:α->Bool):Bool:=zcb l λv vs=>kNil vs (k v)
inductive JOne(k:α->Bool):List α->Prop|mk (v:α) (h:k v=true):JOne k [v]
theorem zaR(h:kOne l k=true):JOne k l:=by obtain⟨v,vs,h⟩:=zaS h;obtain⟨h⟩:=zht h;exact⟨_,h⟩
def zn4(o:Option α)(b:Bool):Bool:=match o with|none=>b|some _=>false
inductive zqM(b:Bool):Option α->Prop|mk (h:b=true):zqM b none
theorem znB(h:zn4 o b=true):zqM b o:=by
 cases o with|none=>exact⟨h⟩|some _=>exact noT h
def zlu(o:Option α)(k:α->Bool):Bool:=match o with|none=>false|some v=>k v
inductive zrO(k:α->Bool):Option α->Prop|mk (v:α) (h:k v=true):zrO k (some v)
theorem zhJ(h:zlu o k=true):zrO k o:=by
 cases o with|none=>exact noT h|some _=>exact⟨_,h⟩
def kNm(e:Expr)(k:Str->Pos->Bool):Bool:=if h:e.ctorIdx=23 then @Expr.Name.elim (λ_=>Bool) e h k else false
inductive JNm(k:Str->Pos->Bool):Expr->Prop|mk a0 a1 (h:k a0 a1=true):JNm k (.Name a0 a1)
theorem ofNm(h:kNm e k=true):JNm k e:=by
 by_cases g:e.ctorIdx=23
 ·exact @Expr.Name.elim (λe=>kNm e k=true->JNm k e) e g (λa0 a1 h=>⟨_,_,h⟩) h
 ·exact noT ((dif_neg g).symm.trans h)
def kAt(e:Expr)(k:Expr->Str->Pos->Bool):Bool:=if h:e.ctorIdx=20 then @Expr.Attribute.elim (λ_=>Bool) e h k else false
inductive JAt(k:Expr->Str->Pos->Bool):Expr->Prop|mk a0 a1 a2 (h:k a0 a1 a2=true):JAt k (.Attribute a0 a1 a2)
theorem ofAt(h:kAt e k=true):JAt k e:=by
 by_cases g:e.ctorIdx=20
 ·exact @Expr.Attribute.elim (λe=>kAt e k=true->JAt k e) e g (λa0 a1 a2 h=>⟨_,_,_,h⟩) h
 ·exact noT ((dif_neg g).symm.trans h)
def zj5(e:Expr)(k:Expr->(List Expr)->(List Yq)->Pos->Bool):Bool:=if h:e.ctorIdx=16 then @Expr.Call.elim (λ_=>Bool) e h k else false
inductive zoq(k:Expr->(List Expr)->(List Yq)->Pos->Bool):Expr->Prop|mk a0 a1 a2 a3 (h:k a0 a1 a2 a3=true):zoq k (.Call a0 a1 a2 a3)
theorem zkT(h:zj5 e k=true):zoq k e:=by
 by_cases g:e.ctorIdx=16
 ·exact @Expr.Call.elim (λe=>zj5 e k=true->zoq k e) e g (λa0 a1 a2 a3 h=>⟨_,_,_,_,h⟩) h
 ·exact noT ((dif_neg g).symm.trans h)
def kCN(e:Expr)(k:Str->Pos->(List Expr)->Pos->Bool):Bool:=zj5 e λf vs ks p=>kNm f λx q=>kNil ks (k x q vs p)
inductive JCN(k:Str->Pos->(List Expr)->Pos->Bool):Expr->Prop|mk a0 a1 a2 a3 (h:k a0 a1 a2 a3=true):JCN k (.Call (.Name a0 a1) a2 [] a3)
theorem ofCN(h:kCN e k=true):JCN k e:=by obtain⟨f,vs,ks,p,g⟩:=zkT h;obtain⟨x,q,i⟩:=ofNm g;obtain⟨j⟩:=zht i;exact⟨_,_,_,_,j⟩
def kCA(e:Expr)(k:Expr->Str->Pos->(List Expr)->Pos->Bool):Bool:=zj5 e λf vs ks p=>kAt f λo x q=>kNil ks (k o x q vs p)
inductive JCA(k:Expr->Str->Pos->(List Expr)->Pos->Bool):Expr->Prop|mk a0 a1 a2 a3 a4 (h:k a0 a1 a2 a3 a4=true):JCA k (.Call (.Attribute a0 a1 a2) a3 [] a4)
theorem ofCA(h:kCA e k=true):JCA k e:=by obtain⟨f,vs,ks,p,g⟩:=zkT h;obtain⟨o,x,q,i⟩:=ofAt g;obtain⟨j⟩:=zht i;exact⟨_,_,_,_,_,j⟩
def kCo(e:Expr)(k:Const->Nat->Pos->Bool):Bool:=if h:e.ctorIdx=19 then @Expr.Constant.elim (λ_=>Bool) e h k else false
inductive JCo(k:Const->Nat->Pos->Bool):Expr->Prop|mk a0 a1 a2 (h:k a0 a1 a2=true):JCo k (.Constant a0 a1 a2)
theorem ofCo(h:kCo e k=true):JCo k e:=by
 by_cases g:e.ctorIdx=19
 ·exact @Expr.Constant.elim (λe=>kCo e k=true->JCo k e) e g (λa0 a1 a2 h=>⟨_,_,_,h⟩) h
 ·exact noT ((dif_neg g).symm.trans h)
def kKw(w:Yq)(k:Option Str->Expr->Bool):Bool:=match w with|⟨o,e,_⟩=>k o e
def kInt(c:Const)(k:Int->Bool):Bool:=match c with|.int i=>k i|_=>false
def kBi(e:Expr)(k:Expr->V3->Expr->Pos->Bool):Bool:=if h:e.ctorIdx=2 then @Expr.BinOp.elim (λ_=>Bool) e h k else false
inductive JBi(k:Expr->V3->Expr->Pos->Bool):Expr->Prop|mk a0 a1 a2 a3 (h:k a0 a1 a2 a3=true):JBi k (.BinOp a0 a1 a2 a3)
theorem ofBi(h:kBi e k=true):JBi k e:=by
 by_cases g:e.ctorIdx=2
 ·exact @Expr.BinOp.elim (λe=>kBi e k=true->JBi k e) e g (λa0 a1 a2 a3 h=>⟨_,_,_,_,h⟩) h
 ·exact noT ((dif_neg g).symm.trans h)
def kUn(e:Expr)(k:Xg->Expr->Pos->Bool):Bool:=if h:e.ctorIdx=3 then @Expr.UnaryOp.elim (λ_=>Bool) e h k else false
inductive JUn(k:Xg->Expr->Pos->Bool):Expr->Prop|mk a0 a1 a2 (h:k a0 a1 a2=true):JUn k (.UnaryOp a0 a1 a2)
theorem ofUn(h:kUn e k=true):JUn k e:=by
 by_cases g:e.ctorIdx=3
 ·exact @Expr.UnaryOp.elim (λe=>kUn e k=true->JUn k e) e g (λa0 a1 a2 h=>⟨_,_,_,h⟩) h
 ·exact noT ((dif_neg g).symm.trans h)
def kCm(e:Expr)(k:Expr->(List CmpOp)->(List Expr)->Pos->Bool):Bool:=if h:e.ctorIdx=15 then @Expr.Compare.elim (λ_=>Bool) e h k else false
inductive JCm(k:Expr->(List CmpOp)->(List Expr)->Pos->Bool):Expr->Prop|mk a0 a1 a2 a3 (h:k a0 a1 a2 a3=true):JCm k (.Compare a0 a1 a2 a3)
theorem ofCm(h:kCm e k=true):JCm k e:=by
 by_cases g:e.ctorIdx=15
 ·exact @Expr.Compare.elim (λe=>kCm e k=true->JCm k e) e g (λa0 a1 a2 a3 h=>⟨_,_,_,_,h⟩) h
 ·exact noT ((dif_neg g).symm.trans h)
def kBo(e:Expr)(k:WU->(List Expr)->Pos->Bool):Bool:=if h:e.ctorIdx=0 then @Expr.BoolOp.elim (λ_=>Bool) e h k else false
inductive JBo(k:WU->(List Expr)->Pos->Bool):Expr->Prop|mk a0 a1 a2 (h:k a0 a1 a2=true):JBo k (.BoolOp a0 a1 a2)
theorem ofBo(h:kBo e k=true):JBo k e:=by
 by_cases g:e.ctorIdx=0
 ·exact @Expr.BoolOp.elim (λe=>kBo e k=true->JBo k e) e g (λa0 a1 a2 h=>⟨_,_,_,h⟩) h
 ·exact noT ((dif_neg g).symm.trans h)
def kIf(e:Expr)(k:Expr->Expr->Expr->Pos->Bool):Bool:=if h:e.ctorIdx=5 then @Expr.IfExp.elim (λ_=>Bool) e h k else false
inductive JIf(k:Expr->Expr->Expr->Pos->Bool):Expr->Prop|mk a0 a1 a2 a3 (h:k a0 a1 a2 a3=true):JIf k (.IfExp a0 a1 a2 a3)
theorem ofIf(h:kIf e k=true):JIf k e:=by
 by_cases g:e.ctorIdx=5
 ·exact @Expr.IfExp.elim (λe=>kIf e k=true->JIf k e) e g (λa0 a1 a2 a3 h=>⟨_,_,_,_,h⟩) h
 ·exact noT ((dif_neg g).symm.trans h)
def kTu(e:Expr)(k:(List Expr)->Nat->Pos->Bool):Bool:=if h:e.ctorIdx=25 then @Expr.Tuple.elim (λ_=>Bool) e h k else false
inductive JTu(k:(List Expr)->Nat->Pos->Bool):Expr->Prop|mk a0 a1 a2 (h:k a0 a1 a2=true):JTu k (.Tuple a0 a1 a2)
theorem ofTu(h:kTu e k=true):JTu k e:=by
 by_cases g:e.ctorIdx=25
 ·exact @Expr.Tuple.elim (λe=>kTu e k=true->JTu k e) e g (λa0 a1 a2 h=>⟨_,_,_,h⟩) h
 ·exact noT ((dif_neg g).symm.trans h)
def kSu(e:Expr)(k:Expr->Expr->Pos->Bool):Bool:=if h:e.ctorIdx=21 then @Expr.Subscript.elim (λ_=>Bool) e h k else false
inductive JSu(k:Expr->Expr->Pos->Bool):Expr->Prop|mk a0 a1 a2 (h:k a0 a1 a2=true):JSu k (.Subscript a0 a1 a2)
theorem ofSu(h:kSu e k=true):JSu k e:=by
 by_cases g:e.ctorIdx=21
 ·exact @Expr.Subscript.elim (λe=>kSu e k=true->JSu k e) e g (λa0 a1 a2 h=>⟨_,_,_,h⟩) h
 ·exact noT ((dif_neg g).symm.trans h)
def kSl(e:Expr)(k:(Option Expr)->(Option Expr)->(Option Expr)->Pos->Bool):Bool:=if h:e.ctorIdx=26 then @Expr.Slice.elim (λ_=>Bool) e h k else false
inductive JSl(k:(Option Expr)->(Option Expr)->(Option Expr)->Pos->Bool):Expr->Prop|mk a0 a1 a2 a3 (h:k a0 a1 a2 a3=true):JSl k (.Slice a0 a1 a2 a3)
theorem ofSl(h:kSl e k=true):JSl k e:=by
 by_cases g:e.ctorIdx=26
 ·exact @Expr.Slice.elim (λe=>kSl e k=true->JSl k e) e g (λa0 a1 a2 a3 h=>⟨_,_,_,_,h⟩) h
 ·exact noT ((dif_neg g).symm.trans h)
def kLC(e:Expr)(k:Expr->(List Comprehension)->Scope->Pos->Bool):Bool:=if h:e.ctorIdx=8 then @Expr.ListComp.elim (λ_=>Bool) e h k else false
inductive JLC(k:Expr->(List Comprehension)->Scope->Pos->Bool):Expr->Prop|mk a0 a1 a2 a3 (h:k a0 a1 a2 a3=true):JLC k (.ListComp a0 a1 a2 a3)
theorem ofLC(h:kLC e k=true):JLC k e:=by
 by_cases g:e.ctorIdx=8
 ·exact @Expr.ListComp.elim (λe=>kLC e k=true->JLC k e) e g (λa0 a1 a2 a3 h=>⟨_,_,_,_,h⟩) h
 ·exact noT ((dif_neg g).symm.trans h)
def kLi(e:Expr)(k:(List Expr)->Pos->Bool):Bool:=if h:e.ctorIdx=24 then @Expr.List.elim (λ_=>Bool) e h k else false
inductive JLi(k:(List Expr)->Pos->Bool):Expr->Prop|mk a0 a1 (h:k a0 a1=true):JLi k (.List a0 a1)
theorem ofLi(h:kLi e k=true):JLi k e:=by
 by_cases g:e.ctorIdx=24
 ·exact @Expr.List.elim (λe=>kLi e k=true->JLi k e) e g (λa0 a1 h=>⟨_,_,h⟩) h
 ·exact noT ((dif_neg g).symm.trans h)
def kDi(e:Expr)(k:(List (Option Expr))->(List Expr)->Pos->Bool):Bool:=if h:e.ctorIdx=6 then @Expr.Dict.elim (λ_=>Bool) e h k else false
inductive JDi(k:(List (Option Expr))->(List Expr)->Pos->Bool):Expr->Prop|mk a0 a1 a2 (h:k a0 a1 a2=true):JDi k (.Dict a0 a1 a2)
theorem ofDi(h:kDi e k=true):JDi k e:=by
 by_cases g:e.ctorIdx=6
 ·exact @Expr.Dict.elim (λe=>kDi e k=true->JDi k e) e g (λa0 a1 a2 h=>⟨_,_,_,h⟩) h
 ·exact noT ((dif_neg g).symm.trans h)
def kAs(e:Stmt)(k:(List Expr)->Expr->Pos->Bool):Bool:=if h:e.ctorIdx=5 then @Stmt.Assign.elim (λ_=>Bool) e h k else false
inductive JAs(k:(List Expr)->Expr->Pos->Bool):Stmt->Prop|mk a0 a1 a2 (h:k a0 a1 a2=true):JAs k (.Assign a0 a1 a2)
theorem ofAs(h:kAs e k=true):JAs k e:=by
 by_cases g:e.ctorIdx=5
 ·exact @Stmt.Assign.elim (λe=>kAs e k=true->JAs k e) e g (λa0 a1 a2 h=>⟨_,_,_,h⟩) h
 ·exact noT ((dif_neg g).symm.trans h)
def kEx(e:Stmt)(k:Expr->Pos->Bool):Bool:=if h:e.ctorIdx=24 then @Stmt.Expr.elim (λ_=>Bool) e h k else false
inductive JEx(k:Expr->Pos->Bool):Stmt->Prop|mk a0 a1 (h:k a0 a1=true):JEx k (.Expr a0 a1)
theorem ofEx(h:kEx e k=true):JEx k e:=by
 by_cases g:e.ctorIdx=24
 ·exact @Stmt.Expr.elim (λe=>kEx e k=true->JEx k e) e g (λa0 a1 h=>⟨_,_,h⟩) h
 ·exact noT ((dif_neg g).symm.trans h)
def kIfS(e:Stmt)(k:Expr->(List Stmt)->(List Stmt)->Pos->Bool):Bool:=if h:e.ctorIdx=12 then @Stmt.If.elim (λ_=>Bool) e h k else false
inductive JIfS(k:Expr->(List Stmt)->(List Stmt)->Pos->Bool):Stmt->Prop|mk a0 a1 a2 a3 (h:k a0 a1 a2 a3=true):JIfS k (.If a0 a1 a2 a3)
theorem zqL(h:kIfS e k=true):JIfS k e:=by
 by_cases g:e.ctorIdx=12
 ·exact @Stmt.If.elim (λe=>kIfS e k=true->JIfS k e) e g (λa0 a1 a2 a3 h=>⟨_,_,_,_,h⟩) h
 ·exact noT ((dif_neg g).symm.trans h)
def kFo(e:Stmt)(k:Expr->Expr->(List Stmt)->(List Stmt)->Pos->Bool):Bool:=if h:e.ctorIdx=9 then @Stmt.For.elim (λ_=>Bool) e h k else false
inductive JFo(k:Expr->Expr->(List Stmt)->(List Stmt)->Pos->Bool):Stmt->Prop|mk a0 a1 a2 a3 a4 (h:k a0 a1 a2 a3 a4=true):JFo k (.For a0 a1 a2 a3 a4)
theorem ofFo(h:kFo e k=true):JFo k e:=by
 by_cases g:e.ctorIdx=9
 ·exact @Stmt.For.elim (λe=>kFo e k=true->JFo k e) e g (λa0 a1 a2 a3 a4 h=>⟨_,_,_,_,_,h⟩) h
 ·exact noT ((dif_neg g).symm.trans h)
def kRe(e:Stmt)(k:(Option Expr)->Pos->Bool):Bool:=if h:e.ctorIdx=3 then @Stmt.Return.elim (λ_=>Bool) e h k else false
inductive JRe(k:(Option Expr)->Pos->Bool):Stmt->Prop|mk a0 a1 (h:k a0 a1=true):JRe k (.Return a0 a1)
theorem ofRe(h:kRe e k=true):JRe k e:=by
 by_cases g:e.ctorIdx=3
 ·exact @Stmt.Return.elim (λe=>kRe e k=true->JRe k e) e g (λa0 a1 h=>⟨_,_,h⟩) h
 ·exact noT ((dif_neg g).symm.trans h)
def kRa(e:Stmt)(k:(Option Expr)->(Option Expr)->Pos->Bool):Bool:=if h:e.ctorIdx=16 then @Stmt.Raise.elim (λ_=>Bool) e h k else false
inductive JRa(k:(Option Expr)->(Option Expr)->Pos->Bool):Stmt->Prop|mk a0 a1 a2 (h:k a0 a1 a2=true):JRa k (.Raise a0 a1 a2)
theorem ofRa(h:kRa e k=true):JRa k e:=by
 by_cases g:e.ctorIdx=16
 ·exact @Stmt.Raise.elim (λe=>kRa e k=true->JRa k e) e g (λa0 a1 a2 h=>⟨_,_,_,h⟩) h
 ·exact noT ((dif_neg g).symm.trans h)
def kUS(e:Xg)(k:Bool):Bool:=match e with|.USub=>k|_=>false
inductive JUS(k:Bool):Xg->Prop|mk  (h:k=true):JUS k .USub
theorem ofUS(h:kUS e k=true):JUS k e:=by cases e<;>first | exact noT h | exact⟨h⟩
def kNo(e:Xg)(k:Bool):Bool:=match e with|.Not=>k|_=>false
inductive JNo(k:Bool):Xg->Prop|mk  (h:k=true):JNo k .Not
theorem ofNo(h:kNo e k=true):JNo k e:=by cases e<;>first | exact noT h | exact⟨h⟩
def kAn(e:WU)(k:Bool):Bool:=match e with|.And=>k|_=>false
inductive JAn(k:Bool):WU->Prop|mk  (h:k=true):JAn k .And
theorem ofAn(h:kAn e k=true):JAn k e:=by cases e<;>first | exact noT h | exact⟨h⟩
def kOr(e:WU)(k:Bool):Bool:=match e with|.Or=>k|_=>false
inductive JOr(k:Bool):WU->Prop|mk  (h:k=true):JOr k .Or
theorem ofOr(h:kOr e k=true):JOr k e:=by cases e<;>first | exact noT h | exact⟨h⟩
def kAd(e:V3)(k:Bool):Bool:=match e with|.Add=>k|_=>false
inductive JAd(k:Bool):V3->Prop|mk  (h:k=true):JAd k .Add
theorem ofAd(h:kAd e k=true):JAd k e:=by cases e<;>first | exact noT h | exact⟨h⟩
def lclB(C:Cst)(x:Str):Bool:=match C.names.lookup x with|some .local=>true|_=>false
mutual
noncomputable def chkE:E->Cst->Expr->Bool
 |.con d,_,e=>kCo e λc _ _=>(conB d c)
 |.var i,C,e=>kNm e λx _=>(C.N[i]?==some x&&visB C x&&zaJ x)
 |.bin o a b,C,e=>kBi e λl op r _=>(boB o op&&chkE a C l&&chkE b C r)
 |.neg a,C,e=>kUn e λz2 x _=>kUS z2 ((chkE a C x))
 |.cmp o a b,C,e=>kCm e λl z2 z4 _=>kOne z2 λop=>kOne z4 λr=>(coB o op&&chkE a C l&&chkE b C r&&!ziL r)
 |.and a b,C,e=>kBo e λz2 z3 pos=>kAn z2 (zcb z3 λv z4=>zcb z4 λw rest=>(chkE a C v&&(match rest with | []=>chkE b C w | y::ys=>chkE b C (.BoolOp .And (w::y::ys) pos))))
 |.or a b,C,e=>kBo e λz2 z3 pos=>kOr z2 (zcb z3 λv z4=>zcb z4 λw rest=>(chkE a C v&&(match rest with | []=>chkE b C w | y::ys=>chkE b C (.BoolOp .Or (w::y::ys) pos))))
 |.not a,C,e=>kUn e λz2 x _=>kNo z2 ((chkE a C x))
 |.ife c a b,C,e=>kIf e λt x y _=>(chkT c C t&&chkE a C x&&chkE b C y)
 |.tup es,C,e=>kTu e λxs _ _=>(chkEs es C xs&&decide (xs.length<=1000))
 |.lst _ l,C,e=>chkL l C e
 |.idx a i,C,e=>kSu e λx y _=>(chkE a C x&&chkE i C y&&!zdd y)
 |.sli a lo hi,C,e=>kSu e λx z2 _=>kSl z2 λl u z3 _=>zn4 z3 ((chkE a C x&&(match l with | none=>zc3 lo | some y=>chkE lo C y)&&(match u with | none=>zc3 hi | some y=>chkE hi C y)))
 |.call f es,C,e=>kCN e λx _ z3 _=>zcb z3 λv vs=>((match C.fns[f]? with | some p=>p.1==x | none=>false)&&zb4 C x&&zaJ x&&chkEs es C (v::vs))
 |.bi b es,C,e=>kCN e λx _ z3 _=>zcb z3 λv vs=>((biOn b&&x==biS b)&&zb4 C x&&chkEs es C (v::vs))
 |.me m o es,C,e=>kCA e λov name apos vs cpos=>(match vs with
  |v::vs=>(!me0 m&&meOn m)&&name==meS m&&zgx ov&&chkE o C ov&&chkEs es C (v::vs)&&apos.endLine==cpos.line&&decide ((v::vs).length<20)
  | []=>(me0 m&&meOn m)&&name==meS m&&zgx ov&&chkE o C ov&&chkEs es C []&&apos.endLine==cpos.line)
 |.glo d,C,e=>kNm e λx _=>((match C.globs.lookup x with | some d'=>D.same d d' | none=>false)&&zb4 C x&&zaJ x)
 |.lset a,C,e=>kCN e λx _ z3 _=>kOne z3 λz4=>kCN z4 λy _ z6 _=>kOne z6 λv=>(x==("len":Str)&&zb4 C x&&y==("set":Str)&&zb4 C y&&zaj v&&chkE a C v)
 |.isi t a,C,e=>kCN e λx _ z3 _=>zcb z3 λv z4=>kOne z4 λz5=>kNm z5 λy _=>(x==("isinstance":Str)&&zb4 C x&&zaj v&&chkE a C v&&y==Yx (tyS t)&&zb4 C y)
 |.tm m o es,C,e=>kCA e λov name apos z3 cpos=>zcb z3 λv vs=>(name==tmS m&&zmo ov&&chkE o C ov&&chkEs es C (v::vs)&&apos.endLine==cpos.line&&decide ((v::vs).length<20))
 |.lm m o a,C,e=>kCA e λov name apos z3 cpos=>kOne z3 λv=>(name==lmS m&&zmo ov&&chkE o C ov&&zaj v&&chkE a C v&&apos.endLine==cpos.line)
 |.lstO tg it cs el,C,e=>false
 |.dnew,_,e=>kDi e λz2 z3 _=>kNil z2 (kNil z3 ((true)))
 |.din neg k d,C,e=>kCm e λl z2 z4 _=>kOne z2 λop=>kOne z4 λr=>(inB neg op&&chkE k C l&&chkE d C r&&!ziL r)
 |.stuck,_,_=>true
noncomputable def chkEs:List E->Cst->List Expr->Bool
 | [],_,es=>match es with
  | []=>true|_=>false
 |a::as,C,es=>match es with
  |e::es=>zaj e&&chkE a C e&&chkEs as C es| []=>false
noncomputable def chkT:T->Cst->Expr->Bool
 |.val a,C,e=>chkE a C e&&(zdE e||zkK e)
 |.and a b,C,e=>kBo e λz2 z3 pos=>kAn z2 (zcb z3 λv z4=>zcb z4 λw rest=>(chkT a C v&&(match rest with | []=>chkT b C w | y::ys=>chkT b C (.BoolOp .And (w::y::ys) pos))))
 |.or a b,C,e=>kBo e λz2 z3 pos=>kOr z2 (zcb z3 λv z4=>zcb z4 λw rest=>(chkT a C v&&(match rest with | []=>chkT b C w | y::ys=>chkT b C (.BoolOp .Or (w::y::ys) pos))))
 |.not a,C,e=>kUn e λz2 x _=>kNo z2 ((chkT a C x))
noncomputable def zmj:List T->Cst->List Expr->Bool
 | [],_,es=>match es with
  | []=>true|_=>false
 |t::ts,C,es=>match es with
  |e::es=>chkT t C e&&zmj ts C es&&es.isEmpty| []=>false
noncomputable def chkL:L->Cst->Expr->Bool
 |.disp es,C,e=>kLi e λxs _=>(chkEs es C xs&&decide (xs.length<=1000))
 | .comp tg it cs el,C,e=>kLC e λelt z2 sc _=>kOne z2 λg=>(g.is_async==0&&!ziL g.iter&&zkI C sc (blkC C sc (zcG tg g.target)) tg.slots&&(zdP (blkC C sc (zcG tg g.target)) tg g.target&&enuB it g.target)&&chkI it C g.iter
    && zmj cs (blkC C sc (zcG tg g.target)) g.ifs&&chkE el (blkC C sc (zcG tg g.target)) elt)
 |.of a,C,e=>kCN e λx _ z3 _=>kOne z3 λv=>(x==("list":Str)&&zb4 C x&&zaj v&&chkE a C v)
 |.spl a b,C,e=>kCA e λov name apos z3 cpos=>kOne z3 λv=>(name==("split":Str)&&zmo ov&&chkE a C ov&&zaj v&&chkE b C v&&apos.endLine==cpos.line)
 |.cat a b,C,e=>kBi e λl z2 r _=>kAd z2 ((chkE a C l&&chkE b C r))
noncomputable def chkI:I->Cst->Expr->Bool
 |.seq a,C,e=>chkE a C e
 |.rng a,C,e=>kCN e λx _ z3 _=>kOne z3 λv=>(x==("range":Str)&&zb4 C x&&zaj v&&chkE a C v)
 |.enk k a,C,e=>zj5 e λf vs ks _=>kNm f λx _=>kOne vs λv=>kOne ks λkw=>kKw kw λo c=>zlu o λn=>kCo c λci _ _=>kInt ci λi=>(x==("enumerate":Str)&&n==("start":Str)&&i==(k:Int)&&decide (k<1000)&&zb4 C x&&zaj v&&chkE a C v)
end
def zck:Expr->Bool|.ListComp _ _ _ _=>true|.SetComp _ _ _ _=>true|.DictComp _ _ _ _ _=>true|_=>false
def zb0:Expr->Bool|.Tuple _ _ _=>true|.List _ _=>true|_=>false
mutual
noncomputable def chkS:S->Cst->Stmt->Bool
 |.asg tg a,C,st=>kAs st λz2 v pos=>kOne z2 λt=>(zdP C tg t&&zaj t&&chkE a C v&&!(zb0 t&&zb0 v)&&(!zck v||(zck v&&zgx t)))
 |.setI o i a,C,st=>kAs st λz2 v _=>kOne z2 λz3=>kSu z3 λov iv _=>(chkE a C v&&chkE o C ov&&chkE i C iv&&!zck v&&!zdd iv)
 |.exp a,C,st=>kEx st λv _=>(chkE a C v&&!zck v)
 |.ife c a b,C,st=>kIfS st λt x y _=>(chkT c C t&&chkSs a C x&&chkSs b C y)
 |.for tg it body,C,st=>kFo st λt iter b z2 _=>kNil z2 (((zdP C tg t&&enuB it t)&&chkI it C iter&&chkSs body C b&&!ziL iter))
 |.ret a,C,st=>kRe st λz2 _=>zlu z2 λv=>(chkE a C v)
 |.brk,_,st=>false|.cnt,_,st=>false
 |.setD o i a,C,st=>kAs st λz2 v _=>kOne z2 λz3=>kSu z3 λov iv _=>(chkE a C v&&chkE o C ov&&chkE i C iv&&!zck v&&!zdd iv)
 |.unp is a,C,st=>kAs st λz2 v _=>kOne z2 λz3=>kTu z3 λts _ _=>(chkTgs C (is.map Tg.name) ts&&chkE a C v&&!zck v&&!zb0 v)
 |.raiN c a,C,st=>kRa st λz2 z7 _=>zlu z2 λz3=>kCN z3 λx _ z5 _=>kOne z5 λv=>zn4 z7 (((match C.exs[c]? with | some y=>y.name==x&&y.num | none=>false)&&zb4 C x&&zaJ x&&zaj v&&chkE a C v&&C.top))
 |.tryb _ _ _ _ _,_,_=>false|.stuck,_,_=>true
noncomputable def chkSs:List S->Cst->List Stmt->Bool
 | [],_,sts=>match sts with
  | []=>true|_=>false
 |s::ss,C,sts=>match sts with
  |st::sts=>chkS s C st&&chkSs ss C sts| []=>false
end
end IT
namespace IT
open PySem PySem.Spec L2
def zco:List Str:=["len", "sum", "tuple", "int", "range", "all", "any", "max", "min", "list", "isinstance", "str", "bool", "dict", "enumerate", "sorted", "set"]
structure Excs(Γ:Calls)(n:Nat)(C:Cst)(X:Cx)(cv:ClsV):Prop where
 num:∀(c:Nat) (x:zdO),C.exs[c]?=some x->x.num=true->∃Ca,X.mg x.name=some (.ref Ca)/\(∀k,cv (.d (.tup [.int c,.int k]))=some (.ref Ca))/\ExcN X.K Ca/\znc X n Ca/\ExcJ X.K Ca/\XOk X.K X.mg Ca x
 funs:∀(f:Nat) (p:Str×Nat×List D),C.fns[f]?=some p->FunX X cv n p.1 p.2.1 p.2.2 (Γ (xof f))
structure Good(Γ:Calls)(n:Nat)(C:Cst)(X:Cx):Prop where
 nox:X.xe=λ_ _=>False
 calm:X.calm=true
 room:Room n X.A
 room1:Room (n+1) X.A
 kind:X.env.scope.kind=.function
 N:X.N=C.N
 nd:X.N.Nodup
 names:X.env.scope.names=C.names
 fn:C.top=true->∀x,X.fn x=true
 funs:∀(f:Nat) (p:Str×Nat×List D),C.fns[f]?=some p->zos X n p.1 p.2.1 p.2.2 (Γ f)
 blt:∀x∈zco,X.mg x=none
 glob:∀(x:Str) (d:D),C.globs.lookup x=some d->∃u v,X.mg x=some u/\RelV v u/\∀A H,RepD X.K A H d v
 defc:C.top=true->zd5 X
 excs:∃cv,Excs Γ n C X cv
theorem zal(h:zaj e=true):ZT (e::es) env=(false,eval e env)::ZT es env:=by cases e<;>first | rfl | (first | exact noT h | exact noF h)
theorem zaO:∀{as:List E} {C:Cst} {es:List Expr},chkEs as C es=true->as.length=es.length| [],C,[],_=>rfl| [],C,_::_,h=>noT h|a::as,C,[],h=>noT h|a::as,C,e::es,h=>by change ((zaj _&&chkE _ _ _)&&chkEs _ _ _)=true at h;simp only[Z9] at h;simp[zaO h.2]
theorem zaB:∀{as:List E} {C:Cst} {es:List Expr},chkEs as C es=true->∀e∈es,zaj e=true
 | [],C,[],_,e,he=>by simp at he| [],C,_::_,h,_,_=>noT h|a::as,C,[],h,_,_=>noT h
 |a::as,C,e::es,h,x,hx=>by
  change ((zaj _&&chkE _ _ _)&&chkEs _ _ _)=true at h;simp only[Z9] at h
  rcases ZE.mp hx with rfl | hx
  ·exact h.1.1
  ·exact zaB h.2 x hx
theorem zaU:∀{es:List Expr},(∀e∈es,zaj e=true)->(backTo pos (ZT es env)).any (·.1)=false| [],_=>rfl| e::es,h=>by rw[zal (h e (by simp))];show(false||(backTo pos (ZT es env)).any (·.1))=false;rw[zaU λx hx=>h x (by simp[hx])];rfl
theorem zhO:∀{es:List Expr},(∀e∈es,zaj e=true)->(backTo pos (ZT es env)).all (λx=>!x.1)=true| [],_=>rfl|e::es,h=>by rw[zal (h e (by simp))];show(true&&(backTo pos (ZT es env)).all (λx=>!x.1))=true;rw[zhO λx hx=>h x (by simp[hx])];rfl
theorem zcv:∀{es:List E} {σ:IT.Env} {h h':Sto} {rs:List R},evs Γ es σ h=some (rs,h')->rs.length=es.length
 | [],σ,h,h',rs,e=>by
  simp only[evs,zac] at e
  rw[<-e.1];rfl
 |a::as,σ,h,h',rs,e=>by simp only[evs,zab,zac] at e;obtain⟨r,h1,e1,rs',h2,e2,rfl,rfl⟩:=e;simp[zcv e2]
section
variable {Γ:Calls}{n:Nat}{C:Cst}{X:Cx}{x:Str}
theorem zno(G:Good Γ n C X)(h:visB C x=true):Vis X.env.scope x:=by
 unfold visB at h;unfold Vis;rw[G.names]
 split at h
 ·rename_i e;exact .inl e
 ·rename_i e;exact .inr (.inl e)
 ·rename_i e;exact .inr (.inr e)
 ·cases h
theorem zhU(G:Good Γ n C X)(h:locB C x=true):Loc X.env.scope x/\(X.fn x=true\/X.env.scope.names.lookup x=some .local):=by
 unfold locB at h;unfold L2.Loc;rw[G.names]
 split at h
 ·rename_i e;exact⟨.inl e,.inr e⟩
 ·rename_i e;exact⟨.inr e,.inl (G.fn h x)⟩
 ·cases h
theorem zci(G:Good Γ n C X)(h:zb4 C x=true):Gl X x:=by
 unfold zb4 at h;show X.env.scope.names.lookup x=_;rw[G.names]
 split at h
 ·rename_i e;exact e
 ·cases h
theorem zaT(h:zaJ x=true):(x==("__debug__":Str))=false/\(x==("__classdict__":Str))=false:=by
 unfold zaJ at h
 simpa using h
end
theorem opB(h:boB o op=true):OpD X (YC op) (bop o):=by cases o<;>cases op<;>first | (exact noT h) | exact zoE | exact zpE | exact znQ | exact zlz | exact zoR
theorem coBe(hu:X.A.units+64<cLine)(h:coB o op=true):OpD X (Zf op) (cop o):=by cases o<;>cases op<;>first | (exact noT h) | exact zqA hu | exact zqO hu | exact zqF | exact zrt | exact zqD | exact zq5 | exact zlQ hu | exact zkw hu | exact zoe | exact ziY
theorem zp9(h:cop o x y=some z):∃t,z=.bl t:=by
 cases o with
 |eq=>(change (if _ then _ else _)=_ at h;split at h;exact⟨_,(ZR h).symm⟩;exact zad h)|ne=>(change (if _ then _ else _)=_ at h;split at h;exact⟨_,(ZR h).symm⟩;exact zad h)
 |isin=>
  (delta cop at h;dsimp only at h)
  cases e:items y with|none=>rw[e] at h;dsimp only at h;split at h;exact⟨_,(ZR h).symm⟩;exact zad h|some xs=>rw[e] at h;dsimp only at h;split at h;exact⟨_,(ZR h).symm⟩;exact zad h
 |notin=>
  (delta cop at h;dsimp only at h)
  cases e:items y with|none=>rw[e] at h;dsimp only at h;split at h;exact⟨_,(ZR h).symm⟩;exact zad h|some xs=>rw[e] at h;dsimp only at h;split at h;exact⟨_,(ZR h).symm⟩;exact zad h
 |_=>cases x<;>cases y<;>first | exact zad h | exact⟨_,(ZR h).symm⟩
theorem zsf(e:mD (cop o) x y h=some (r,h')):∃t,r=.d (.bl t):=by simp only[mD,zab,zac,zax] at e;obtain⟨dx,h1,e1,dy,h2,e2,z,h3,⟨e3,_⟩,rfl,_⟩:=e;obtain⟨t,rfl⟩:=zp9 e3;exact⟨t,rfl⟩
section
variable {X:Cx}{o o':Co}{f g k:IT.Env->M R}{a b c:Expr}{pos:Pos}{op op':CmpOp}
end
theorem ziE(h:zdE e=true):∀whole,isTrue e env whole=(do let v<-whole;Ww e.pos;holding [v] (truthy v)):=by
 intro whole
 cases e with
 |UnaryOp op x p=>cases op<;>first | rfl | (first | exact noT h | exact noF h)
 |BoolOp _ _ _=>first | exact noT h | exact noF h
 |IfExp _ _ _ _=>first | exact noT h | exact noF h
 |Compare _ _ _ _=>first | exact noT h | exact noF h
 |_=>rfl
theorem zgZ(h:zmo o=true):YG o name env (eval o env)=eval o env:=by
 unfold YG
 split
 ·cases h
 ·rfl
theorem zgs(h:zgx o=true):YG o name env (eval o env)=eval o env:=by cases o<;>first | rfl | (first | exact noT h | exact noF h)
theorem zlD(h:zdd e=false):zhe e:=by
 intro o i
 cases e<;>first | rfl | (first | exact noT h | exact noF h)
theorem zgY(h:ziL e=false):∀x,Yt e env x=pure x:=by
 intro x
 cases e<;>first | rfl | (first | exact noT h | exact noF h)
theorem zfo(h:ziL e=false):Yn op e=false:=by cases e<;>first | rfl | (first | exact noT h | exact noF h)
theorem ze2(h:zck v=false):Xo [t] v l env=pure false:=by cases v<;>first | rfl | (first | exact noT h | exact noF h)
theorem zmu(h:zck v=false):W7 v none l env=pure false:=by cases v<;>first | rfl | (first | exact noT h | exact noF h)
theorem zbr(h:(zb0 t&&zb0 v)=false):Xn [t] v env=pure none:=by
 cases t with
 |Tuple a b c=>cases v<;>first | rfl | (first | exact noT h | exact noF h)
 |List a b=>cases v<;>first | rfl | (first | exact noT h | exact noF h)
 |_=>rfl
theorem zdg(h:zaj t=true):(Zt [t] env).map (·.2)=[assign t env]:=by cases t<;>first | rfl | (first | exact noT h | exact noF h)
theorem zc1(h:zaj t=true):Zt (t::ts) env=(false,assign t env)::Zt ts env:=by cases t<;>first | rfl | (first | exact noT h | exact noF h)
theorem zeL:∀{ts:List Expr},(∀e∈ts,zaj e=true)->(Zt ts env).length=ts.length/\(Zt ts env).findIdx? (·.1)=none
 | [],_=>⟨rfl,rfl⟩
 |t::ts,h=>by obtain⟨h1,h2⟩:=zeL (env:=env) (ts:=ts) λx hx=>h x (by simp[hx]);rw[zc1 (h t (by simp))];refine⟨by simp[h1],?_⟩;rw[List.findIdx?_cons];simp[h2]
theorem zjW(h:zdd i=false)(v:Value):assign (.Subscript o i p) env v=(do let ov<-holding [v] (eval o env);let iv<-holding [v,ov] (eval i env);Ww p;holding [v,ov,iv] (setItem ov iv v);release [v,ov,iv] []):=by cases i<;>first | rfl | (first | exact noT h | exact noF h)
theorem znr(h:conB d c=true):IE X (.Constant c k pos) (λ_=>ok (.d d)):=by
 cases d with
 |non=>cases c<;>first | (exact noT h) | exact zfC zrA (by intro _ _;simp only[RepD])
 |bl b=>
  cases c with|bool c=>obtain rfl:=ZP h;exact zfC zqr (by intro _ _;simp only[RepD])|_=>exact noT h
 |int b=>
  cases c with|int c=>obtain rfl:=ZP h;exact zfC zqn (by intro _ _;simp only[RepD])|_=>exact noT h
 |str b=>
  cases c with|str c=>obtain rfl:=ZP h;exact zfC zjg (by intro _ _;simp only[RepD])|_=>exact noT h
 |_=>cases c<;>exact noT h
theorem ze7:∀{ts:List Tg} {es:List Expr},chkTgs C ts es=true->(∀e∈es,zaj e=true)/\es.length=ts.length
 | [],[],_=>⟨by simp,rfl⟩| [],_::_,h=>noT h|_::_,[],h=>noT h
 |t::ts,e::es,h=>by
  change ((zaj _&&zdP _ _ _)&&chkTgs _ _ _)=true at h;simp only[Z9] at h;obtain⟨h1,h2⟩:=ze7 h.2;refine⟨λx hx=>?_,by simp[h2]⟩
  rcases ZE.mp hx with rfl | hx
  ·exact h.1.1
  ·exact h1 x hx
mutual
theorem okTg{n:Nat}(G:Good Γ n C X):∀(t:Tg) (e:Expr),zdP C t e=true->PG X e (tG X.K t)
 | .name i,e,h=>by
  cases e with
  |Name x pos=>
   change (_&&locB C _)=true at h;simp only[Z9] at h;obtain⟨h1,h2⟩:=zhU G h.2
   exact zou G.nd (by rw[G.N];exact ZP h.1) h1 h2
  |_=>exact noT h
 | .tup ts,e,h=>by
  cases e with|Tuple xs k pos=>have h:chkTgs C ts xs=true:=h;obtain⟨h1,h2⟩:=ze7 h;obtain⟨h3,h4⟩:=zeL (env:=X.env) h1;exact zqz G.calm (okTgs G ts xs h) h2 h3 h4|_=>exact noT h
theorem okTgs(G:Good Γ n C X):∀(ts:List Tg) (es:List Expr),chkTgs C ts es=true->PGs X es (tGs X.K ts)
 | [],es,h=>by
  cases es with|nil=>exact zoH|cons _ _=>exact noT h
 | t::ts,es,h=>by
  cases es with
  |nil=>exact noT h
  |cons e es=>
   change ((zaj _&&zdP _ _ _)&&chkTgs _ _ _)=true at h;simp only[Z9] at h
   exact zl6 (okTg G t e h.1.2) (okTgs G ts es h.2) (by rw[zc1 h.1.1];rfl)
end
theorem zpc{n:Nat}(G:Good Γ n C X)(t:Tg)(e:Expr)(h:zdP C t e=true):PG X e (tGI X.K t):=by
 cases t with
 |name i=>exact zl0 (okTg G _ _ h)
 | tup ts=>
  by_cases hl:ts.length=2
  ·match ts,hl,h with
   | [a,b],_,h=>
    cases e with
    | Tuple xs k pos=>
     have h:chkTgs C [a,b] xs=true:=h
     match xs,h with
     | [x,y],h=>
      obtain⟨h1,h2⟩:=ze7 h;obtain⟨h3,h4⟩:=zeL (env:=X.env) h1;have hs:=okTgs G [a,b] [x,y] h;change (((zaj _&&zdP _ _ _)&&((zaj _&&zdP _ _ _)&&_))=true) at h;simp only[Z9] at h
      exact znI G.calm hs (zr1 (okTg G a x h.1.2) (okTg G b y h.2.1.2) (by rw[zc1 h.1.1];rfl) (by rw[zc1 h.2.1.1];rfl)) h3 h4
     | [],h=>exact noT h| [_],h=>exact noT (andT h).2|_::_::_::_,h=>exact noT (andT (andT h).2).2
    |_=>exact noT h
  ·exact zpf hl (okTg G _ _ h)
theorem zgo(e:zaP r h=some (w,h')):WlOk w h':=by
 (delta zaP at e;simp only[zab] at e)
 obtain⟨o,h1,e1,e2⟩:=e;obtain⟨rfl,ho⟩:=zcA e1
 cases o with
 |some ls=>obtain⟨l,rfl,ho⟩:=ho;simp only[zac] at e2;obtain⟨rfl,rfl⟩:=e2;intro i hi;cases hi;exact⟨_,ho,λc fs z=>by cases z⟩
 | none=>
  simp only[zab] at e2;obtain⟨d,h2,e3,e4⟩:=e2
  cases r with
  |loc l=>
   obtain⟨o,ho,il,rfl,rfl⟩:=zey e3
   (delta wkOf items at e4;(try dsimp only at e4);simp only[zac] at e4)
   obtain⟨rfl,rfl⟩:=e4;intro i hi;cases hi
   exact⟨o,ho,λc fs z=>by rw[z] at il;cases il⟩
  | d x=>
   have:w.l=none:=by
    (delta wkOf at e4;(try dsimp only at e4))
    cases hi:items d with
    | none=>
     rw[hi] at e4;simp only at e4
     split at e4
     ·split at e4
      ·obtain⟨rfl,rfl⟩:=zac.mp e4;rfl
      ·cases e4
     ·cases e4
    |some xs=>rw[hi] at e4;obtain⟨rfl,rfl⟩:=zac.mp e4;rfl
   intro i hi;rw[this] at hi;cases hi
theorem ze9(e:evI Γ it σ h=some (w,h')):WlOk w h':=by
 cases it with
 |seq a=>simp only[evI,zab] at e;obtain⟨r,h1,e1,e2⟩:=e;exact zgo e2
 | enk k0 a=>
  simp only[evI,zab] at e;obtain⟨r,h1,e1,e2⟩:=e;unfold zhp at e2
  split at e2
  ·simp only[zab] at e2
   obtain⟨w0,h2,e3,e4⟩:=e2
   have:=zgo e3
   cases en:zaz k0 w0.xs with|none=>rw[en] at e4;cases e4|some l=>rw[en] at e4;obtain⟨rfl,rfl⟩:=zac.mp e4;exact this
  ·cases e2
 | rng a=>
  simp only[evI,zab] at e;obtain⟨r,h1,e1,e2⟩:=e
  (delta zft at e2;(try dsimp only at e2))
  intro i el
  split at e2
  ·split at e2
   ·obtain⟨rfl,rfl⟩:=zac.mp e2;cases el
   ·cases e2
  ·cases e2
theorem znx{Γ:Calls}{n:Nat}{C:Cst}{X:Cx}{x:Str}(G:Good Γ n C X)(h:lclB C x=true):X.env.scope.names.lookup x=some .local:=by
 unfold lclB at h;rw[G.names]
 split at h
 ·assumption
 ·cases h
end IT
namespace IT
open PySem PySem.Spec L2
section
variable {Γ:Calls}{n:Nat}{C:Cst}{X:Cx}
theorem zfS(G:Good Γ n C X)(sc:Scope):(relabel sc X.env).names=relN C.names sc.names:=by
 unfold relabel relN;show sc.names.map _=sc.names.map _;refine Wz λp _=>?_;obtain⟨m,k⟩:=p
 have e1:X.env.kindOf m=C.names.lookup m:=by show X.env.scope.names.lookup m=_;rw[G.names]
 simp only[G.kind,e1];have e2:(ScopeKind.function==ScopeKind.function)=true:=rfl;rw[e2,Xk]
theorem Good.blk(G:Good Γ n C X){os:List Nat}(h:zkI C sc (blkC C sc own) os=true)(cl:List (Str×Addr))(pins:List (Addr×Obj))(s₂:Shared)(H₂:Hp)(Cc:Addr)(fp:List Addr):
  Good Γ n (blkC C sc own) (blk X (blkC C sc own).N s₂ H₂ (YY sc cl Cc X.env) fp pins):=by
 unfold zkI at h;simp only[Z9] at h;obtain⟨⟨⟨⟨⟨⟨hk,_⟩,_⟩,_⟩,_⟩,_⟩,hnd⟩:=h
 refine⟨G.nox,G.calm,G.room,G.room1,?_,rfl,of_decide_eq_true hnd,zfS G sc,λz=>absurd z (by show ¬(false=true);decide),λf x e=>⟨(G.funs f x e).ex,(G.funs f x e).fill,(G.funs f x e).len⟩,G.blt,G.glob,λz=>absurd z (by show ¬(false=true);decide),let ⟨cv,Ex⟩:=G.excs;⟨cv,λc x e=>(by cases (show([]:List zdO)[c]?=some x from e)),λf p e=>⟨(Ex.funs f p e).ex,(Ex.funs f p e).fill,(Ex.funs f p e).len,(Ex.funs f p e).cls⟩⟩⟩
 show(relabel sc X.env).kind=_
 have:sc.kind=.function:=by cases e:sc.kind<;>rw[e] at hk<;>first | rfl | (exact absurd hk (by decide))
 exact this
theorem zoc(G:Good Γ n C X){os:List Nat}(h:zkI C sc (blkC C sc own) os=true):zit X sc (blkC C sc own).N os:=by
 unfold zkI at h;simp only[Z9] at h;obtain⟨⟨⟨⟨⟨⟨hk,hc⟩,hn⟩,hf⟩,hs⟩,hl⟩,hnd⟩:=h
 have ke:∀m,X.env.kindOf m=C.names.lookup m:=λm=>by show X.env.scope.names.lookup m=_;rw[G.names]
 refine⟨?_,?_,?_,?_,?_,?_⟩
 ·cases e:sc.kind<;>rw[e] at hk<;>first | rfl | (exact absurd hk (by decide))
 ·intro y hy z
  have:=Zl.mp hc y hy
  rw[z] at this;exact absurd this (by decide)
 ·intro x hx z
  have:=Zl.mp hn x hx
  rw[z] at this
  have e2:(X0.local != X0.local)=false:=by decide
  rw[e2,WL] at this;exact ZP this
 ·intro x hx z
  have:=Zl.mp hf x hx
  rw[z] at this
  have e2:(WM != WM)=false:=by decide
  rw[e2,WL,Za] at this;rw[ke]
  rcases this with q | q
  ·exact .inl (ZP q)
  ·exact .inr (ZP q)
 ·intro i x e v
  have hi:i<(blkC C sc own).N.length:=(Z3.mp e).1
  have:=Zl.mp hs i (by simpa using hi)
  rw[e] at this;simp only[zrw] at this;unfold Vis at v;rw[zfS G sc] at v⊢;have en:(blkC C sc own).names=relN C.names sc.names:=rfl;rw[en] at this;rw[G.N,ke]
  rcases v with v | v | v
  ·rw [v] at this
   exact .inl (by simpa using this)
  ·rw [v] at this
   simp only[Za,Z9] at this
   rcases this with q|⟨q,q2⟩
   ·exact .inl (by simpa using q)
   ·refine .inr ⟨ZP q,?_,by rw[v];decide⟩
    rcases q2 with q2 | q2
    ·exact .inl (ZP q2)
    ·exact .inr (ZP q2)
  ·rw [v] at this
   simp only[Za,Z9] at this
   rcases this with q|⟨q,q2⟩
   ·exact .inl (by simpa using q)
   ·refine .inr ⟨ZP q,?_,by rw[v];decide⟩
    rcases q2 with q2 | q2
    ·exact .inl (ZP q2)
    ·exact .inr (ZP q2)
 ·rw [G.N]
  exact ZP hl
end
def zbN(Γ:Calls)(X:Cx)(tg:Tg)(it:I)(cs:List T)(el:E)(e:Expr):Prop:=
 ∃ elt gt gi gifs sc pos N',e=.ListComp elt [⟨gt,gi,gifs,0⟩] sc pos/\zit X sc N' tg.slots/\PI X gt gi (tI X.K (evI Γ it)) ∧
  (∀cl pins s₂ H₂ C fp,PG (blk X N' s₂ H₂ (YY sc cl C X.env) fp pins) gt (tGI X.K tg)/\PTs (blk X N' s₂ H₂ (YY sc cl C X.env) fp pins) gifs (tTv X.K (tvs Γ cs))/\PE (blk X N' s₂ H₂ (YY sc cl C X.env) fp pins) elt (tE X.K (ev Γ el))) ∧
  ∀x,Yt gi X.env x=pure x
theorem zbN.read(q:tLs K (evL Γ (.comp tg it cs el)) σ H Q):zhn (tI K (evI Γ it)) tg.slots (tGI K tg) (tTv K (tvs Γ cs)) (tE K (ev Γ el)) σ H Q:=by
 have e:evL Γ (.comp tg it cs el)=λσ=>bnd (evI Γ it σ) λw=>za1 w.l (zpO tg (tvs Γ cs) (ev Γ el) σ) w.xs:=by
  funext σ
  rfl
 rw[e] at q;exact zkq (λσ h w h' e=>ze9 e) q
theorem zbN.il(hx:X.xe=λ_ _=>False)(hc:X.calm=true)(h:zbN Γ X tg it cs el e):IL X e (evL Γ (.comp tg it cs el)):=by obtain⟨elt,gt,gi,gifs,sc,pos,N',rfl,ok,hi,hB,hs⟩:=h;exact PE.imp (znX hx hc ok hi hB hs) λσ H Q q=>zbN.read q
theorem zbN.readO{X:Cx}(q0:tE X.K (ev Γ (.lstO tg it cs el)) σ H Q):zhn (tI X.K (evI Γ it)) tg.slots (tGI X.K tg) (tTv X.K (tvs Γ cs)) (tE X.K (ev Γ el)) σ H Q:=by refine zd9 (zrT X.K) (λσ h w h' e=>ze9 e) ?_;obtain⟨μ,h,env,R0,re,r,h',e,k⟩:=q0;replace e:(bnd (evI Γ it env) λw=>bnd (za1 w.l (λx=>bnd (zan tg x (clr tg.slots env)) λσ'=>bnd (tvs Γ cs σ') λt=>if t then bnd (ev Γ el σ') λr=>bnd (zcE r) λd=>IT.ok (some d) else IT.ok none) w.xs) λls=>allocO ls) h=some (r,h'):=e;simp only[zab,allocO,Z6,ZS] at e;obtain⟨w,h1,e1,ls,h2,e2,rfl,rfl⟩:=e;refine⟨μ,h,env,R0,re,ls,h2,zab.mpr ⟨w,h1,e1,e2⟩,λμ1 H1 a vs s1 R1 z ha=>?_⟩;have st:Stp μ1 h2 H1 (μ1++[a]) (h2++[.ols ls]) (upd H1 a (.lst vs)):=Stp.allocO R1 ha;refine k (μ1++[a]) _ (.ref a) (s1.trans st) (R1.allocO ha ⟨vs,zai,L2.Paired.mapP z λl v ⟨b,eb,ev⟩=>⟨b,st.pre l b eb,ev⟩⟩) ⟨a,?_,rfl⟩;rw[<-R1.len];simp
theorem tE.post(q:tE K f σ H Q)(i:∀v H,Q v H->Q' v H):tE K f σ H Q':=by obtain⟨μ,h,env,R0,re,r,h',e,k⟩:=q;exact⟨μ,h,env,R0,re,r,h',e,λμ' H' v s1 R1 q1=>i _ _ (k μ' H' v s1 R1 q1)⟩
theorem zlI{m:Bool}(q:tE K (λσ=>bnd (fl σ) λxs=>if m then alloc xs else ok (.d (.lst xs))) σ H Q):tLs K fl σ H Q:=by
 obtain⟨μ,h,env,R0,re,r,h',e,k⟩:=q;simp only[zab] at e;obtain⟨xs,h1,e1,e2⟩:=e;refine⟨μ,h,env,R0,re,xs,h1,e1,λμ1 H1 a vs s1 R1 q1 ha=>?_⟩
 cases m with
 |true=>simp only[if_true,alloc,Z6,ZS] at e2;obtain⟨rfl,rfl⟩:=e2;refine k (μ1++[a]) _ (.ref a) (s1.trans (Stp.alloc R1 ha)) (R1.alloc ha q1) ⟨a,?_,rfl⟩;rw[<-R1.len];simp
 |false=>
  simp only[ZM,if_false] at e2;obtain⟨rfl,rfl⟩:=zac.mp e2;have s2:Stp μ1 h1 H1 μ1 h1 (upd H1 a (.lst vs)):=Stp.fresh ha;refine k μ1 _ (.ref a) (s1.trans s2) (R1.fresh ha) ?_;simp only[RepR,RepD];refine⟨a,vs,rfl,.inl ⟨λl=>?_,.inl zai⟩,RepDs.stp s2 R1 q1⟩;obtain⟨ws,z,_⟩:=R1.liveAt l
  rw[ha] at z;cases z
theorem tLs.imp(q:tLs K fl σ H Q)(i:∀v H,Q v H->Q' v H):tLs K fl σ H Q':=by obtain⟨μ,h,env,R0,re,xs,h',e,k⟩:=q;exact⟨μ,h,env,R0,re,xs,h',e,λμ' H' a vs s1 R1 q1 ha=>i _ _ (k μ' H' a vs s1 R1 q1 ha)⟩
theorem zel(q:tG K (.name i) v σ H Q):zjv i v σ H Q:=by obtain⟨μ,h,env,r,env',R0,re,qr,e,k⟩:=q;simp only[zaF,zac] at e;obtain⟨rfl,_⟩:=e;exact k _ (re.set i qr)
theorem zhF{D:Ends}(q:tS K (λσ=>bnd (f σ) λr=>bnd (zaF t r σ) λσ'=>ok (.nx,σ')) D σ H):tE K f σ H λx H1=>tG K t x σ H1 D.nx:=by
 obtain⟨μ,h,env,R0,re,fl,env',h',e,k⟩:=q;simp only[zab,zac,ZS] at e;obtain⟨r,h1,e1,env1,h2,e2,⟨rfl,rfl⟩,rfl⟩:=e
 have:=zaQ _ _ _ _ _ _ e2
 subst this;exact⟨μ,h,env,R0,re,r,_,e1,λμ1 H1 v s1 R1 q1=>⟨μ1,_,env,r,env1,R1,re.stp s1 R0,q1,e2,λσ' re'=>k μ1 H1 σ' s1 R1 re'⟩⟩
def znk:Expr->Bool|.BoolOp _ _ _=>true|_=>false
theorem zr2(G:Good Γ n C X)(ho:biOn b=true)(hx:x=biS b)(hg:Gl X x)(ha:IA X (e::es) fs)
  (he:ZT (e::es) X.env=(false,eval e X.env)::ZT es X.env) (hpl:(backTo pos (ZT es X.env)).any (·.1)=false):IE X (.Call (.Name x p) (e::es) [] pos) (λσ=>bnd (fs σ) λrs=>bnd (rds rs) λds=>bnd (opt (biD b ds)) λz=>ok (.d z)):=by
 subst hx
 cases b with
 |len=>exact PE.imp (zaY zk1 hg (G.blt _ (by decide)) PySem.boot_len ha (by decide) (by decide) he hpl) λσ H Q q=>zdb q
 |sum=>exact PE.imp (zaY (zlb G.calm) hg (G.blt _ (by decide)) PyProof.Rows.boot_sum ha (by decide) (by decide) he hpl) λσ H Q q=>zdb q
 |tuple=>exact PE.imp (zc7 zhq hg (G.blt _ (by decide)) PyProof.Rows.boot_tuple ha (by decide) (by decide) he hpl) λσ H Q q=>zdb q
 |all=>exact PE.imp (zaY (zda G.calm true) hg (G.blt _ (by decide)) PyProof.Rows.boot_all ha (by decide) (by decide) he hpl) λσ H Q q=>zdb q
 |any=>exact PE.imp (zaY (zda G.calm false) hg (G.blt _ (by decide)) PyProof.Rows.boot_any ha (by decide) (by decide) he hpl) λσ H Q q=>zdb q
 |max=>exact noT ho|min=>exact noT ho|int=>exact noT ho|str=>exact noT ho
theorem zrJ{neg:Bool}{op:CmpOp}(h:inB neg op=true):op=if neg then .NotIn else .In:=by cases neg<;>cases op<;>first | rfl | exact noT h
theorem ziG{a:E}{C:Cst}{e:Expr}(h:chkT (.val a) C e=true):chkE a C e=true:=by change (_&&_)=true at h;rw[Z9] at h;exact h.1
theorem zfQ{Γ:Calls}{a:E}{C:Cst}{e:Expr}{X:Cx}(k:IE X e (ev Γ a))(h:chkT (.val a) C e=true)(hn:∀l ops rs pos,e≠.Compare l ops rs pos):IT' X e (tv Γ (.val a))/\(znk e=true->PW X e (tTv X.K (tv Γ (.val a)))):=by
 change (_&&(_||_))=true at h;rw[Z9,Za] at h
 have hp:zdE e=true:=by
  rcases h.2 with z | z
  ·exact z
  ·cases e<;>first | (exact noT z) | exact absurd rfl (hn _ _ _ _)
 refine⟨zq9 k (ziE hp),λz=>?_⟩
 cases e<;>first | (exact noT z) | (first | exact noT hp | exact noF hp)
theorem zin{vs:List Expr}{env:Yz}{cpos:Pos}(st:∀y∈vs,zaj y=true)(hl:vs.length<20):((backTo cpos (ZT vs env)).all (λx=>!x.1)&&(Xl cpos (Ym [] env)).all (λx=>x.1.isSome)&&decide (vs.length+([]:List Yq).length+(if([]:List Yq).isEmpty then 0 else 1)<30))=true:=by rw[zhO st];simp only[Xc,List.isEmpty_nil,if_true,Yl,Z9];exact⟨rfl,decide_eq_true (by omega)⟩
mutual
theorem okE{Γ:Calls}{n:Nat}:∀(a:E) (C:Cst) (e:Expr) (X:Cx),chkE a C e=true->Good Γ n C X->IE X e (ev Γ a)
 |.con d,C,e,X,h,G=>by replace h:=ofCo h;obtain⟨c,k,pos,h⟩:=h;exact znr (d:=d) h
 |.var i,C,e,X,h,G=>by
  replace h:=ofNm h;obtain⟨x,pos,h⟩:=h;simp only[Z9] at h;obtain⟨h1,h2⟩:=zaT h.2
  exact zqZ (zc5 (by rw[G.N];exact ZP h.1.1) (zno G h.1.2) h1 h2)
 |.bin o a b,C,e,X,h,G=>by replace h:=ofBi h;obtain⟨l,op,r,pos,h⟩:=h;simp only[Z9] at h;exact zqS (m:=mD (bop o)) (OpD.opI (opB h.1.1)) (okE a C l X h.1.2 G) (okE b C r X h.2 G)|.neg a,C,e,X,h,G=>by replace h:=ofUn h;obtain⟨z2,x,_,h⟩:=h;replace h:=ofUS h;obtain⟨h⟩:=h;exact zrf (okE a C _ X h G)|.cmp o a b,C,e,X,h,G=>by replace h:=ofCm h;obtain⟨l,z2,z4,_,h⟩:=h;replace h:=zaR h;obtain⟨op,h⟩:=h;replace h:=zaR h;obtain⟨r,h⟩:=h;simp only[Z9,ZJ] at h;exact zjr (m:=mD (cop o)) (OpD.opI (coBe G.room.units h.1.1.1)) (okE a C _ X h.1.1.2 G) (okE b C _ X h.1.2 G) (zfo h.2)
 |.and a b,C,e,X,h,G=>by
  replace h:=ofBo h;obtain⟨z2,z3,pos,h⟩:=h;replace h:=ofAn h;obtain⟨h⟩:=h;replace h:=zaS h;obtain⟨v,z4,h⟩:=h;replace h:=zaS h;obtain⟨w,rest,h⟩:=h;simp only[Z9] at h
  cases rest with|nil=>exact zm5 (okE a C v X h.1 G) (zia (okE b C w X h.2 G))|cons y ys=>exact zm5 (okE a C v X h.1 G) (okE b C _ X h.2 G)
 |.or a b,C,e,X,h,G=>by
  replace h:=ofBo h;obtain⟨z2,z3,pos,h⟩:=h;replace h:=ofOr h;obtain⟨h⟩:=h;replace h:=zaS h;obtain⟨v,z4,h⟩:=h;replace h:=zaS h;obtain⟨w,rest,h⟩:=h;simp only[Z9] at h
  cases rest with|nil=>exact zqH (okE a C v X h.1 G) (zia (okE b C w X h.2 G))|cons y ys=>exact zqH (okE a C v X h.1 G) (okE b C _ X h.2 G)
 |.not a,C,e,X,h,G=>by replace h:=ofUn h;obtain⟨z2,x,_,h⟩:=h;replace h:=ofNo h;obtain⟨h⟩:=h;exact zp1 (okE a C _ X h G)|.ife c a b,C,e,X,h,G=>by replace h:=ofIf h;obtain⟨t,x,y,_,h⟩:=h;simp only[Z9] at h;exact zqt (okT c C _ X h.1.1 G).1 (okE a C _ X h.1.2 G) (okE b C _ X h.2 G)
 |.tup es,C,e,X,h,G=>by
  replace h:=ofTu h;obtain⟨xs,_,_,h⟩:=h;simp only[Z9] at h
  exact zrP (okEs es C _ X h.1 G) (of_decide_eq_true h.2) (λσ h0 rs h' e=>by rw[zcv e];exact zaO h.1)
 |.lst m l,C,e,X,h,G=>by
  cases l with|disp es=>exact zga m (okL (.disp es) C e X h G)|comp tg it cs el=>exact zga m (zbN.il G.nox G.calm (okL (.comp tg it cs el) C e X h G))|of a=>exact zga m (okL (.of a) C e X h G)|cat a b=>exact zga m (okL (.cat a b) C e X h G)|spl a b=>exact zga m (okL (.spl a b) C e X h G)
 |.idx a i,C,e,X,h,G=>by replace h:=ofSu h;obtain⟨x,y,_,h⟩:=h;simp only[Z9,ZJ] at h;exact zpY (okE a C _ X h.1.1 G) (okE i C _ X h.1.2 G) (zlD h.2)
 | .sli a lo hi,C,e,X,h,G=>by
  replace h:=ofSu h;obtain⟨x,z2,pos,h⟩:=h;replace h:=ofSl h;obtain⟨l,u,z3,p2,h⟩:=h;replace h:=znB h;obtain⟨h⟩:=h;simp only[Z9] at h
  have non:∀{z:E},zc3 z=true->PO X none (tO X.K (ev Γ z)):=by
   intro z hz;unfold zc3 at hz
   split at hz
   ·exact zoT
   ·cases hz
  have hl:PO X l (tO X.K (ev Γ lo)):=by
   cases l with|none=>exact non h.1.2|some y=>exact zje (okE lo C y X h.1.2 G)
  have hu:PO X u (tO X.K (ev Γ hi)):=by
   cases u with|none=>exact non h.2|some y=>exact zje (okE hi C y X h.2 G)
  exact zqd (okE a C x X h.1.1 G) hl hu
 | .call f es,C,e,X,h,G=>by
  replace h:=ofCN h;obtain⟨x,p,z3,pos,h⟩:=h;replace h:=zaS h;obtain⟨v,vs,h⟩:=h;simp only[Z9] at h;have st:=zaB h.2
  cases hp:C.fns[f]? with
  |none=>rw[hp] at h;simp at h
  |some q=>
   rw[hp] at h;have hx:=ZP h.1.1.1;subst hx
   exact zi9 (G.funs f q hp) G.room (zci G h.1.1.2) (okEs es C _ X h.2 G) (λσ h0 rs h' e=>by rw[zcv e];exact zaO h.2) (zaT h.1.2).1 (zal (st v (by simp))) (zaU λy hy=>st y (by simp[hy]))
 |.bi b es,C,e,X,h,G=>by replace h:=ofCN h;obtain⟨x,p,z3,pos,h⟩:=h;replace h:=zaS h;obtain⟨v,vs,h⟩:=h;simp only[Z9] at h;have st:=zaB h.2;exact zr2 G h.1.1.1 (ZP h.1.1.2) (zci G h.1.2) (okEs es C _ X h.2 G) (zal (st v (by simp))) (zaU λy hy=>st y (by simp[hy]))
 | .me m o es,C,e,X,h,G=>by
  replace h:=ofCA h;obtain⟨ov,name,apos,vs,cpos,h⟩:=h
  cases vs with
  |cons v vs=>
   simp only[Z9] at h;obtain⟨⟨⟨⟨⟨⟨h0,h1⟩,h2⟩,h3⟩,h4⟩,h5⟩,h6⟩:=h;have st:=zaB h4;have h7:(v::vs).length<20:=of_decide_eq_true h6;have few:=zin (env:=X.env) (cpos:=cpos) st (by assumption)
   cases m with|append=>exact zjV (okE o C ov X h3 G) (okEs es C _ X h4 G) (ZP h1) (zgs h2) few h5 (zal (st v (by simp))) (zaU λy hy=>st y (by simp[hy]))|extend=>exact zjH (okE o C ov X h3 G) (okEs es C _ X h4 G) (ZP h1) (zgs h2) few h5 (zal (st v (by simp))) (zaU λy hy=>st y (by simp[hy]))
  | nil=>
   simp only[Z9] at h;obtain⟨⟨⟨⟨⟨h0,h1⟩,h2⟩,h3⟩,h4⟩,h5⟩:=h
   cases es with
   |cons _ _=>exact noT h4
   |nil=>
    cases m with|append=>exact noT h0.1|extend=>exact noT h0.1
 | .glo d,C,e,X,h,G=>by
  replace h:=ofNm h;obtain⟨x,pos,h⟩:=h;simp only[Z9] at h;obtain⟨⟨h1,h2⟩,h3⟩:=h
  cases hd:C.globs.lookup x with|none=>rw[hd] at h1;cases h1|some d'=>rw[hd] at h1;have e:=D.same_eq _ _ h1;subst e;obtain⟨u,v,e1,e2,e3⟩:=G.glob x d hd;exact zfC (zjO (zci G h2) e1 e2 (zaT h3).1) e3
 |.lset a,C,e,X,h,G=>by replace h:=ofCN h;obtain⟨x,_,z3,_,h⟩:=h;replace h:=zaR h;obtain⟨z4,h⟩:=h;replace h:=ofCN h;obtain⟨y,_,z6,_,h⟩:=h;replace h:=zaR h;obtain⟨v,h⟩:=h;simp only[Z9] at h;obtain⟨⟨⟨⟨⟨h1,h2⟩,h3⟩,h4⟩,h5⟩,h6⟩:=h;have hx:=ZP h1;have hy:=ZP h3;subst hx hy;exact zpw G.calm (zci G h2) (G.blt _ (by decide)) (zci G h4) (G.blt _ (by decide)) (okE a C _ X h6 G) (zal h5) rfl
 |.isi t a,C,e,X,h,G=>by
  replace h:=ofCN h;obtain⟨x,p,z3,pos,h⟩:=h;replace h:=zaS h;obtain⟨v,z4,h⟩:=h;replace h:=zaR h;obtain⟨z5,h⟩:=h;replace h:=ofNm h;obtain⟨y,p2,h⟩:=h;simp only[Z9] at h;obtain⟨⟨⟨⟨⟨h1,h2⟩,h3⟩,h4⟩,h5⟩,h6⟩:=h;have hx:=ZP h1;subst hx;have hy:=ZP h5
  have hb:y∈zco:=by rw[hy];cases t<;>decide
  exact zpP (zci G h2) (G.blt _ (by decide)) (okE a C v X h4 G) hy (zci G h6) (G.blt _ hb) (by rw[zal h3];rfl)
 |.tm m o es,C,e,X,h,G=>by replace h:=ofCA h;obtain⟨ov,name,apos,z3,cpos,h⟩:=h;replace h:=zaS h;obtain⟨v,vs,h⟩:=h;simp only[Z9] at h;obtain⟨⟨⟨⟨⟨h1,h2⟩,h3⟩,h4⟩,h5⟩,h6⟩:=h;have st:=zaB h4;have hl:(v::vs).length<20:=of_decide_eq_true h6;have few:=zin (env:=X.env) (cpos:=cpos) st (by assumption);exact zrZ (okE o C ov X h3 G) (okEs es C _ X h4 G) (ZP h1) (zgZ h2) few h5 (zal (st v (by simp))) (zaU λy hy=>st y (by simp[hy]))
 |.lm m o a,C,e,X,h,G=>by
  replace h:=ofCA h;obtain⟨ov,name,apos,z3,cpos,h⟩:=h;replace h:=zaR h;obtain⟨v,h⟩:=h;simp only[Z9] at h;obtain⟨⟨⟨⟨⟨h1,h2⟩,h3⟩,h4⟩,h5⟩,h6⟩:=h
  have st:∀y∈[v],zaj y=true:=by intro y hy;simp at hy;rw[hy];exact h4
  have few:=zin (env:=X.env) (cpos:=cpos) st (by simp);cases m;exact zpZ G.room.units (okE o C ov X h3 G) (okE a C v X h5 G) (ZP h1) (zgZ h2) few h6 (zal h4) rfl
 |.lstO tg it cs el,C,e,X,h,G=>noT h|.dnew,C,e,X,h,G=>by replace h:=ofDi h;obtain⟨z2,z3,_,h⟩:=h;replace h:=zht h;obtain⟨h⟩:=h;replace h:=zht h;obtain⟨h⟩:=h;exact zpz|.din neg k d,C,e,X,h,G=>by replace h:=ofCm h;obtain⟨l,z2,z4,_,h⟩:=h;replace h:=zaR h;obtain⟨op,h⟩:=h;replace h:=zaR h;obtain⟨r,h⟩:=h;simp only[Z9,ZJ] at h;exact zqJ G.room.units (zrJ h.1.1.1) (okE k C _ X h.1.1.2 G) (okE d C _ X h.1.2 G) (zfo h.2)|.stuck,C,e,X,h,G=>zl3
theorem okEs{Γ:Calls}{n:Nat}:∀(as:List E) (C:Cst) (es:List Expr) (X:Cx),chkEs as C es=true->Good Γ n C X->IA X es (evs Γ as)
 | [],C,es,X,h,G=>by
  cases es with|nil=>exact zrF|cons _ _=>exact noT h
 | a::as,C,es,X,h,G=>by
  cases es with|nil=>exact noT h|cons e es=>change ((zaj _&&chkE _ _ _)&&chkEs _ _ _)=true at h;simp only[Z9] at h;exact zn3 (okE a C e X h.1.2 G) (okEs as C es X h.2 G) (zal h.1.1)
theorem okT{Γ:Calls}{n:Nat}:∀(t:T) (C:Cst) (e:Expr) (X:Cx),chkT t C e=true->Good Γ n C X->IT' X e (tv Γ t)/\(znk e=true->PW X e (tTv X.K (tv Γ t)))
 | .val q,C,e,X,h,G=>by
  cases q with
  |cmp o a b=>replace h:=ziG h;replace h:=ofCm h;obtain⟨l,z2,z4,_,h⟩:=h;replace h:=zaR h;obtain⟨op,h⟩:=h;replace h:=zaR h;obtain⟨r,h⟩:=h;simp only[Z9,ZJ] at h;exact⟨zlh (m:=mD (cop o)) (OpD.opI (coBe G.room.units h.1.1.1)) (okE a C _ X h.1.1.2 G) (okE b C _ X h.1.2 G) (zfo h.2) (λx y h0 r h1 e=>zsf e),λz=>by first | exact noT z | exact noF z⟩|din neg k d=>replace h:=ziG h;replace h:=ofCm h;obtain⟨l,z2,z4,_,h⟩:=h;replace h:=zaR h;obtain⟨op,h⟩:=h;replace h:=zaR h;obtain⟨r,h⟩:=h;simp only[Z9,ZJ] at h;exact⟨zrr G.room.units (zrJ h.1.1.1) (okE k C _ X h.1.1.2 G) (okE d C _ X h.1.2 G) (zfo h.2),λz=>by first | exact noT z | exact noF z⟩
  | stuck=>
   refine⟨λpins s σ H Q I q=>?_,λ_ whole pins s σ H Q I q=>?_⟩
   ·obtain ⟨μ,h,env,R0,re,t,h',e,k⟩:=q
    cases e
   ·obtain ⟨μ,h,env,R0,re,t,h',e,k⟩:=q
    cases e
  |lst m l=>exact zfQ (okE (.lst m l) C e X (ziG h) G) h (by intro _ ops rs pos z;subst z;cases l<;>exact noT (ziG h))|_=>exact zfQ (okE _ C e X (ziG h) G) h (by intro l ops rs pos z;subst z;exact noT (ziG h))
 | .and a b,C,e,X,h,G=>by
  replace h:=ofBo h;obtain⟨z2,z3,pos,h⟩:=h;replace h:=ofAn h;obtain⟨h⟩:=h;replace h:=zaS h;obtain⟨v,z4,h⟩:=h;replace h:=zaS h;obtain⟨w,rest,h⟩:=h;simp only[Z9] at h
  have key:PW X (.BoolOp .And (v::w::rest) pos) (tTv X.K (tv Γ (.and a b))):=by
   cases rest with|nil=>exact zne (tb:=λ_ _ _=>True) (okT a C v X h.1 G).1 (zoM (okT b C w X h.2 G).1)|cons y ys=>exact zne (tb:=λ_ _ _=>True) (okT a C v X h.1 G).1 ((okT b C _ X h.2 G).2 rfl)
  exact⟨key.pt,λ_=>key⟩
 | .or a b,C,e,X,h,G=>by
  replace h:=ofBo h;obtain⟨z2,z3,pos,h⟩:=h;replace h:=ofOr h;obtain⟨h⟩:=h;replace h:=zaS h;obtain⟨v,z4,h⟩:=h;replace h:=zaS h;obtain⟨w,rest,h⟩:=h;simp only[Z9] at h
  have key:PW X (.BoolOp .Or (v::w::rest) pos) (tTv X.K (tv Γ (.or a b))):=by
   cases rest with|nil=>exact zqm (okT a C v X h.1 G).1 (zm2 (okT b C w X h.2 G).1)|cons y ys=>exact zqm (okT a C v X h.1 G).1 ((okT b C _ X h.2 G).2 rfl)
  exact⟨key.pt,λ_=>key⟩
 |.not a,C,e,X,h,G=>by replace h:=ofUn h;obtain⟨z2,x,_,h⟩:=h;replace h:=ofNo h;obtain⟨h⟩:=h;exact⟨zpN (okT a C _ X h G).1,λz=>by first | exact noT z | exact noF z⟩
theorem okTs{Γ:Calls}{n:Nat}:∀(ts:List T) (C:Cst) (es:List Expr) (X:Cx),zmj ts C es=true->Good Γ n C X->PTs X es (tTv X.K (tvs Γ ts))
 | [],C,es,X,h,G=>by
  cases es with|nil=>intro pins s σ H Q I ⟨μ,h0,env,R0,re,t,h',e,k⟩;simp only[tvs,zac] at e;obtain⟨rfl,rfl⟩:=e;exact zoN pins s σ H Q I (k μ H true Stp.refl R0 rfl)|cons _ _=>exact noT h
 | t :: ts,C,es,X,h,G=>by
  cases es with
  |nil=>exact noT h
  | cons e es=>
   change ((chkT _ _ _&&zmj _ _ _)&&List.isEmpty _)=true at h;simp only[Z9] at h;obtain⟨⟨h1,h2⟩,h3⟩:=h
   cases es with
   |cons _ _=>simp at h3
   | nil=>
    cases ts with
    |cons _ _=>exact noT h2
    | nil=>
     intro pins s σ H Q I ⟨μ,h0,env,R0,re,t',h',e,k⟩;simp only[tvs,zab] at e;obtain⟨t1,h1',e1,e2⟩:=e;refine zoP (okT t C _ X h1 G).1 pins s σ H Q I ⟨μ,h0,env,R0,re,t1,h1',e1,λμ1 H1 b s1 R1 hb=>?_⟩;subst hb
     cases t1 with|true=>simp only[if_true,zac] at e2;obtain⟨rfl,rfl⟩:=e2;exact k μ1 H1 _ s1 R1 rfl|false=>simp only[ZM,if_false,zac] at e2;obtain⟨rfl,rfl⟩:=e2;exact k μ1 H1 _ s1 R1 rfl
theorem okL{Γ:Calls}{n:Nat}:∀(l:L) (C:Cst) (e:Expr) (X:Cx),chkL l C e=true->Good Γ n C X->match l with|.disp es=>IL X e (evL Γ (.disp es))|.comp tg it cs el=>zbN Γ X tg it cs el e|.of a=>IL X e (evL Γ (.of a))|.cat a b=>IL X e (evL Γ (.cat a b))|.spl a b=>IL X e (evL Γ (.spl a b))
 |.disp es,C,e,X,h,G=>by
  replace h:=ofLi h;obtain⟨xs,_,h⟩:=h;simp only[Z9] at h
  exact zn6 (okEs es C _ X h.1 G) (of_decide_eq_true h.2) (λσ h0 rs h' e=>by rw[zcv e];exact zaO h.1)
 |.comp tg it cs el,C,e,X,h,G=>by
  replace h:=ofLC h;obtain⟨elt,z2,sc,pos,h⟩:=h;replace h:=zaR h;obtain⟨g,h⟩:=h;obtain⟨gt,gi,gifs,ga⟩:=g;simp only[Z9,ZJ] at h;obtain⟨⟨⟨⟨⟨⟨h1,h2⟩,h3⟩,h4,h4'⟩,h5⟩,h6⟩,h7⟩:=h
  have ea:ga=0:=by simpa using h1
  subst ea;refine⟨elt,gt,gi,gifs,sc,pos,(blkC C sc (zcG tg gt)).N,rfl,zoc G h3,okI it C gi X h5 G gt h4',λcl pins s₂ H₂ Cc fp=>?_,zgY h2⟩;have G':=G.blk h3 cl pins s₂ H₂ Cc fp;exact⟨zpc G' tg gt h4,okTs cs _ gifs _ h6 G',okE el _ elt _ h7 G'⟩
 |.of a,C,e,X,h,G=>by replace h:=ofCN h;obtain⟨x,_,z3,_,h⟩:=h;replace h:=zaR h;obtain⟨v,h⟩:=h;simp only[Z9] at h;obtain⟨⟨⟨h1,h2⟩,h3⟩,h4⟩:=h;have hx:=ZP h1;subst hx;exact zsD G.calm (zci G h2) (G.blt _ (by decide)) (okE a C _ X h4 G) (zal h3)
 |.spl a b,C,e,X,h,G=>by
  replace h:=ofCA h;obtain⟨ov,name,apos,z3,cpos,h⟩:=h;replace h:=zaR h;obtain⟨v,h⟩:=h;simp only[Z9] at h;obtain⟨⟨⟨⟨⟨h1,h2⟩,h3⟩,h4⟩,h5⟩,h6⟩:=h
  have st:∀y∈[v],zaj y=true:=by intro y hy;simp at hy;rw[hy];exact h4
  have few:=zin (env:=X.env) (cpos:=cpos) st (by simp);exact zq1 (okE a C ov X h3 G) (okE b C v X h5 G) (ZP h1) (zgZ h2) few h6 (zal h4) rfl
 |.cat a b,C,e,X,h,G=>by replace h:=ofBi h;obtain⟨l,z2,r,_,h⟩:=h;replace h:=ofAd h;obtain⟨h⟩:=h;simp only[Z9] at h;exact zqw (okE a C _ X h.1 G) (okE b C _ X h.2 G)
theorem okI{Γ:Calls}{n:Nat}:∀(it:I) (C:Cst) (e:Expr) (X:Cx),chkI it C e=true->Good Γ n C X->∀tg,enuB it tg=true->PI X tg e (tI X.K (evI Γ it))
 |.seq a,C,e,X,h,G,tg,_=>zqs (okE a C e X h G)
 | .enk k0 a,C,e,X,h,G,tg,ht=>by
  replace h:=zkT h;obtain⟨f,vs,ks,p,h⟩:=h;replace h:=ofNm h;obtain⟨x,q,h⟩:=h;replace h:=zaR h;obtain⟨v,h⟩:=h;replace h:=zaR h;obtain⟨w,h⟩:=h;obtain⟨o,c,kp⟩:=w;replace h:=zhJ h;obtain⟨y,h⟩:=h;replace h:=ofCo h;obtain⟨ci,_,_,h⟩:=h
  cases ci with
  |int i=>
   change (_&&_)=true at h;simp only[Z9] at h;obtain⟨⟨⟨⟨⟨⟨h1,h2⟩,h3⟩,h4⟩,h5⟩,h6⟩,h7⟩:=h;have hx:=ZP h1;have hy:=ZP h2;have hz:=ZP h3;subst hx hy hz
   cases tg with
   |Tuple es k tp=>exact zq2 (of_decide_eq_true h4) (zci G h5) (G.blt _ (by decide)) (okE a C _ X h7 G) (zal h6)
   |_=>first | exact noT ht | exact noF ht
  |_=>exact noT h
 |.rng a,C,e,X,h,G,tg,_=>by replace h:=ofCN h;obtain⟨x,p,z3,pos,h⟩:=h;replace h:=zaR h;obtain⟨v,h⟩:=h;simp only[Z9] at h;have hx:=ZP h.1.1.1;subst hx;exact zqj (zci G h.1.1.2) (G.blt _ (by decide)) (okE a C v X h.2 G) (zal h.1.2)
end
theorem okO{Γ:Calls}{n:Nat}{tg:Tg}{it:I}{cs:List T}{el:E}{C:Cst}{e:Expr}{X:Cx}(h:chkE (.lstO tg it cs el) C e=true)(G:Good Γ n C X):zbN Γ X tg it cs el e:=noT h
theorem zlr{C:Cst}{a:E}{x1:Expr}{x2:_}{x3:_}{x4:_}(h:chkE a C (.SetComp x1 x2 x3 x4)=true):a=.stuck:=by
 cases a with|stuck=>rfl|lst m l=>cases l<;>exact noT h|_=>exact noT h
theorem zl9{C:Cst}{a:E}{x0 x1:Expr}{x2:_}{x3:_}{x4:_}(h:chkE a C (.DictComp x0 x1 x2 x3 x4)=true):a=.stuck:=by
 cases a with|stuck=>rfl|lst m l=>cases l<;>exact noT h|_=>exact noT h
theorem zmh{C:Cst}{a:E}{x1:Expr}{x2:_}{x3:_}{x4:_}(h:chkE a C (.ListComp x1 x2 x3 x4)=true):a=.stuck\/(∃m tg it cs el,a=.lst m (.comp tg it cs el))\/∃tg it cs el,a=.lstO tg it cs el:=by
 cases a with
 |stuck=>exact .inl rfl
 |lst m l=>
  cases l with|comp tg it cs el=>exact .inr (.inl ⟨m,tg,it,cs,el,rfl⟩)|_=>exact noT h
 |lstO tg it cs el=>exact .inr (.inr ⟨tg,it,cs,el,rfl⟩)|_=>exact noT h
theorem zl2{Γ:Calls}{n:Nat}{C:Cst}{X:Cx}(G:Good Γ n C X){tg:Tg}{a:E}{t v:Expr}{pos:Pos}(h1:zdP C tg t=true)(h3:chkE a C v=true)(h2:zaj t=true)(h4:(zb0 t&&zb0 v)=false)(hc:zck v=true)(hn:zgx t=true):
  PS X (.Assign [t] v pos) (tS X.K λσ=>bnd (ev Γ a σ) λr=>bnd (zaF tg r σ) λσ'=>ok (.nx,σ')):=by
 have g:=okTg G tg t h1
 cases t with
 | Name y py=>
  cases tg with
  |tup ts=>exact noT h1
  | name iy=>
   cases v with
   | ListComp elt gens sc cpos=>
    have hb:∃b,W7 (.ListComp elt gens sc cpos) (some (.Name y py)) pos.line X.env=pure b:=⟨_,rfl⟩;obtain⟨b,hb⟩:=hb
    cases b with
    |false=>exact zm3 (okE a C _ X h3 G) g hb (zbr h4) (zdg h2)
    | true=>
     rcases zmh h3 with rfl|⟨m,tg2,it,cs,el,rfl⟩|⟨tg2,it,cs,el,rfl⟩
     ·exact λpins s σ H D I ⟨μ,h,env,R0,re,fl,env',h',e,k⟩=>by cases e
     ·obtain ⟨elt',gt,gi,gifs,sc',pos',N',e,ok,hi,hB,hs⟩:=okL (Γ:=Γ) (n:=n) (.comp tg2 it cs el) C _ X h3 G
      cases e;change (_&&locB C _)=true at h1;simp only[Z9] at h1;obtain⟨l1,l2⟩:=zhU G h1.2
      refine PS.imp (zdm G.nox G.calm ok hi hB hs hb (zhg G.nd (by rw[G.N];exact ZP h1.1) l1 l2)) λD σ H q=>?_
      have q1:=zhF q;have q2:=zlI (fl:=evL Γ (.comp tg2 it cs el)) (m:=m) q1;exact zbN.read (q2.imp λv H1 z=>zel z)
     ·obtain ⟨elt',gt,gi,gifs,sc',pos',N',e,ok,hi,hB,hs⟩:=okO (Γ:=Γ) (n:=n) h3 G
      cases e;change (_&&locB C _)=true at h1;simp only[Z9] at h1;obtain⟨l1,l2⟩:=zhU G h1.2
      refine PS.imp (zdm G.nox G.calm ok hi hB hs hb (zhg G.nd (by rw[G.N];exact ZP h1.1) l1 l2)) λD σ H q=>?_
      exact zbN.readO ((zhF q).post λv H1 z=>zel z)
   |SetComp _ _ _ _=>
    obtain rfl:=zlr h3
    exact λpins s σ H D I ⟨μ,h,env,R0,re,fl,env',h',e,k⟩=>by cases e
   |DictComp _ _ _ _ _=>
    obtain rfl:=zl9 h3
    exact λpins s σ H D I ⟨μ,h,env,R0,re,fl,env',h',e,k⟩=>by cases e
   |_=>first | exact noT hc | exact noF hc
 |_=>first | exact noT hn | exact noF hn
mutual
theorem okS{Γ:Calls}{n:Nat}:∀(s:S) (C:Cst) (st:Stmt) (X:Cx),chkS s C st=true->Good Γ n C X->PS X st (tS X.K (ex Γ s))
 |.asg tg a,C,st,X,h,G=>by
  replace h:=ofAs h;obtain⟨z2,v,pos,h⟩:=h;replace h:=zaR h;obtain⟨t,h⟩:=h;simp only[Z9,ZJ,Za] at h;obtain⟨⟨⟨⟨h1,h2⟩,h3⟩,h4⟩,h5⟩:=h
  rcases h5 with h5 | h5
  ·exact zm3 (okE a C v X h3 G) (okTg G tg t h1) (ze2 h5) (zbr h4) (zdg h2)
  ·exact zl2 G h1 h3 h2 h4 h5.1 h5.2
 |.setI o i a,C,st,X,h,G=>by replace h:=ofAs h;obtain⟨z2,v,pos,h⟩:=h;replace h:=zaR h;obtain⟨z3,h⟩:=h;replace h:=ofSu h;obtain⟨ov,iv,p2,h⟩:=h;simp only[Z9,ZJ] at h;obtain⟨⟨⟨⟨h1,h2⟩,h3⟩,h4⟩,h5⟩:=h;exact znY (okE a C v X h1 G) (okE o C ov X h2 G) (okE i C iv X h3 G) (zjW h5) (ze2 h4) (zbr (by rfl)) (zdg rfl)|.exp a,C,st,X,h,G=>by replace h:=ofEx h;obtain⟨v,_,h⟩:=h;simp only[Z9,ZJ] at h;exact zro (okE a C _ X h.1 G) (zmu h.2)|.ife c a b,C,st,X,h,G=>by replace h:=zqL h;obtain⟨t,x,y,_,h⟩:=h;simp only[Z9] at h;exact zse (okT c C _ X h.1.1 G).1 (okSs a C _ X h.1.2 G) (okSs b C _ X h.2 G)
 |.for tg it body,C,st,X,h,G=>by
  replace h:=ofFo h;obtain⟨t,iter,b,z2,_,h⟩:=h;replace h:=zht h;obtain⟨h⟩:=h;simp only[Z9,ZJ] at h;obtain⟨⟨⟨⟨h1,h1'⟩,h2⟩,h3⟩,h4⟩:=h
  exact zrL (by rw[G.nox];exact V4.never) G.calm (okI it C _ X h2 G _ h1') (zpc G tg _ h1) (okSs body C _ X h3 G) (zgY h4) (λσ h w h' e=>ze9 e)
 |.ret a,C,st,X,h,G=>by replace h:=ofRe h;obtain⟨z2,_,h⟩:=h;replace h:=zhJ h;obtain⟨v,h⟩:=h;exact zmZ (okE a C _ X h G)|.brk,C,st,X,h,G=>noT h|.cnt,C,st,X,h,G=>noT h|.setD o i a,C,st,X,h,G=>by replace h:=ofAs h;obtain⟨z2,v,pos,h⟩:=h;replace h:=zaR h;obtain⟨z3,h⟩:=h;replace h:=ofSu h;obtain⟨ov,iv,p2,h⟩:=h;simp only[Z9,ZJ] at h;obtain⟨⟨⟨⟨h1,h2⟩,h3⟩,h4⟩,h5⟩:=h;exact zps G.room.units (okE a C v X h1 G) (okE o C ov X h2 G) (okE i C iv X h3 G) (zjW h5) (ze2 h4) (zbr (by rfl)) (zdg rfl)
 |.unp is a,C,st,X,h,G=>by
  replace h:=ofAs h;obtain⟨z2,v,pos,h⟩:=h;replace h:=zaR h;obtain⟨z3,h⟩:=h;replace h:=ofTu h;obtain⟨ts,k,tp,h⟩:=h;simp only[Z9,ZJ] at h;obtain⟨⟨⟨h1,h2⟩,h3⟩,h4⟩:=h;obtain⟨g1,g2⟩:=ze7 h1;obtain⟨g3,g4⟩:=zeL (env:=X.env) g1
  exact zrK G.calm (okE a C v X h2 G) (okTgs G _ _ h1) (by simpa using g2) g3 g4 (ze2 h3) (zbr (by rw[h4];rfl)) (zdg rfl)
 |.raiN c a,C,st,X,h,G=>zil|.tryb _ _ _ _ _,C,st,X,h,G=>noT h|.stuck,C,st,X,h,G=>zil
theorem okSs{Γ:Calls}{n:Nat}:∀(ss:List S) (C:Cst) (sts:List Stmt) (X:Cx),chkSs ss C sts=true->Good Γ n C X->PSs X sts (tS X.K (exs Γ ss))
 | [],C,sts,X,h,G=>by
  cases sts with|nil=>exact zks|cons _ _=>exact noT h
 | s::ss,C,sts,X,h,G=>by
  cases sts with|nil=>exact noT h|cons st sts=>change (chkS _ _ _&&chkSs _ _ _)=true at h;simp only[Z9] at h;exact zeM (okS s C st X h.1 G) (okSs ss C sts X h.2 G)
end
end IT
namespace IT
open PySem PySem.Spec L2
structure Thr(X:Cx)(cv:ClsV)(E:R->Hp->Prop):Prop where
 own:V4 (model X.prog X.w) X.A X.env X.xe
 pass:zfP (CXk X.prog X.w) X (wX cv E)
 madeN:∀pins σ H s e t dx C,Inv X pins σ H s->s.heap.get? e=some ⟨.ref C,some dx,.fields #[.ref t,.none,.none,.none,.bool false,.none],#[]⟩->H e=none->X.s₀.heap.get? e=none->wX cv E (.ref C) (some dx) H->X.xe (.ref e) s
 made:∀pins σ H s h' a C vs,Inv X pins σ H s->Wm s.heap h' a C vs->wX cv E C none H->X.xe (.ref a) {s with heap:=h'}
theorem xe_C{Γ:Calls}{n:Nat}{cv:ClsV}{E:R->Hp->Prop}{C:Cst}{X:Cx}(G:Good Γ n C X.nox)(Ex:Excs Γ n C X cv)(T:Thr X cv E){a:IT.E}{v:Expr}(h:chkE a C v=true):PE X v (λσ H _=>RX X.K (evC Γ a) E σ H):=by
 unfold evC
 split
 ·rename_i f es
  replace h:=ofCN h;obtain⟨x,p,z3,pos,h⟩:=h;replace h:=zaS h;obtain⟨v,vs,h⟩:=h;simp only[Z9] at h;have st:=zaB h.2
  cases hp:C.fns[f]? with
  |none=>rw[hp] at h;simp at h
  |some q=>
   rw[hp] at h;have hx:=ZP h.1.1.1;subst hx
   exact zn8 (X:=X) (E:=E) (p:=p) (pos:=pos) (Ex.funs f q hp) G.room (show Gl X _ from zci (X:=X.nox) G h.1.1.2) T.pass (zkg (okEs es C _ X.nox h.2 G)) (λσ h0 rs h' e=>by rw[zcv e];exact zaO h.2) (zaT h.1.2).1 (zal (st v (by simp))) (zaU λy hy=>st y (by simp[hy]))
 ·exact λpins s σ H Q I ⟨_,_,_,_,_,_,_,e,_⟩=>by cases e
theorem znJ{X:Cx}{x y z:Expr}{n:Nat}{pos:Pos}{f g m:IT.Env->M R}{E:R->Hp->Prop}(ha:IE X x f)(hb:IE X y g)(hc:PE X z (λσ H _=>RX X.K m E σ H))(s1:ZT [x,y,z] X.env=(false,eval x X.env)::ZT [y,z] X.env)(s2:ZT [y,z] X.env=(false,eval y X.env)::ZT [z] X.env)(s3:ZT [z] X.env=[(false,eval z X.env)]):
  PE X (.Tuple [x,y,z] n pos) (λσ H _=>RX X.K (λσ=>bnd (f σ) λ_=>bnd (g σ) λ_=>m σ) E σ H):=by
 refine PE.imp (znf (zat ha (zat hb (zat hc zaW s3) s2) s1)) λσ H Q q0=>?_;obtain⟨μ,h,env,R0,re,r,h',e,k⟩:=q0;simp only[zab] at e;obtain⟨a,h1,e1,b,h2,e2,e3⟩:=e;exact⟨μ,h,env,R0,re,a,h1,e1,λμ1 H1 v s1 R1 q1=>⟨μ1,h1,env,R1,re.stp s1 R0,b,h2,e2,λμ2 H2 u s2 R2 q2=>⟨μ2,h2,env,R2,(re.stp s1 R0).stp s2 R1,r,h',e3,λμ3 H3 s3 R3=>k μ3 H3 ((s1.trans s2).trans s3) R3⟩⟩⟩
theorem zog{Γ:Calls}{n:Nat}{cv:ClsV}{E:R->Hp->Prop}{es:List IT.E}{C:Cst}{X:Cx}{v:Expr}{rp:Pos}(h:chkE (.tup es) C v=true)(G:Good Γ n C X.nox)(Ex:Excs Γ n C X cv)(T:Thr X cv E):XS X E (.Return (some v) rp) (evX Γ (.tup es)):=by
 intro pins s σ H I q;obtain⟨μ,h0,env,R0,re,r,h',e,k⟩:=q;unfold evX at e;simp only at e
 split at e
 case h_2=>cases e
 rename_i a b c;replace h:=ofTu h;obtain⟨vs,_,_,h⟩:=h;simp only[Z9] at h;have h:=h.1;have st:=zaB h
 obtain ⟨x,y,z,rfl⟩:∃x y z,vs=[x,y,z]:=by
  have l:=zaO h
  match vs,l with| [x,y,z],_=>exact⟨x,y,z,rfl⟩
 change ((zaj x&&chkE a C x)&&((zaj y&&chkE b C y)&&((zaj z&&chkE c C z)&&chkEs [] C [])))=true at h;simp only[Z9] at h;exact zpM (zhX (znJ (PE.nox (okE a C _ X.nox h.1.2 G)) (PE.nox (okE b C _ X.nox h.2.1.2 G)) (xe_C G Ex T h.2.2.1.2) (zal h.1.1) (zal h.2.1.1) (zal h.2.2.1.1))) (λσ H q=>q) pins s σ H I ⟨μ,h0,env,R0,re,r,h',e,k⟩
mutual
theorem okX{Γ:Calls}{n:Nat}{cv:ClsV}{E:R->Hp->Prop}:∀(s:S) (C:Cst) (st:Stmt) (X:Cx),chkS s C st=true->Good Γ n C X.nox->Excs Γ n C X cv->Thr X cv E->XS X E st (exX Γ s)
 |.asg _ _,C,st,X,h,G,Ex,T=>zaL|.ife c a b,C,st,X,h,G,Ex,T=>by replace h:=zqL h;obtain⟨t,x,y,_,h⟩:=h;simp only[Z9] at h;exact zsC (PT.nox (okT c C _ X.nox h.1.1 G).1) (okXs a C _ X h.1.2 G Ex T) (okXs b C _ X h.2 G Ex T)|.for tg it body,C,st,X,h,G,Ex,T=>by replace h:=ofFo h;obtain⟨t,iter,b,z2,_,h⟩:=h;replace h:=zht h;obtain⟨h⟩:=h;simp only[Z9,ZJ] at h;obtain⟨⟨⟨⟨h1,h1'⟩,h2⟩,h3⟩,h4⟩:=h;exact zrQ T.own G.calm (zrH (okI it C _ X.nox h2 G _ h1')) (zrs (zpc G tg _ h1)) (PSs.nox (okSs body C _ X.nox h3 G)) (okXs body C _ X h3 G Ex T) (zgY h4) (λσ h w h' e=>ze9 e)|.setI _ _ _,C,st,X,h,G,Ex,T=>zaL|.exp _,C,st,X,h,G,Ex,T=>zaL
 | .ret a,C,st,X,h,G,Ex,T=>by
  cases a with
  |tup es=>replace h:=ofRe h;obtain⟨z2,rp,h⟩:=h;replace h:=zhJ h;obtain⟨v,h⟩:=h;exact zog h G Ex T
  |_=>exact λpins s σ H I ⟨_,_,_,_,_,_,_,e,_⟩=>by cases e
 |.brk,C,st,X,h,G,Ex,T=>zaL|.cnt,C,st,X,h,G,Ex,T=>zaL|.setD _ _ _,C,st,X,h,G,Ex,T=>zaL|.unp _ _,C,st,X,h,G,Ex,T=>zaL|.tryb _ _ _ _ _,C,st,X,h,G,Ex,T=>zaL
 | .raiN c a,C,st,X,h,G,Ex,T=>by
  replace h:=ofRa h;obtain⟨z2,z7,_,h⟩:=h;replace h:=zhJ h;obtain⟨z3,h⟩:=h;replace h:=ofCN h;obtain⟨x,_,z5,_,h⟩:=h;replace h:=zaR h;obtain⟨v,h⟩:=h;replace h:=znB h;obtain⟨h⟩:=h;simp only[Z9] at h;obtain⟨⟨⟨⟨⟨h1,h2⟩,h3⟩,h4⟩,h5⟩,h6⟩:=h
  cases hc:C.exs[c]? with|none=>rw[hc] at h1;cases h1|some u=>rw[hc] at h1;simp only[Z9] at h1;have hu:=ZP h1.1;subst hu;obtain⟨Ca,e1,e2,e3,e4,e5,_⟩:=Ex.num c _ hc h1.2;have dc:=G.defc h6;exact zkj (X:=X) (cv:=cv) (E:=E) (n:=n) ⟨dc.ex,dc.st,dc.fr⟩ G.calm e3 e4 G.room1 (show Gl X _ from zci (X:=X.nox) G h2) e1 e2 (PE.nox (okE a C _ X.nox h5 G)) (zaT h3).1 (zal h4) (λpins σ H s e t dx I he he2 he3 w=>T.madeN pins σ H s e t dx _ I he he2 he3 w)
 |.stuck,C,st,X,h,G,Ex,T=>zaL
theorem okXs{Γ:Calls}{n:Nat}{cv:ClsV}{E:R->Hp->Prop}:∀(ss:List S) (C:Cst) (sts:List Stmt) (X:Cx),chkSs ss C sts=true->Good Γ n C X.nox->Excs Γ n C X cv->Thr X cv E->XSs X E sts (exXs Γ ss)
 | [],C,sts,X,h,G,Ex,T=>by
  cases sts with|nil=>exact zoA|cons _ _=>exact noT h
 | s::ss,C,sts,X,h,G,Ex,T=>by
  cases sts with|nil=>exact noT h|cons st sts=>change (chkS _ _ _&&chkSs _ _ _)=true at h;simp only[Z9] at h;exact zl1 (zp7 (okS s C st X.nox h.1 G)) (okX s C st X h.1 G Ex T) (okXs ss C sts X h.2 G Ex T)
end
end IT
namespace IT
open PySem PySem.Spec L2
def zjS:E->Bool|.call _ _=>true|_=>false
def tryC(C:Cst)(u:zdO)(e:E)(j o m:Nat)(cx nn oo mm z1 z2 z3 y:Str):Bool:=u.num&&zjS e&&C.top&&u.hs.contains cx&&u.isx.contains (z1,false)&&u.isx.contains (z2,false)&&u.isx.contains (z3,false)&&u.isx.contains (y,true)&&u.isx.contains ("ValueError",true) &&
 ([cx,z1,z2,z3,y, "ValueError", "isinstance", "bool"].all λx=>zb4 C x&&zaJ x)&&C.N[j]?==some nn&&C.N[o]?==some oo&&C.N[m]?==some mm&&lclB C nn&&locB C oo&&visB C mm&&([nn,oo,mm].all zaJ)&&j != o&&m != o&&j != m
inductive zhD(C:Cst)(B:F)(body:List Stmt):Prop where
 | mk {a1 a2 a3 a4 a5 a6 a7 a8 a9 b1 b2 b3 b4 b5 b6 b7 b8 b9 c1 c2 c3 c4 c5 c6 c7 c8 c9 d1 d2 d3 d4 d5 d6 d7 d8 d9 e1 e2 e3 e4 e5 e6 f1 f2 f3 f4 f5 f6:Pos} {kk k2:Nat} (e:E) (c j o m:Nat) (ce:Expr) (cx nn oo mm z1 z2 z3 y:Str) (u:zdO)
   (hb:body=[.Try [.Expr ce f1] [.ExceptHandler (some (.Name cx f2)) (some nn) [.Assign [.Name oo a1] (.BoolOp .Or [.Call (.Name "isinstance" a2) [.Name nn a3,.Name z1 a4] [] a5,.Call (.Name "isinstance" a6) [.Name nn a7,.Name z2 a8] [] a9,.Call (.Name "isinstance" b1) [.Name nn b2,.Name z3 b3] [] b4] b5) b6,
    .If (.BoolOp .Or [.Name oo b7,.UnaryOp .Not (.Call (.Name "isinstance" b8) [.Name nn b9,.Name y c1] [] c2) c3,.UnaryOp .Not (.Call (.Name "isinstance" c4) [.Name nn c5,.Name "ValueError" c6] [] c7) c8] c9) [.Return (some (.Constant (.bool false) kk d1)) d2] [] d3,
    .Return (some (.BoolOp .And [.Compare (.Attribute (.Name nn d4) "number" d5) [.Eq] [.Name mm d6] d7,.UnaryOp .Not (.Call (.Name "isinstance" d8) [.Attribute (.Name nn d9) "number" e1,.Name "bool" e2] [] e3) e4] e5)) e6] f3] [] [] f4,.Return (some (.Constant (.bool false) k2 f5)) f6])
   (hB:B.body=[.tryb e c j o m,.ret (.con (.bl false))]) (hc:chkE e C ce=true) (hu:C.exs[c]?=some u) (cond:tryC C u e j o m cx nn oo mm z1 z2 z3 y=true)
theorem zo3{Γ:Calls}{n:Nat}{C:Cst}{X:Cx}{cv:ClsV}{e:E}{ce:Expr}(G:Good Γ n C X)(Ex:Excs Γ n C X cv)(h:chkE e C ce=true)(hc:zjS e=true):zoh X cv ce (ev Γ e) (evC Γ e)/\∀line,W7 ce none line X.env=pure false:=by
 cases e with
 | call f es=>
  replace h:=ofCN h;obtain⟨x,p,z3,pos,h⟩:=h;replace h:=zaS h;obtain⟨v,vs,h⟩:=h;simp only[Z9] at h;have st:=zaB h.2
  cases hp:C.fns[f]? with
  |none=>rw[hp] at h;simp at h
  |some q=>
   rw[hp] at h;have hx:=ZP h.1.1.1;subst hx
   exact⟨zqh G.nox (G.funs f q hp) (Ex.funs f q hp) G.room (zci G h.1.1.2) (okEs es C _ X h.2 G) (λσ h0 rs h' e=>by rw[zcv e];exact zaO h.2) (zaT h.1.2).1 (zal (st v (by simp))) (zaU λy hy=>st y (by simp[hy])),λ_=>rfl⟩
 |_=>cases hc
theorem zq4{Γ:Calls}{n:Nat}{C:Cst}{X:Cx}{B:F}{body:List Stmt}(G:Good Γ n C X)(D:zhD C B body):PSs X body (tS X.K (exs Γ B.body)):=by
 obtain⟨e,c,j,o,m,ce,cx,nn,oo,mm,z1,z2,z3,y,u,rfl,hB,hc,hu,cond⟩:=D;rw[hB];unfold tryC at cond;simp only[Z9,Y4,bne_iff_ne,beq_iff_eq,Zl] at cond;obtain⟨⟨⟨⟨⟨⟨⟨⟨⟨⟨⟨⟨⟨⟨⟨⟨⟨⟨⟨g1,g2⟩,g3⟩,g4⟩,g5⟩,g6⟩,g7⟩,g8⟩,g9⟩,g10⟩,g11⟩,g12⟩,g13⟩,g14⟩,g15⟩,g16⟩,g17⟩,g18⟩,g19⟩,g20⟩:=cond;obtain⟨cv,Ex⟩:=G.excs;obtain⟨Ca,x1,x2,x3,x4,x5,xo⟩:=Ex.num c u hu g1;obtain⟨Cy,m1,m2⟩:=xo.hs cx g4;obtain⟨hcall,hsw⟩:=zo3 G Ex hc g2;have hgl:∀x∈[cx,z1,z2,z3,y, "ValueError", "isinstance", "bool"],Gl X x/\(x==("__debug__":Str))=false:=λx hx=>⟨zci G (g10 x hx).1,(zaT (g10 x hx).2).1⟩;have hpl:∀x∈[nn,oo,mm],(x==("__debug__":Str))=false/\(x==("__classdict__":Str))=false:=λx hx=>zaT (g17 x hx);obtain⟨l1,l2⟩:=zhU G g15;have hcx:=hgl cx (by simp)
 refine zeM (zoV (X:=X) (cv:=cv) G.nox (G.defc g3) hcall (hsw _) hcx.1 m1 hcx.2 x2 m2 G.nd (by rw[G.N];exact g11) (znx G g14) (by rw[G.N];exact(Z3.mp g12).1) g20 λa EE' k num=>zrC (e7:=⟨0,0,0,0⟩) (e8:=⟨0,0,0,0⟩) ?_) (zeM (zmZ (znr (d:=.bl false) rfl)) zks)
 exact⟨x5,xo.isx _ g5,xo.isx _ g6,xo.isx _ g7,xo.isx _ g8,xo.isx _ g9,(hgl "isinstance" (by simp)).1,G.blt _ (by decide),(hgl "bool" (by simp)).1,G.blt _ (by decide),λx hx=>hgl x (by simp only[ZE,Yk,or_false] at hx⊢;rcases hx with h | h | h | h | h<;>simp[h]),G.nd,by show X.N[j]?=_;rw[G.N];exact g11,by show X.N[o]?=_;rw[G.N];exact g12,by show X.N[m]?=_;rw[G.N];exact g13,(show Vis X.env.scope nn from .inl (znx G g14)),l1,(show Vis X.env.scope mm from zno G g16),l2,hpl,g18,g19⟩
end IT
namespace IT
open PySem PySem.Spec L2
section
variable {K:Z8}{μ μ':List Addr}{h h':Sto}{H H':Hp}
theorem RepDs.less(i:∀a,A' a->A a)(q:RepDs K A H x v):RepDs K A' H x v:=RepDs.mono (λ_ _ z=>z) (λ_ _ n z=>⟨λl=>n (i _ l),z⟩) x v q
theorem RepD.less(i:∀a,A' a->A a)(q:RepD K A H x v):RepD K A' H x v:=RepD.mono (λ_ _ z=>z) (λ_ _ n z=>⟨λl=>n (i _ l),z⟩) x v q
theorem zcY(st:Stp μ h H μ' h' H')(R0:Rep K μ h H):μ'.take h.length=μ:=by
 have hl:=R0.len;refine List.ext_getElem? λi=>?_
 by_cases hi:i<μ.length
 ·rw[YN (by omega),st.pre i μ[i] (Z2 hi),Z2 hi]
 ·rw[YQ (by simp;omega),YQ (by omega)]
theorem zfE:∀a,Live (μ'.take n) (h'.take n) a->Live μ' h' a:=by
 rintro a ⟨i,o,e1,e2,e3⟩
 have hi:i<n:=by
  have:=(Z3.mp e1).1
  simp at this;omega
 rw[YN hi] at e1 e2;exact⟨i,o,e1,e2,e3⟩
def R.locs:R->List Nat|.d _=>[]|.loc l=>[l]
def Ob.locs:Ob->List Nat|.lst _=>[]|.fro _=>[]|.ols ls=>ls|.dic _=>[]|.ins _ fs=>(fs.map λp=>R.locs p.2).flatten
theorem zcK{α β:Type}{F:α->β->Prop}:∀{xs:List α} {ys:List β} {x:α},Paired F xs ys->x∈xs->∃y,F x y
 |_,_,_,.nil,h=>by simp at h
 |_,_,x,.cons r t,h=>by
  rcases ZE.mp h with rfl | h
  ·exact⟨_,r⟩
  ·exact zcK t h
theorem zcp{α β:Type}{F G:α->β->Prop}:∀{xs:List α} {ys:List β},Paired F xs ys->(∀x∈xs,∀y,F x y->G x y)->Paired G xs ys|_,_,.nil,_=>.nil|_,_,.cons r t,f=>.cons (f _ (by simp) _ r) (zcp t λx hx=>f x (by simp[hx]))
theorem zjs{a:Addr}{o:Ob}(q:RepO K μ h H a o):∀l∈o.locs,l<μ.length:=by
 intro l hl
 cases o with
 |lst _=>simp[Ob.locs] at hl|fro _=>simp[Ob.locs] at hl|dic _=>simp[Ob.locs] at hl|ols ls=>obtain⟨vs,_,z⟩:=q;obtain⟨v,b,eb,_⟩:=zcK z hl;exact(Z3.mp eb).1
 | ins c fs=>
  obtain⟨C,dx,fs',_,_,z⟩:=q;simp only[Ob.locs,VX,XM] at hl;obtain⟨_,⟨p,hp,rfl⟩,hl⟩:=hl;obtain⟨q',_,qr⟩:=zcK z hp
  cases hr:p.2 with|d x=>rw[hr] at hl;simp[R.locs] at hl|loc k=>rw[hr] at hl qr;simp[R.locs] at hl;subst hl;obtain⟨b,eb,_⟩:=qr;exact(Z3.mp eb).1
theorem zfT{μ2:List Addr}{h2:Sto}{a:Addr}(q:RepO K μ' h' H' a o)(lv:∀b,Live μ2 h2 b->Live μ' h' b)(cl:∀l∈o.locs,∀b,μ'[l]?=some b->μ2[l]?=some b):RepO K μ2 h2 H' a o:=by
 cases o with
 |lst xs=>obtain⟨vs,e,z⟩:=q;exact⟨vs,e,z.less lv⟩|fro xs=>obtain⟨vs,e,z⟩:=q;exact⟨vs,e,z.less lv⟩|dic kvs=>obtain⟨xs,e,z⟩:=q;exact⟨xs,e,zcp z λp _ r y=>⟨y.1,⟨y.2.1.1,RepD.less lv y.2.1.2⟩,RepD.less lv y.2.2⟩⟩|ols ls=>obtain⟨vs,e,z⟩:=q;exact⟨vs,e,zcp z λl hl v ⟨b,eb,ev⟩=>⟨b,cl l hl b eb,ev⟩⟩
 | ins c fs=>
  obtain⟨C,dx,fs',hC,e,z⟩:=q;refine⟨C,dx,fs',hC,e,zcp z λp hp q' ⟨e1,qr⟩=>⟨e1,?_⟩⟩
  cases hr:p.2 with
  |d x=>rw[hr] at qr;exact RepD.less lv qr
  |loc k=>
   rw[hr] at qr;obtain⟨b,eb,ev⟩:=qr;refine⟨b,cl k ?_ b eb,ev⟩;simp only[Ob.locs,VX,XM]
   exact⟨_,⟨p,hp,rfl⟩,by rw[hr];simp[R.locs]⟩
theorem R.same_eq{x y:R}(e:x.same y=true):x=y:=by
 cases x with
 |d x=>
  cases y with|d y=>rw[D.same_eq x y e]|loc _=>cases e
 |loc l=>
  cases y with|d _=>cases e|loc k=>simp only[R.same] at e;rw[ZP e]
theorem zfH:∀{fs gs:List (Str×R)},zch fs gs=true->fs=gs| [],[],_=>rfl| [],_::_,e=>by simp[zch] at e|(f,x)::r,[],e=>by simp[zch] at e| (f,x)::r,(g,y)::t,e=>by simp only[zch,Z9] at e;obtain⟨⟨e1,e2⟩,e3⟩:=e;rw[ZP e1,R.same_eq e2,zfH e3]
theorem zfZ:∀{h h1:Sto} {i:Nat} {o1:Ob},objs h h1=true->h1[i]?=some o1->i<h.length->∃o,h[i]?=some o/\o1.locs=o.locs
 | [],_,_,_,_,_,hi=>by simp at hi|o::h,[],_,_,e,_,_=>by simp[objs] at e
 | o::h,o1::t,0,x,e,ex,_=>by
  simp only[W4,Z6] at ex;subst ex;refine⟨o,rfl,?_⟩;simp only[objs,Z9] at e;have e:=e.1
  cases o<;>cases o1<;>simp only[ZM] at e<;>try rfl
  ·simp only[Z9] at e
   rw[zfH e.2];rfl
  ·simp only[Ob.locs]
   rw[ZP e]
 |o::h,o1::t,i+1,x,e,ex,hi=>by simp only[objs,Z9] at e;obtain⟨o',e1,e2⟩:=zfZ (i:=i) e.2 (by simpa using ex) (by simpa using hi);exact⟨o',by simpa using e1,e2⟩
theorem zmC(st:Stp μ h H μ' h' H')(R0:Rep K μ h H)(R1:Rep K μ' h' H'):Stp μ h H μ (h'.take h.length) H':=by refine⟨λ_ _ e=>e,st.keep,λa l=>st.live a (zfE (n:=h.length) a ?_)⟩;rw[zcY st R0];exact l
theorem zn5(st:Stp μ h H μ' h' H')(R0:Rep K μ h H)(R1:Rep K μ' h' H')(ob:objs h h'=true)(q:RepR K μ' h' H' r v)(e:fin0 h.length keep r h'=some (r2,h2)):
  ∃μ2,Stp μ h H μ2 h2 H'/\Rep K μ2 h2 H'/\RepR K μ2 h2 H' r2 v:=by
 have st1:=zmC st R0 R1
 have lv:∀a,Live μ (h'.take h.length) a->Live μ' h' a:=λa l=>zfE (n:=h.length) a (by rw[zcY st R0];exact l)
 have hlen:=R0.len
 have at1:∀(l:Nat) (b:Addr),l<h.length->μ'[l]?=some b->μ[l]?=some b:=λl b hl eb=>by rw[<-zcY st R0,YN hl];exact eb
 have small:∀(i:Nat) (o:Ob),i<h.length->h'[i]?=some o->∀l∈o.locs,l<h.length:=by
  intro i o hi ho l hl;obtain⟨o0,e0,el⟩:=zfZ ob ho hi;rw[el] at hl
  have hi':i<μ.length:=by omega
  have:=zjs (R0.obj i μ[i] o0 (Z2 hi') e0) l hl
  omega
 have R2:Rep K μ (h'.take h.length) H':=by
  have hl':(h'.take h.length).length=h.length:=by
   have:=R1.len
   have h3:μ.length<=μ'.length:=by rw[<-zcY st R0,Zm];exact Nat.min_le_right _ _
   simp;omega
  refine⟨by rw[hl'];exact hlen,R0.nd,λi a o e1 e2=>?_⟩
  have hi:i<h.length:=by rw[<-hlen];exact(Z3.mp e1).1
  rw[YN hi] at e2;exact zfT (R1.obj i a o (st.pre i a e1) e2) lv λl hl b eb=>at1 l b (small i o hi e2 l hl) eb
 cases r with
 |d x=>simp only[fin0,Z6,ZS] at e;obtain⟨rfl,rfl⟩:=e;exact⟨μ,st1,R2,RepD.less lv q⟩
 | loc l =>
  obtain⟨a,ea,rfl⟩:=q;simp only[fin0] at e
  by_cases hl:l<h.length
  ·rw [if_pos hl] at e
   simp only[Z6,ZS] at e;obtain⟨rfl,rfl⟩:=e;exact⟨μ,st1,R2,a,at1 l a hl ea,rfl⟩
  ·rw [if_neg hl] at e
   obtain⟨o,ho⟩:=R1.placeO ea;rw[ho] at e
   have apart:a∉μ:=by
    intro hm;obtain⟨i,hi,ei⟩:=X3 hm
    have:=zfn R1.nd (st.pre i a (by rw[Z2 hi,ei])) ea
    omega
   have data:∀xs,o.isL=true->o.items=xs->∃μ2,Stp μ h H μ2 (h'.take h.length) H'/\Rep K μ2 (h'.take h.length) H'/\RepR K μ2 (h'.take h.length) H' (.d (.lst xs)) (.ref a):=by
    rintro xs il rfl
    obtain⟨vs,hH,z⟩:=R1.placeL ea ho il;refine⟨μ,st1,R2,?_⟩;simp only[RepR,RepD];refine⟨a,vs,rfl,.inl ⟨?_,.inl hH⟩,z.less lv⟩
    rintro⟨i,ys,e1,e2,_⟩
    exact apart (List.mem_of_getElem? e1)
   cases o with
   |ins _ _=>cases e|ols _=>cases e|dic _=>cases e|fro xs=>simp only[Z6,ZS] at e;obtain⟨rfl,rfl⟩:=e;exact data xs rfl rfl
   | lst xs=>
    cases keep with
    |false=>simp only[ZM,if_false,Z6,ZS] at e;obtain⟨rfl,rfl⟩:=e;exact data xs rfl rfl
    | true=>
     simp only[if_true,Z6,ZS] at e;obtain⟨rfl,rfl⟩:=e;obtain⟨vs,hH,z⟩:=R1.placeL ea ho rfl
     have hl2:(h'.take h.length).length=μ.length:=by rw[<-R2.len]
     have lv2:∀b,Live (μ++[a]) (h'.take h.length++[.lst xs]) b->Live μ' h' b:=by
      intro b l2
      rcases(zhy R2.len).mp l2 with w|⟨rfl,_⟩
      ·exact lv b w
      ·exact⟨l,_,ea,ho,rfl⟩
     refine⟨μ++[a],⟨λi b e=>?_,st.keep,λb l2=>st.live b (lv2 b l2)⟩,⟨by simp[hl2],?_,λi b o e1 e2=>?_⟩,a,?_,rfl⟩
     ·rw[ZG (Z3.mp e).1];exact e
     ·rw [List.nodup_append]
      refine⟨R0.nd,by simp,λb hb c hc=>?_⟩;simp at hc;subst hc
      rintro rfl
      exact apart hb
     ·by_cases hi:i<μ.length
      ·rw [ZG hi] at e1
       rw[ZG (by omega)] at e2
       have hi2:i<h.length:=by omega
       rw[YN hi2] at e2;refine zfT (R1.obj i b o (st.pre i b e1) e2) lv2 λk hk c ec=>?_;have hk2:=small i o hi2 e2 k hk;rw[ZG (by omega)];exact at1 k c hk2 ec
      ·rw [Zw (by omega)] at e1
       rw[Zw (by omega)] at e2
       have hz:i-μ.length=0:=by
        cases hk:i-μ.length with|zero=>rfl|succ k=>rw[hk] at e1;simp at e1
       rw[hl2,hz] at e2;rw[hz] at e1;simp at e1 e2;subst e1 e2;exact⟨vs,hH,z.less lv2⟩
     ·rw [hlen.symm]
      simp
theorem zhE(st:Stp μ h H μ' h' H')(R0:Rep K μ h H)(R1:Rep K μ' h' H')(q:RepR K μ' h' H' r v)(e:fin h all keep r h'=some (r2,h2)):
  ∃μ2,Stp μ h H μ2 h2 H'/\Rep K μ2 h2 H'/\RepR K μ2 h2 H' r2 v:=by
 unfold fin at e
 cases all with
 |true=>simp only[if_true,Z6,ZS] at e;obtain⟨rfl,rfl⟩:=e;exact⟨μ',st,R1,q⟩
 | false=>
  simp only[ZM,if_false] at e
  split at e
  ·rename_i ob
   exact zn5 st R0 R1 ob q e
  ·cases e
end
structure Fun2(K:Z8)(x qual:Str)(st:Stmt)(f:Addr)(fd:FuncData):Prop where
 ex:∃(oc:Value) (od:Option Addr) (dV kV doc pm:Value) (an:Option Addr) (cdv ct:Value) (osl:Array (Option Value)),
  fd=Yp x qual (zbq st) (zay st) (zae st) dV kV doc pm an cdv ct/\K.lookup f=some ⟨oc,od,.func fd,osl⟩/\Xz K cdv qual=true
 kp:YO K (.ref f)=true
section
variable {P:ZH}{w:World}{K:Z8}{mg:Str->Option Value}{base:Heap}
theorem zjL{dV kV doc pm cdv ct:Value}(l:K.lookup f=some ⟨oc,od,.func (Yp x qual (zbq st) (zay st) (zae st) dV kV doc pm an cdv ct),osl⟩)
  (c:Xz K cdv qual=true) (k:YO K (.ref f)=true):Fun2 K x qual st f (Yp x qual (zbq st) (zay st) (zae st) dV kV doc pm an cdv ct):=⟨⟨oc,od,dV,kV,doc,pm,an,cdv,ct,osl,rfl,l,c⟩,k⟩
end
structure zdV(K:Z8)(fns:List (Str×Nat×List D))(cls:List zkz)(Pr:List F)(globs:List (Str×D))(gds:List (Str×List (List Nat×D)))(exs:List zdO)(fi:Nat)(x qual:Str)(st:Stmt)(f:Addr)(fd:FuncData)(N ps:List Str)(B:F):Prop where
 at':Pr[fi]?=some B
 fn:Fun2 K x qual st f fd
 sc:za9 N ps (zae st)
 np:B.np=ps.length
 ns:B.ns=N.length
 bi:∃dvs,(∀A H,RepDs K A H B.dfl dvs)/\∀j,j<=B.dfl.length->∃ds,zdk K fd ps ds/\Vals (dvs.drop j) ds
 chk:chkSs B.body ⟨N,(zae st).names,fns,globs,true,cls,gds,exs,B.lam⟩ (zay st)=true\/zhD ⟨N,(zae st).names,fns,globs,true,cls,gds,exs,B.lam⟩ B (zay st)
 lamq:B.lam=true->qual="law"
def cvOf(exA:List Addr):ClsV:=λr=>some (match r with
 |.d (.int i)=>.ref (exA.getD i.toNat 0)|.d (.tup [.int i,.int _])=>.ref (exA.getD i.toNat 0)
 |_=>.none)
structure Txt(w:World)(K:Z8)(mg:Str->Option Value)(fns:List (Str×Nat×List D))(cls:List zkz)(Pr:List F)(globs:List (Str×D))(gds:List (Str×List (List Nat×D)))(exs:List zdO)(exA:List Addr)(addr:Nat->Addr)(fdOf:Nat->FuncData)(psOf:Nat->List Str):Prop where
 defs:∀fi B,Pr[fi]?=some B->∃x qual st N,zdV K fns cls Pr globs gds exs fi x qual st (addr fi) (fdOf fi) N (psOf fi) B
 blt:∀x∈zco,mg x=none
 glob:∀(x:Str) (d:D),globs.lookup x=some d->∃u v,mg x=some u/\RelV v u/\∀A H,RepD K A H d v
 funs:∀fi p,fns[fi]?=some p->mg p.1=some (.ref (addr fi))/\∃B,Pr[fi]?=some B/\B.np=p.2.1/\B.dfl=p.2.2
 excN:∀(c:Nat) (x:zdO),exs[c]?=some x->x.num=true->∃Ca,mg x.name=some (.ref Ca)/\exA.getD c 0=Ca/\ExcN K Ca/\ExcJ K Ca/\XOk K mg Ca x/\∃fI fd,Y6 K (.ref Ca) "__init__"=some (some (.ref fI))/\Wj K (.ref fI)=some (.type "function")/\(∀P base,FnOk P w K mg base CX0 1 fI fd ["self", "number"] (zmf Ca))/\zdk K fd ["self", "number"] []
 few:Pr.length<=1000
section
variable {P:ZH}{w:World}{K:Z8}{mg:Str->Option Value}{base:Heap}{fns:List (Str×Nat×List D)}{cls:List zkz}{Pr:List F}{globs:List (Str×D)}{gds:List (Str×List (List Nat×D))}{exs:List zdO}{exA:List Addr}{addr:Nat->Addr}{fdOf:Nat->FuncData}{psOf:Nat->List Str}
theorem zdS(h:np<=rs.length):zar np dfl rs=rs:=by rw[zaK (by omega),List.drop_eq_nil_of_le (by omega)];simp
theorem zfW:zar np dfl (zar np dfl rs)=zar np dfl rs:=by
 by_cases hs:rs.length+dfl.length<np
 ·rw[za8 hs,za8 hs]
 ·refine zdS ?_
  rw[zaK hs];simp only[ZZ,Z1,YU];omega
theorem zi2(e0:Pr[fi]?=some B)(rs:List R):zaf Pr m fi rs=zaf Pr m fi (zar B.np B.dfl rs):=by
 cases m with
 |zero=>rfl
 |succ m=>
  funext h
  rw[zaC,zaC];simp only[e0];rw[zfW]
theorem zjJ(e0:Pr[fi]?=some B)(e:zaf Pr (m+1) fi rs h=some p):(zar B.np B.dfl rs).length=B.np:=by
 rw[zaC] at e;simp only[e0] at e
 split at e
 ·assumption
 ·cases e
theorem zaM.env(q:zaM K μ h H rs vs)(i:Nat)(r:R)(e:(rs.map some)[i]?=some (some r)):∃v,(vs.map some)[i]?=some (some v)/\RepR K μ h H r v:=by
 induction q generalizing i with
 |nil=>simp at e
 | @cons r' v rs vs q1 _ ih=>
  cases i with|zero=>simp at e;subst e;exact⟨v,rfl,q1⟩|succ i=>simp only[ZL,XX] at e⊢;exact ih i e
theorem zi5(e0:Pr[fi]?=some B)(e:zaf Pr m fi rs h=some p):(zar B.np B.dfl rs).length=B.np:=by
 cases m with|zero=>cases e|succ m=>exact zjJ e0 e
theorem ziZ(T:Txt w K mg fns cls Pr globs gds exs exA addr fdOf psOf)(e0:Pr[fi]?=some B)(rs:List R):zaf Pr m (xof fi) rs=zaf Pr m (xof fi) (zar B.np B.dfl rs):=by
 cases m with
 |zero=>rfl
 |succ m=>
  funext h
  rw[zcB T.few e0,zcB T.few e0,zfW]
theorem zkB(T:Txt w K mg fns cls Pr globs gds exs exA addr fdOf psOf)(e0:Pr[fi]?=some B)(e:zaf Pr m (xof fi) rs h=some p):(zar B.np B.dfl rs).length=B.np:=by
 cases m with
 |zero=>cases e
 |succ m=>
  rw[zcB T.few e0] at e
  split at e
  ·assumption
  ·cases e
theorem zjx(T:Txt w K mg fns cls Pr globs gds exs exA addr fdOf psOf)(bt:True)(Dd:zdV K fns cls Pr globs gds exs fi x qual st f fd N ps B)
  (ih:∀g B,Pr[g]?=some B->FnOk P w K mg base CX0 (2*m+1) (addr g) (fdOf g) (psOf g) (spF K (psOf g).length (zaf Pr m g)))
  (ihx:∀g B,Pr[g]?=some B->FnOk P w K mg base (CXk P w) (2*m+1) (addr g) (fdOf g) (psOf g) (spX K (cvOf exA) (psOf g).length (zaf Pr m (xof g))))
  {CX:CXT} {cdv:Value} (hcd:True) {A:Around} {outer:List Yz} {s:Shared} {H:Hp} {E:XK} (hr:Room (2*m+2) (A.deeper (PyProof.Rows.envOfC qual (zae st) s.heap.objs.size f cdv))):
  Good (zaf Pr m) (2*m+1) ⟨N,(zae st).names,fns,globs,true,cls,gds,exs,B.lam⟩ (cxOf CX P w K mg base N qual (zae st) f cdv A outer s H E).nox/\Excs (zaf Pr m) (2*m+1) ⟨N,(zae st).names,fns,globs,true,cls,gds,exs,B.lam⟩ (cxOf CX P w K mg base N qual (zae st) f cdv A outer s H E) (cvOf exA):=by
 have Ex:Excs (zaf Pr m) (2*m+1) ⟨N,(zae st).names,fns,globs,true,cls,gds,exs,B.lam⟩ (cxOf CX P w K mg base N qual (zae st) f cdv A outer s H E) (cvOf exA):=by
  refine⟨λc x e hn=>?_,λg y e=>?_⟩
  ·obtain ⟨Ca,e1,e2,e3,e4,e5,fI,fd,i1,i2,i3,i4⟩:=T.excN c x e hn
   exact⟨Ca,e1,λk=>by show some (Y9 (exA.getD (Int.toNat (c:Int)) 0))=_;rw[Int.toNat_natCast,e2],e3,⟨fI,fd,i1,i2,(i3 _ _).mono (by omega),i4⟩,e4,e5⟩
  ·obtain ⟨e1,B',e2,e3,e4⟩:=T.funs g y e
   obtain⟨x',q',st',N',d'⟩:=T.defs g B' e2;obtain⟨dvs,b1,b2⟩:=d'.bi;rw[<-e3,<-e4]
   have:=ihx g B' e2
   rw[<-d'.np] at this;exact⟨⟨addr g,fdOf g,psOf g,dvs,this,e1,d'.fn.kp,b1,b2⟩,ziZ T d'.at',λrs h p e=>zkB T d'.at' e,λrs h r h' _=>⟨_,rfl⟩⟩
 refine⟨⟨rfl,rfl,hr.mono (by omega),hr,Dd.sc.kind,rfl,Dd.sc.nd,rfl,λ_ _=>rfl,λg y e=>?_,T.blt,T.glob,λ_=>⟨rfl,rfl,rfl⟩,⟨cvOf exA,λc x e hn=>let ⟨Ca,a1,a2,a3,⟨fI,fd,b1,b2,b3,b4⟩,a5⟩:=Ex.num c x e hn;⟨Ca,a1,a2,a3,⟨fI,fd,b1,b2,b3,b4⟩,a5⟩,λg y e=>⟨(Ex.funs g y e).ex,(Ex.funs g y e).fill,(Ex.funs g y e).len,(Ex.funs g y e).cls⟩⟩⟩,Ex⟩
 ·obtain ⟨e1,B',e2,e3,e4⟩:=T.funs g y e
  obtain⟨x',q',st',N',d'⟩:=T.defs g B' e2;obtain⟨dvs,b1,b2⟩:=d'.bi;rw[<-e3,<-e4]
  have:=ih g B' e2
  rw[<-d'.np] at this;exact⟨⟨addr g,fdOf g,psOf g,dvs,this,e1,d'.fn.kp,b1,b2⟩,zi2 d'.at',λrs h p e=>zi5 d'.at' e⟩
theorem znn(Dd:zdV K fns cls Pr globs gds exs fi x qual st f fd N ps B){μ:List Addr}{h0:Sto}{H:Hp}{rs:List R}{vs:List V}(qr:zaM K μ h0 H rs vs)(hv0:vs.length=ps.length)(hl0:rs.length=B.np):RepE K μ h0 H (rs.map some++Z0 (B.ns-B.np) none) (L2.start N vs):=by
 have hpl:ps.length<=N.length:=by have:=congrArg WI Dd.sc.pre;rw[Zm] at this;omega
 have re:RepE K μ h0 H (rs.map some++Z0 (B.ns-B.np) none) (L2.start N vs):=by
  have hv:=qr.length;have h1:=Dd.np;have h2:=Dd.ns;refine⟨?_,λi r e=>?_⟩
  ·unfold L2.start
   simp;omega
  ·by_cases hi:i<rs.length
   ·rw [ZG (by simpa using hi)] at e
    obtain⟨v,e1,z⟩:=qr.env i r e;refine⟨v,?_,z⟩;unfold L2.start
    rw[ZG (by simp;omega)]
    exact e1
   ·rw [Zw (by simpa using hi),List.getElem?_replicate] at e
    split at e<;>cases e
 exact re
theorem zqx(T:Txt w K mg fns cls Pr globs gds exs exA addr fdOf psOf)(bt:True)(Dd:zdV K fns cls Pr globs gds exs fi x qual st (addr fi) fd N ps B)
  (ih:∀g B,Pr[g]?=some B->FnOk P w K mg base CX0 (2*m+1) (addr g) (fdOf g) (psOf g) (spF K (psOf g).length (zaf Pr m g)))
  (ihx:∀g B,Pr[g]?=some B->FnOk P w K mg base (CXk P w) (2*m+1) (addr g) (fdOf g) (psOf g) (spX K (cvOf exA) (psOf g).length (zaf Pr m (xof g)))):FnOk P w K mg base CX0 (2*m+3) (addr fi) fd ps (spF K ps.length (zaf Pr (m+1) fi)):=by
 obtain⟨oc,od,dV,kV,doc,pm,an,cdv,ct,osl,rfl,lk,hcd⟩:=Dd.fn.ex;refine znO (k:=2*m+2) lk hcd Dd.sc (λvs H Q E h=>h.1) λA outer s H vs Q E hr h=>?_
 ·have G:=(zjx (CX:=CX0) (cdv:=cdv) (outer:=outer) (s:=s) (H:=H) (E:=E) T bt Dd ih ihx trivial hr).1
  refine⟨_,PSs.nox (Dd.chk.elim (λz=>okSs B.body _ (zay st) _ z G) (zq4 G)),?_⟩;obtain⟨hv0,μ,h0,rs,R0,qr,r,h',e,k⟩:=h
  have hl0:rs.length=B.np:=by rw[qr.length,hv0,Dd.np]
  have ef:zar B.np B.dfl rs=rs:=zdS (by omega);rw[zaC] at e;simp only[Dd.at'] at e;rw[ef,if_pos hl0] at e;have re:=znn Dd qr hv0 hl0
  cases eb:IT.exs (zaf Pr m) B.body (rs.map some++Z0 (B.ns-B.np) none) h0 with
  |none=>rw[eb] at e;cases e
  | some p=>
   obtain⟨⟨fl,env'⟩,h1⟩:=p;rw[eb] at e;refine⟨μ,h0,_,R0,re,fl,env',h1,eb,λμ' H' σ' st1 R1 _=>?_⟩
   cases fl with|ret r1=>intro v qv;obtain⟨μ2,st2,R2,q2⟩:=zhE st1 R0 R1 qv e;exact k μ2 H' v st2 R2 q2|nx=>obtain⟨μ2,st2,R2,q2⟩:=zhE (v:=.non) st1 R0 R1 (by simp only[RepR,RepD]) e;exact k μ2 H' .non st2 R2 q2|brk=>cases e|cnt=>cases e
theorem znV{outer:List Yz}{H:Hp}{s s':Shared}{E E':XK}{e:Value}(h:CXk P w outer H s E e s')(i:∀C od H,E C od H->E' C od H):CXk P w outer H s E' e s':=by obtain⟨a,C,od,H',e1,f,d,q⟩:=h;exact⟨a,C,od,H',e1,f,d,i C od H' q⟩
theorem ziO{Γ:Calls}{e:IT.E}{c j o m:Nat}(env:IT.Env)(h:Sto)(p:R×Sto):exXs Γ [.tryb e c j o m,.ret (.con (.bl false))] env h≠some p:=by
 intro z
 have:exXs Γ [.tryb e c j o m,.ret (.con (.bl false))] env h=none:=by
  show (match ex Γ (.tryb e c j o m) env h with
   |some ((fl,σ1),h1)=>match fl with
    |.nx=>exXs Γ [.ret (.con (.bl false))] σ1 h1|_=>none
   |none=>exX Γ (.tryb e c j o m) env h)=none
  cases ex Γ (.tryb e c j o m) env h with
  |none=>rfl
  |some q=>
   obtain⟨⟨fl,σ1⟩,h1⟩:=q
   cases fl<;>rfl
 rw[this] at z;cases z
theorem zo9(T:Txt w K mg fns cls Pr globs gds exs exA addr fdOf psOf)(bt:True)(Dd:zdV K fns cls Pr globs gds exs fi x qual st (addr fi) fd N ps B)
  (ih:∀g B,Pr[g]?=some B->FnOk P w K mg base CX0 (2*m+1) (addr g) (fdOf g) (psOf g) (spF K (psOf g).length (zaf Pr m g)))
  (ihx:∀g B,Pr[g]?=some B->FnOk P w K mg base (CXk P w) (2*m+1) (addr g) (fdOf g) (psOf g) (spX K (cvOf exA) (psOf g).length (zaf Pr m (xof g)))):FnOk P w K mg base (CXk P w) (2*m+3) (addr fi) fd ps (spX K (cvOf exA) ps.length (zaf Pr (m+1) (xof fi))):=by
 obtain⟨oc,od,dV,kV,doc,pm,an,cdv,ct,osl,rfl,lk,hcd⟩:=Dd.fn.ex;refine znO (k:=2*m+2) lk hcd Dd.sc (λvs H Q E h=>h.1) λA outer s H vs Q E hr h=>?_;obtain⟨G,Ex⟩:=zjx (CX:=CXk P w) (cdv:=cdv) (outer:=outer) (s:=s) (H:=H) (E:=E) T bt Dd ih ihx trivial hr;have dc:zd5 (cxOf (CXk P w) P w K mg base N qual (zae st) (addr fi) cdv A outer s H E):=⟨rfl,rfl,rfl⟩;have wE:∀C od H,wX (cvOf exA) (λr H'=>∀C od,cvOf exA r=some C->OdOk r od H'->E C od H') C od H->E C od H:=λC od H ⟨r,e1,o,q⟩=>q C od e1 o
 have Th:Thr (cxOf (CXk P w) P w K mg base N qual (zae st) (addr fi) cdv A outer s H E) (cvOf exA) (λr H'=>∀C od,cvOf exA r=some C->OdOk r od H'->E C od H'):=by
  refine⟨V4.leaving,λpins σ H1 s1 e s' I c=>?_,λpins σ H1 s1 e t dx C I he ne n0 q=>?_,λpins σ H1 s1 h' a C vs I m q=>?_⟩
  ·exact ZI (zqe dc I c) (λ_ s'' z=>znV z wE) λ_ _ z=>z
  ·exact zk9 dc I he ne n0 (wE _ _ _ q)
  ·exact zmE dc I m (wE _ _ _ q)
 have hx:XSs (cxOf (CXk P w) P w K mg base N qual (zae st) (addr fi) cdv A outer s H E) (λr H'=>∀C od,cvOf exA r=some C->OdOk r od H'->E C od H') (zay st) (exXs (zaf Pr m) B.body):=by
  rcases Dd.chk with z | z
  ·exact okXs B.body _ (zay st) _ z G Ex Th
  ·obtain ⟨e,c,j,o,m',ce,cx,nn,oo,mm,z1,z2,z3,y,u,_,hB,_⟩:=z
   rw[hB];intro pins s σ H I ⟨_,_,_,_,_,_,_,e,_⟩;exact absurd e (ziO _ _ _)
 refine⟨λD σ H=>RX K (exXs (zaf Pr m) B.body) (λr H'=>∀C od,cvOf exA r=some C->OdOk r od H'->E C od H') σ H,λpins s σ H D I q=>ZI (hx pins s σ H I q) (λ_ _ z=>z.elim) λ_ _ z=>z,?_⟩;obtain⟨hv0,μ,h0,rs,r,h',C,R0,qr,e,hC,k⟩:=h
 have hl0:rs.length=B.np:=by rw[qr.length,hv0,Dd.np]
 have ef:zar B.np B.dfl rs=rs:=zdS (by omega);rw[zcB T.few Dd.at',ef,if_pos hl0] at e;have re:=znn Dd qr hv0 hl0
 cases eb:exXs (zaf Pr m) B.body (rs.map some++Z0 (B.ns-B.np) none) h0 with
 |none=>rw[eb] at e;cases e
 | some p=>
  obtain⟨r1,h1⟩:=p;rw[eb] at e;simp only at e;refine⟨μ,h0,_,R0,re,r1,h1,eb,λμ1 H1 st1 R1=>?_⟩;unfold finX at e
  split at e
  ·rename_i c
   obtain⟨μ2,st2,R2,q2⟩:=zhE (v:=.int c) st1 R0 R1 (by simp only[RepR,RepD]) e
   have er:r=.d (.int c):=by
    unfold fin at e
    split at e
    ·cases e;rfl
    ·split at e
     ·cases e;rfl
     ·cases e
   subst er;intro C' od e2 o2;rw[hC] at e2;cases e2;exact k μ2 H1 od st2 R2 o2
  ·rename_i c kk
   cases ef:fin h0 B.all B.keep (.d (.int c)) h1 with|none=>rw[ef] at e;cases e|some pr=>obtain⟨r2,h2⟩:=pr;rw[ef] at e;simp only[Z6,ZS] at e;obtain⟨rfl,rfl⟩:=e;obtain⟨μ2,st2,R2,q2⟩:=zhE (v:=.int c) st1 R0 R1 (by simp only[RepR,RepD]) ef;intro C' od e2 o2;rw[hC] at e2;cases e2;exact k μ2 H1 od st2 R2 o2
  ·cases e
theorem ziN:FnOk P w K mg base (CXk P w) 1 f fd ps (spX K cv np (zaf Pr 0 fi)):=by
 refine⟨λvs H Q E h=>?_,λA outer s H args us vs Q E hr e0 hb r h=>?_⟩
 ·obtain ⟨_,μ,h0,rs,r,h',C,R0,qr,e,_⟩:=h
  cases e
 ·obtain ⟨_,μ,h0,rs,r,h',C,R0,qr,e,_⟩:=h
  cases e
theorem zkZ:FnOk P w K mg base CX0 1 f fd ps (spF K np (zaf Pr 0 fi)):=by
 refine⟨λvs H Q E h=>?_,λA outer s H args us vs Q E hr e0 hb r h=>?_⟩
 ·obtain ⟨_,μ,h0,rs,R0,qr,r,h',e,k⟩:=h
  cases e
 ·obtain ⟨_,μ,h0,rs,R0,qr,r,h',e,k⟩:=h
  cases e
theorem zeY(T:Txt w K mg fns cls Pr globs gds exs exA addr fdOf psOf)(bt:True):∀m fi B,Pr[fi]?=some B->FnOk P w K mg base CX0 (2*m+1) (addr fi) (fdOf fi) (psOf fi) (spF K (psOf fi).length (zaf Pr m fi))/\FnOk P w K mg base (CXk P w) (2*m+1) (addr fi) (fdOf fi) (psOf fi) (spX K (cvOf exA) (psOf fi).length (zaf Pr m (xof fi)))
 |0,fi,B,e=>⟨zkZ,ziN⟩
 |m+1,fi,B,e=>by obtain⟨x,q,st,N,d⟩:=T.defs fi B e;have a:=λg B' e'=>(zeY T bt m g B' e').1;have b:=λg B' e'=>(zeY T bt m g B' e').2;exact⟨zqx T bt d a b,zo9 T bt d a b⟩
theorem zop(T:Txt w K mg fns cls Pr globs gds exs exA addr fdOf psOf)(bt:True)(m fi:Nat)(B:F)(e:Pr[fi]?=some B):FnOk P w K mg base CX0 (2*m+1) (addr fi) (fdOf fi) (psOf fi) (spF K (psOf fi).length (zaf Pr m fi)):=(zeY T bt m fi B e).1
end
theorem zh2:∀ns:List Int,RepDs K A H (ns.map D.int) (ns.map V.int)| []=>.nil|n::r=>.cons (by simp only[RepD]) (zh2 r)
theorem zjE{ns:List Int}{E:XK}(hS:SqL K H a (ns.map V.int))(e:m [.d (.lst (ns.map .int))] []=some (.d (.bl true),[])):spF K 1 m [.ref a] H (λv _=>v=.bl true) E:=by
 have nl:∀b,¬Live [] [] b:=by
  rintro b ⟨i,xs,e1,_⟩
  simp at e1
 refine⟨rfl,[],[],[.d (.lst (ns.map .int))],⟨rfl,by simp,λi a o e1 _=>by simp at e1⟩,.cons ?_ .nil,_,_,e,λμ' H' v st R1 q=>?_⟩
 ·simp only[RepR,RepD]
  refine⟨a,ns.map V.int,rfl,?_,zh2 ns⟩
  rcases hS with z | z
  ·exact .inl ⟨nl a,z⟩
  ·exact .inr z
 ·simpa only[RepR,RepD] using q
theorem us0{P:List Value->Prop}(h:P []):∀us:List Value,us.length=0->P us:=λus hl=>by
 cases us with|nil=>exact h|cons=>cases hl
theorem usS{P:List Value->Prop}{n:Nat}(h:∀a,∀us:List Value,us.length=n->P (a::us)):∀us:List Value,us.length=n+1->P us:=λus hl=>by
 cases us with|nil=>cases hl|cons a r=>exact h a r (Nat.succ.inj hl)
theorem us1{P:List Value->Prop}(h:∀a0,P [a0]):∀us:List Value,us.length=1->P us:=usS λa=>us0 (h a)
theorem us2{P:List Value->Prop}(h:∀a0 a1,P [a0,a1]):∀us:List Value,us.length=2->P us:=usS λa=>us1 (h a)
theorem us3{P:List Value->Prop}(h:∀a0 a1 a2,P [a0,a1,a2]):∀us:List Value,us.length=3->P us:=usS λa=>us2 (h a)
open PySem.W in
theorem toX{r:RowW}{d:DefRec}{kwd:List (Str×Expr)}{run:Value->List Value->Sem Value}(e:∀P,as=(K P).map (·.1))
  (h:WalkO q loose XP (InK K) r d kwd run):WalkX q loose XP (X.obsZ as) (X.valZ K n t) r d kwd run:=by
 intro w s₀ s₁ mg mb G y a o pm cd doc dV kV h1 h2 h3 h4 h5 h6 args vals as' L;exact h w s₀ s₁ mg mb G (InK.keeps w _ _ (X.z_facts e y).2.1 L.keeps) a o pm cd doc dV kV h1 h2 h3 h4 h5 h6 args vals as'
end IT
namespace IT
inductive Ok{α:Type}(m:Option (α×Sto))(Q:α->Sto->Prop):Prop where|mk (a:α) (h':Sto) (e:m=some (a,h')) (q:Q a h')
section
variable {α β:Type}{Q:α->Sto->Prop}{R:β->Sto->Prop}{h:Sto}
theorem Ok.mono(k:Ok m Q)(i:∀a h,Q a h->Q' a h):Ok m Q':=by obtain⟨a,h',e,q⟩:=k;exact⟨a,h',e,i a h' q⟩
@[simp] theorem ok_bnd{x:M α}{f:α->M β}:Ok (bnd x f h) R↔Ok (x h) λa h1=>Ok (f a h1) R:=by
 unfold bnd;constructor
 ·rintro⟨b,h',e,q⟩
  cases ex:x h with|none=>rw[ex] at e;cases e|some p=>rw[ex] at e;exact⟨p.1,p.2,rfl,b,h',e,q⟩
 ·rintro⟨a,h1,e,b,h',e',q⟩
  rw[e];exact⟨b,h',e',q⟩
@[simp] theorem ok_some'{a:α}:Ok (some (a,h)) Q↔Q a h:=by
 constructor
 ·rintro⟨b,h',e,q⟩;cases e;exact q
 ·intro q;exact⟨a,h,rfl,q⟩
@[simp] theorem ok_ok{a:α}:Ok (ok a h) Q↔Q a h:=ok_some'
@[simp] theorem ok_none:Ok (none:Option (α×Sto)) Q↔False:=by
 constructor
 ·rintro⟨b,h',e,q⟩;cases e
 ·intro z;exact z.elim
@[simp] theorem ok_opt{o:Option α}:Ok (opt o h) Q↔∃a,o=some a/\Q a h:=by
 unfold opt
 cases o with|none=>simp|some a=>simp
@[simp] theorem ok_rd_d{x:D}{Q:D->Sto->Prop}:Ok (rd (.d x) h) Q↔Q x h:=ok_some'
@[simp] theorem ok_fz_d{x:D}{Q:D->Sto->Prop}:Ok (fz (.d x) h) Q↔Q x h:=ok_some'
end
theorem zmO(I:Nat->Env->Sto->Prop)
  (step:∀i x σ h,xs[i]?=some x->I i σ h->Ok (f x σ h) λp h1=>match p.1 with
   |.ret r=>Q (.ret r,p.2) h1|.brk=>Q (.nx,p.2) h1
   |_=>zaE l h h1=true/\I (i+1) p.2 h1)
  (fin:∀σ h,I xs.length σ h->Q (.nx,σ) h) {σ:Env} {h:Sto} (h0:I 0 σ h):Ok (loop l f xs σ h) Q:=by
 have gen:∀(ys:List Ite) (i:Nat) (σ:Env) (h:Sto),xs.drop i=ys->i<=xs.length->I i σ h->Ok (loop l f ys σ h) Q:=by
  intro ys
  induction ys with
  | nil=>
   intro i σ h e hi hI
   have:i=xs.length:=by
    have:=congrArg WI e
    simp at this;omega
   subst this;exact⟨_,_,rfl,fin σ h hI⟩
  | cons y ys ih=>
   intro i σ h e hi hI
   have hil:i<xs.length:=by
    have:=congrArg WI e
    simp at this;omega
   have hy:xs[i]?=some y:=by
    have:=congrArg (λz=>z[0]?) e
    simpa using this
   have hd:xs.drop (i+1)=ys:=by
    have:=congrArg List.tail e
    simpa using this
   obtain⟨⟨fl,σ1⟩,h1,ef,q⟩:=step i y σ h hy hI;simp only[loop,ef]
   cases fl with|ret r=>exact⟨_,_,rfl,q⟩|brk=>exact⟨_,_,rfl,q⟩|nx=>simp only at q⊢;rw[if_pos q.1];exact ih (i+1) σ1 h1 hd (by omega) q.2|cnt=>simp only at q⊢;rw[if_pos q.1];exact ih (i+1) σ1 h1 hd (by omega) q.2
 exact gen xs 0 σ h (by simp) (by omega) h0
theorem zlF{α:Type}{g:α->Ite}{l:Option Nat}{f:Ite->Env->M (Fl×Env)}{xs:List α}{Q:Fl×Env->Sto->Prop}(I:Nat->Env->Sto->Prop)
  (step:∀i x σ h,xs[i]?=some x->I i σ h->Ok (f (g x) σ h) λp h1=>match p.1 with
   |.ret r=>Q (.ret r,p.2) h1|.brk=>Q (.nx,p.2) h1
   |_=>zaE l h h1=true/\I (i+1) p.2 h1)
  (fin:∀σ h,I xs.length σ h->Q (.nx,σ) h) {σ:Env} {h:Sto} (h0:I 0 σ h):Ok (loop l f (xs.map g) σ h) Q:=by
 refine zmO I (λi x σ h hx hI=>?_) (λσ h hI=>fin σ h (by simpa using hI)) h0;rw[Zs,ZW] at hx;obtain⟨y,hy,rfl⟩:=hx;exact step i y σ h hy hI
theorem zeb{α β:Type}{d:β->Ite}{l:Option Nat}{f:Ite->M (Option α)}{g:β->Option α}{h:Sto}:∀{xs:List β},(∀x∈xs,f (d x) h=some (g x,h))->zaE l h h=true->za1 l f (xs.map d) h=some (xs.filterMap g,h)
 | [],_,_=>rfl
 |x::xs,e,s=>by
  simp only[ZL,za1,e x (by simp),if_pos s];unfold bnd;rw[zeb (λy hy=>e y (by simp[hy])) s];simp only[ok,Yr]
  cases g x<;>rfl
theorem zqo(Γ:Calls)(i:_)(σ:Env):ev Γ (.var i) σ=(λh=>match σ[i]? with
  |some (some r)=>some (r,h)
  |_=>none):=rfl
theorem zrp(Γ:Calls)(a:_)(σ:Env):ev Γ (.neg a) σ=(bnd (ev Γ a σ) λx=>match x with
  |.d (.int i)=>ok (.d (.int (-i)))
  |_=>λ_=>none):=rfl
theorem zqY(Γ:Calls)(a:_)(b:_)(σ:Env):ev Γ (.and a b) σ=(bnd (ev Γ a σ) λx=>match x with
  |.d (.bl c)=>if c then ev Γ b σ else ok (.d (.bl false))
  |_=>λ_=>none):=rfl
theorem zr6(Γ:Calls)(a:_)(b:_)(σ:Env):ev Γ (.or a b) σ=(bnd (ev Γ a σ) λx=>match x with
  |.d (.bl c)=>if c then ok (.d (.bl true)) else ev Γ b σ
  |_=>λ_=>none):=rfl
theorem zsP(Γ:Calls)(m:_)(o:_)(es:_)(σ:Env):ev Γ (.me m o es) σ=(bnd (ev Γ o σ) λx=>bnd (zcX x) λ_=>bnd (evs Γ es σ) λrs=>meth m x rs):=rfl
theorem znS(Γ:Calls)(tg:_)(it:_)(c:_)(el:_)(σ:Env):ev Γ (.lstO tg it c el) σ=(bnd (evI Γ it σ) λw=>bnd (za1 w.l (λx=>bnd (zan tg x (clr tg.slots σ)) λσ'=>bnd (tvs Γ c σ') λt=>if t then bnd (ev Γ el σ') λr=>bnd (zcE r) λd=>ok (some d) else ok none) w.xs) λls=>allocO ls):=rfl
theorem zlU(Γ:Calls) (σ:Env):ev Γ .stuck σ=(λ_=>none):=rfl
theorem zow(Γ:Calls)(e:_)(σ:Env):evI Γ (.rng e) σ=(bnd (ev Γ e σ) λr=>zft r):=rfl
theorem zoU:fzs []=(ok []):=rfl
theorem zmk(r:_)(rs:_):fzs (r::rs)=(bnd (fz r) λd=>bnd (fzs rs) λds=>ok (d::ds)):=rfl
theorem zpr:rds []=(ok []):=rfl
theorem zly(r:_)(rs:_):rds (r::rs)=(bnd (rd r) λd=>bnd (rds rs) λds=>ok (d::ds)):=rfl
theorem zpa(Γ:Calls)(o:_)(i:_)(e:_)(σ:Env):ex Γ (.setI o i e) σ=(bnd (ev Γ e σ) λr=>bnd (ev Γ o σ) λx=>bnd (ev Γ i σ) λy=>bnd (fz r) λd=>bnd (rd y) λy=>bnd (zdU x y d) λ_=>ok (.nx,σ)):=rfl
theorem zmv(Γ:Calls) (σ:Env):ex Γ .stuck σ=(λ_=>none):=rfl
theorem zmG(Γ:Calls)(s:_)(r:_)(σ:Env):exs Γ (s::r) σ=(bnd (ex Γ s σ) λp=>match p.1 with
  |.nx=>exs Γ r p.2
  |_=>ok p):=rfl
theorem zgN:meth .append (.loc l) [r] h=(bnd (fz r) λd h=>match h[l]? with
  |some (.lst xs)=>if decide (xs.length<big) then some (.d .non,h.set l (.lst (xs++[d]))) else none
  |_=>none) h:=rfl
theorem zg8:meth .extend (.loc l) [r] h=(bnd (rd r) λd h=>match d with
  |.lst ys=>match h[l]? with
   |some (.lst xs)=>if fit (xs.length+ys.length) then some (.d .non,h.set l (.lst (xs++ys))) else none|_=>none
  |_=>none) h:=rfl
section
variable {Γ:Calls}{σ:Env}{h:Sto}
section
variable {Q:Fl×Env->Sto->Prop}
theorem ziw:Ok (exs Γ (s::r) σ h) Q↔Ok (ex Γ s σ h) λp h1=>match p.1 with | .nx=>Ok (exs Γ r p.2 h1) Q | .ret r=>Q (.ret r,p.2) h1 | .brk=>Q (.brk,p.2) h1 | .cnt=>Q (.cnt,p.2) h1:=by
 rw[zmG,ok_bnd];constructor
 ·intro k
  refine k.mono λp h1 q=>?_;obtain⟨fl,e⟩:=p
  cases fl<;>simpa using q
 ·intro k
  refine k.mono λp h1 q=>?_;obtain⟨fl,e⟩:=p
  cases fl<;>simpa using q
theorem zpU:Ok (ex Γ (.setI o i e) σ h) Q↔Ok (ev Γ e σ h) λr h1=>Ok (ev Γ o σ h1) λx h2=>Ok (ev Γ i σ h2) λy h3=>Ok (fz r h3) λd h4=>Ok (rd y h4) λy h5=>Ok (zdU x y d h5) λ_ h6=>Q (.nx,σ) h6:=by rw[zpa];simp only[ok_bnd,ok_ok]
end
section
variable {Q:Env->Sto->Prop}
theorem znP:Ok (zaF (.name i) r σ h) Q↔Q (σ.set i (some r)) h:=by rw[zaF];exact ok_ok
theorem zre:Ok (zaF (.tup ts) r σ h) Q↔Ok (rd r h) λd h1=>∃xs,d=.tup xs/\Ok (bindTs ts xs σ h1) Q:=by
 rw[zaF,ok_bnd]
 constructor<;>intro k<;>refine k.mono λd h1 q=>?_
 ·cases d<;>first | (exact⟨_,rfl,q⟩) | (simp at q)
 ·obtain⟨xs,rfl,q⟩:=q;exact q
theorem zjn:Ok (bindTs [] [] σ h) Q↔Q σ h:=by simp only[bindTs,ok_ok]
theorem zi7:Ok (bindTs (t::ts) (x::xs) σ h) Q↔Ok (zaF t (.d x) σ h) λσ' h1=>Ok (bindTs ts xs σ' h1) Q:=by simp only[bindTs,ok_bnd]
end
theorem w_bI:Ok (zan tg (.r x) σ h) Q↔Ok (zaF tg x σ h) Q:=by rw[zan]
theorem zsh:Ok (zan (.tup [a,b]) (.en i x) σ h) Q↔Ok (zaF a (.d (.int i)) σ h) λσ' h1=>Ok (zaF b x σ' h1) Q:=by rw[zan];simp only[ok_bnd]
section
variable {Q:R->Sto->Prop}
theorem zr0:Ok (ev Γ (.var i) σ h) Q↔∃r,σ[i]?=some (some r)/\Q r h:=by
 rw[zqo]
 cases e:σ[i]? with|none=>simp|some o=>cases o<;>simp
theorem zsy:Ok (ev Γ (.neg a) σ h) Q↔Ok (ev Γ a σ h) λx h1=>∃i,x=.d (.int i)/\Q (.d (.int (-i))) h1:=by
 rw[zrp,ok_bnd]
 constructor<;>intro k<;>refine k.mono λx h1 q=>?_
 ·cases x with
  |loc l=>simp at q
  |d d=>cases d<;>first | (exact⟨_,rfl,by simpa using q⟩) | (simp at q)
 ·obtain⟨i,rfl,q⟩:=q;simpa using q
theorem zsw:Ok (ev Γ (.and a b) σ h) Q↔Ok (ev Γ a σ h) λx h1=>∃c,x=.d (.bl c)/\(c=true->Ok (ev Γ b σ h1) Q)/\(c=false->Q (.d (.bl false)) h1):=by
 rw[zqY,ok_bnd]
 constructor<;>intro k<;>refine k.mono λx h1 q=>?_
 ·cases x with
  |loc l=>simp at q
  |d d=>cases d<;>first | (rename_i c;refine⟨c,rfl,?_⟩;cases c<;>simpa using q) | (simp at q)
 ·obtain⟨c,rfl,q⟩:=q;cases c<;>simpa using q
theorem w_or:Ok (ev Γ (.or a b) σ h) Q↔Ok (ev Γ a σ h) λx h1=>∃c,x=.d (.bl c)/\(c=false->Ok (ev Γ b σ h1) Q)/\(c=true->Q (.d (.bl true)) h1):=by
 rw[zr6,ok_bnd]
 constructor<;>intro k<;>refine k.mono λx h1 q=>?_
 ·cases x with
  |loc l=>simp at q
  |d d=>cases d<;>first | (rename_i c;refine⟨c,rfl,?_⟩;cases c<;>simpa using q) | (simp at q)
 ·obtain⟨c,rfl,q⟩:=q;cases c<;>simpa using q
theorem w_me:Ok (ev Γ (.me m o es) σ h) Q↔Ok (ev Γ o σ h) λx h1=>Ok (zcX x h1) λ_ h2=>Ok (evs Γ es σ h2) λrs h3=>Ok (meth m x rs h3) Q:=by rw[zsP];simp only[ok_bnd]
end
theorem zlk:Ok (fzs [] h) Q↔Q [] h:=by rw[zoU];exact ok_ok
theorem ziz:Ok (fzs (r::rs) h) Q↔Ok (fz r h) λd h1=>Ok (fzs rs h1) λds h2=>Q (d::ds) h2:=by rw[zmk];simp only[ok_bnd,ok_ok]
theorem zj2:Ok (rds [] h) Q↔Q [] h:=by rw[zpr];exact ok_ok
theorem zi4:Ok (rds (r::rs) h) Q↔Ok (rd r h) λd h1=>Ok (rds rs h1) λds h2=>Q (d::ds) h2:=by rw[zly];simp only[ok_bnd,ok_ok]
section
variable {Q:Bool->Sto->Prop}
end
section
variable {Q:List D->Sto->Prop}
def zlC(Γ:Calls)(tg:Tg)(c:List T)(el:E)(σ:Env)(x:Ite):M (Option D):=bnd (zan tg x (clr tg.slots σ)) λσ'=>bnd (tvs Γ c σ') λt=>if t then bnd (ev Γ el σ') λr=>bnd (fz r) λd=>ok (some d) else ok none
end
theorem zok:Ok (zlC Γ tg c el σ x h) Q↔Ok (zan tg x (clr tg.slots σ) h) λσ' h1=>Ok (tvs Γ c σ' h1) λt h2=>(t=true->Ok (ev Γ el σ' h2) λr h3=>Ok (fz r h3) λd h4=>Q (some d) h4)/\(t=false->Q none h2):=by
 unfold zlC;simp only[ok_bnd]
 constructor<;>intro k<;>refine k.mono λσ' h1 q=>?_<;>refine q.mono λt h2 q=>?_<;>cases t<;>simpa using q
def zqb(Γ:Calls)(tg:Tg)(c:List T)(el:E)(σ:Env)(x:Ite):M (Option Nat):=bnd (zan tg x (clr tg.slots σ)) λσ'=>bnd (tvs Γ c σ') λt=>if t then bnd (ev Γ el σ') λr=>bnd (zcE r) λd=>ok (some d) else ok none
theorem zqi:Ok (ev Γ (.lstO tg it c el) σ h) Q↔Ok (evI Γ it σ h) λw h1=>Ok (za1 w.l (zqb Γ tg c el σ) w.xs h1) λls h2=>Q (.loc h2.length) (h2++[.ols ls]):=by rw[znS];simp only[ok_bnd,allocO,ok_some'];rfl
section
variable {Q:Wk->Sto->Prop}
theorem zmA:Ok (zaP (.d (.tup xs)) h) Q↔Q ⟨xs.map dI,none⟩ h:=by simp only[zaP,zcW,ok_bnd,ok_some',ok_rd_d,wkOf,items,ok_ok]
theorem zhA:Ok (zaP (.d (.lst xs)) h) Q↔Q ⟨xs.map dI,none⟩ h:=by simp only[zaP,zcW,ok_bnd,ok_some',ok_rd_d,wkOf,items,ok_ok]
theorem zml:Ok (zaP (.loc l) h) Q↔∃o,h[l]?=some o/\match o with
  |.lst xs=>Q ⟨xs.map dI,some l⟩ h|.fro xs=>Q ⟨xs.map dI,some l⟩ h|.ols ls=>Q ⟨ls.map λl=>.r (.loc l),some l⟩ h|.ins _ _=>False
  |.dic _=>False:=by
 simp only[zaP,zcW,ok_bnd]
 cases e:h[l]? with|none=>simp[rd,e]|some o=>cases o<;>simp[rd,e,Ob.isL,Ob.items,wkOf,items]
theorem zrU:Ok (evI Γ (.rng e) σ h) Q↔Ok (ev Γ e σ h) λr h1=>Ok (zft r h1) Q:=by rw[zow];simp only[ok_bnd]
theorem zo7:Ok (zft (.d (.int n)) h) Q↔(-(2^62)<=n/\n<=16777216)/\Q ⟨(zbg 0 n.toNat).map dI,none⟩ h:=by
 simp only[zft]
 by_cases c:-(2^62)<=n/\n<=16777216
 ·rw [if_pos (by rw[Z9];exact⟨decide_eq_true c.1,decide_eq_true c.2⟩),ok_ok]
  exact⟨λq=>⟨c,q⟩,λq=>q.2⟩
 ·rw [if_neg (by rw[Z9];exact λz=>c ⟨of_decide_eq_true z.1,of_decide_eq_true z.2⟩)]
  simp only[ok_none,false_iff];exact λz=>c z.1
end
theorem zlG:Ok (rd (.loc l) h) Q↔∃o,h[l]?=some o/\o.isL=true/\Q (.lst o.items) h:=by
 simp only[rd]
 cases h[l]? with|none=>simp|some o=>cases o<;>simp[Ob.isL]
theorem zlq:Ok (fz (.loc l) h) Q↔∃o,h[l]?=some o/\o.isL=true/\Q (.lst o.items) (h.set l (.fro o.items)):=by
 simp only[fz]
 cases h[l]? with|none=>simp|some o=>cases o<;>simp[Ob.isL]
theorem zof:Ok (zcX (.loc l) h) Q↔∃o,h[l]?=some o/\o.isL=true/\Q () h:=by
 simp only[zcX]
 cases h[l]? with|none=>simp|some o=>cases o<;>simp[Ob.isL]
theorem zlY:Ok (meth .append (.loc l) [r] h) Q↔Ok (fz r h) λd h1=>∃xs,h1[l]?=some (.lst xs)/\xs.length<big/\Q (.d .non) (h1.set l (.lst (xs++[d]))):=by
 rw[zgN,ok_bnd]
 constructor<;>intro k<;>refine k.mono λd h1 q=>?_
 ·cases e:h1[l]? with
  |none=>rw[e] at q;simp at q
  | some o=>
   rw[e] at q
   cases o with
   |fro xs=>simp at q|ins _ _=>simp at q|ols _=>simp at q|dic _=>simp at q
   |lst xs=>
    simp only at q
    by_cases c:xs.length<big
    ·rw[if_pos (decide_eq_true c)] at q;exact⟨xs,rfl,c,by simpa using q⟩
    ·rw[if_neg (by simpa using c)] at q;simp at q
 ·obtain ⟨xs,e,c,q⟩:=q
  rw[e];simp only;rw[if_pos (decide_eq_true c)]
  simpa using q
theorem zor:Ok (zdU (.loc l) (.int k) d h) Q↔∃xs,h[l]?=some (.lst xs)/\∃j,ixn xs.length k=some j/\Q () (h.set l (.lst (xs.set j d))):=by
 simp only[zdU]
 cases e:h[l]? with
 |none=>simp
 | some o=>
  cases o with
  |fro xs=>simp|ins _ _=>simp|ols _=>simp|dic _=>simp
  |lst xs=>
   simp only[Z6,Ob.lst.injEq,exists_eq_left']
   cases c:ixn xs.length k with|none=>simp|some j=>simp
theorem zrS:Ok (ex Γ .stuck σ h) Q↔False:=by rw[zmv];exact ok_none
theorem zsk:Ok (ev Γ .stuck σ h) Q↔False:=by rw[zlU];exact ok_none
theorem zlB:Ok (meth .extend (.loc l) [r] h) Q↔Ok (rd r h) λd h1=>∃ys xs,d=.lst ys/\h1[l]?=some (.lst xs)/\fit (xs.length+ys.length)=true/\Q (.d .non) (h1.set l (.lst (xs++ys))):=by
 rw[zg8,ok_bnd];refine iff_of_eq (congrArg (Ok (rd r h)) (funext λd=>funext λh1=>propext ?_))
 cases d with
 | lst ys=>
  simp only[D.lst.injEq,exists_eq_left']
  cases e:h1[l]? with
  |none=>simp
  | some o=>
   cases o with
   |fro xs=>simp|ins _ _=>simp|ols _=>simp|dic _=>simp
   |lst xs=>
    simp only[Z6,Ob.lst.injEq,exists_eq_left',and_assoc]
    cases c:fit (xs.length+ys.length)<;>simp[c]
 |_=>simp
end
class Cont(α:Type) where
 q:α->Sto->Prop
structure Ask{α:Type}(m:Option (α×Sto))[c:Cont α]:Prop where
 ok:Ok m c.q
theorem ask{α:Type}{m:Option (α×Sto)}{Q:α->Sto->Prop}(k:Ok m Q):@Ask α m ⟨Q⟩:=@Ask.mk α m ⟨Q⟩ k
theorem zp3{α:Type}{m:Option (α×Sto)}{Q:α->Sto->Prop}:Ok m Q↔@Ask α m ⟨Q⟩:=⟨λk=>@Ask.mk α m ⟨Q⟩ k,λk=>@Ask.ok α m ⟨Q⟩ k⟩
theorem zov(c:(zgV a||zgV b)=true):bop .mul (.int a) (.int b)=some (.int (a*b)):=if_pos c
theorem zkA(c:0<b):bop .mod (.int a) (.int b)=some (.int (a%b)):=if_pos (decide_eq_true c)
theorem zme(c:-(2^64)<a)(c2:a<2^64):zgV a=true:=zdA.mpr ⟨c,c2⟩
theorem zrb{n:Nat}{i:Int}(c:0<=i)(c2:i<n):ixn n i=some i.toNat:=by unfold ixn;rw[if_pos c,if_pos c2]
theorem zsd{α:Type}{xs:List α}{i:Int}{x:α}(c:0<=i)(e:xs[i.toNat]?=some x):at' xs i=some x:=by
 have:=(Z3.mp e).1
 unfold at';rw[zrb c (by omega)];exact e
theorem znG{xs:List D}{x:D}(c:0<=i)(e:xs[i.toNat]?=some x):idxD (.lst xs) (.int i)=some x:=zsd c e
theorem zis:∀l:List (List Nat),txts (l.map D.str)=some l| []=>rfl|x::l=>by simp only[ZL,txts,zis l]
theorem zmd(c:txts xs=some l)(c2:fit (l.map λy=>y.length+z.length).sum=true):tmD .join (.str z) [.lst xs]=some (.str (catS z l)):=by simp only[tmD,items,c,c2,if_true]
theorem zlN(c:y≠[])(c2:fit (x.length+1)=true)(c3:fit (splS y x.length x).length=true):splD (.str x) (.str y)=some ((splS y x.length x).map D.str):=by
 cases y with|nil=>exact absurd rfl c|cons a y=>simp only[splD,List.isEmpty_cons,c2,c3,V7,Bool.or_self];rfl
theorem zmF(c:fit xs.length=true):Ok (zaP (.d (.str xs)) h) Q↔Q ⟨(xs.map λc=>D.str [c]).map dI,none⟩ h:=by simp only[zaP,zcW,ok_bnd,ok_some',ok_rd_d,wkOf,items,c,if_true,ok_ok]
theorem zqp{α:Type}{xs:List α}{a:Int}(c:0<=a):cut xs none (some a)=xs.take a.toNat:=by
 unfold cut sIx;simp only[if_neg (show ¬a<0 by omega),Yh,Nat.sub_zero]
 rcases Nat.le_total a.toNat xs.length with k | k
 ·rw[Nat.min_eq_left k]
 ·rw[Nat.min_eq_right k,V2,Y7 k]
theorem zkM(c:0<=i)(c2:i<xs.length):∃x∈xs,idxD (.lst xs) (.int i)=some x:=by
 have hl:i.toNat<xs.length:=by omega
 exact⟨xs[i.toNat],XV hl,znG c (Z2 hl)⟩
theorem zaq:(h++(x::t))[h.length]?=some x:=by rw[Zw (ZX _),Nat.sub_self];rfl
theorem zba:(h++(x::t)).set h.length y=h++(y::t):=by rw[YB _ _ (ZX _),Nat.sub_self];rfl
theorem zhK{h t:Sto}:(h++t).take h.length=h:=by simp
theorem zaA:zaE none h h'=true:=rfl
theorem cutN{α:Type}{xs:List α}{n:Nat}:cut xs none (some (n:Int))=xs.take n:=by rw[zqp (by omega)];rfl
theorem Ok.eq{α:Type}{m:Option (α×Sto)}{a:α}{h:Sto}(k:Ok m λb h1=>b=a/\h1=h):m=some (a,h):=by obtain⟨b,h1,e,rfl,rfl⟩:=k;exact e
theorem zgO{α β:Type}{d:β->Ite}{l:Option Nat}{f:Ite->M (Option α)}{g:β->Option α}{h:Sto}{xs:List β}{Q:List α->Sto->Prop}(e:∀x∈xs,Ok (f (d x) h) λo h1=>o=g x/\h1=h)(s:zaE l h h=true)(q:Q (xs.filterMap g) h):Ok (za1 l f (xs.map d) h) Q:=⟨_,_,zeb (λx hx=>(e x hx).eq) s,q⟩
theorem R.same_self:∀x:R,x.same x=true|.d x=>D.same_refl x|.loc l=>by simp[R.same]
theorem zbX:∀fs:List (PySem.Str×R),zch fs fs=true| []=>rfl|(f,x)::r=>by simp[zch,R.same_self,zbX r]
theorem zbV:∀kvs:List (D×D),zbz kvs kvs=true| []=>rfl|p::r=>by simp[zbz,D.same_refl,zbV r]
theorem zdt(o:Ob)(h:Sto)(o1:Ob)(t:Sto):objs (o::h) (o1::t)=((match o,o1 with
   |.ins c fs,.ins c1 fs1=>c==c1&&zch fs fs1|.ols a,.ols b=>a==b|.dic a,.dic b=>zbz a b|.lst _,.lst _=>true|.lst _,.fro _=>true|.fro _,.lst _=>true|.fro _,.fro _=>true
   |_,_=>false)&&objs h t):=rfl
theorem zbm:∀{h t:Sto},objs h (h++t)=true
 | [],_=>rfl
 |o::h,t=>by
  rw[YV,zdt,zbm,Xk]
  cases o<;>simp[zbX,zbV]
theorem zlo{h:Sto}:objs h h=true:=by
 have:=zbm (h:=h) (t:=[])
 rwa [Zg] at this
theorem zcg:∀{h t:Sto} {l:Nat} {xs ys:List D},h[l]?=some (.lst xs)->objs h (h.set l (.lst ys)++t)=true
 | [],_,_,_,_,e=>by simp at e|o::h,t,0,xs,ys,e=>by simp at e;subst e;rw[List.set_cons_zero,YV,zdt,zbm,Xk]
 |o::h,t,l+1,xs,ys,e=>by
  have:=zcg (h:=h) (t:=t) (l:=l) (xs:=xs) (ys:=ys) (by simpa using e)
  rw[List.set_cons_succ,YV,zdt,this,Xk]
  cases o<;>simp[zbX,zbV]
theorem zl8{h:Sto}(e:h[l]?=some (.lst xs)):objs h (h.set l (.lst ys))=true:=by
 have:=zcg (t:=[]) (ys:=ys) e
 rwa [Zg] at this
theorem zbG{h:Sto}:(h++(x::y::t))[h.length+1]?=some y:=by rw[Zw (by omega),Y0];rfl
theorem zfd{h:Sto}:(h++(x::y::t)).set (h.length+1) z=h++(x::z::t):=by rw[YB _ _ (by omega),Y0];rfl
theorem zfx:∀ns:List Int,sumI (ns.map D.int)=some ns.sum| []=>rfl|n::r=>by simp only[ZL,sumI,zfx r,Xj]
theorem ze1{α β:Type}{f:α->β}{xs:List α}{a b:Option Int}:cut (xs.map f) a b=(cut xs a b).map f:=by unfold cut;rw[Z1,V5,List.map_drop]
theorem zcH:∀(n:Nat) (lo:Int),(zbg lo n).length=n|0,_=>rfl|n+1,lo=>by simp[zbg,zcH n]
theorem zh4:∀(n:Nat) (lo:Int) (i:Nat) (x:D),(zbg lo n)[i]?=some x->i<n/\x=.int (lo+i)
 |0,lo,i,x,e=>by simp[zbg] at e
 | n+1,lo,i,x,e=>by
  cases i with
  |zero=>simp[zbg] at e;exact⟨by omega,by rw[<-e];simp⟩
  |succ i=>
   simp only[zbg,XX] at e;obtain⟨h1,h2⟩:=zh4 n (lo+1) i x e;refine⟨by omega,?_⟩;rw[h2]
   congr 1
   push_cast
   omega
theorem zoS{P:List F}{F:IT.F}(e:P[f]?=some F)(er:zar F.np F.dfl rs=rs')(el:rs'.length=F.np)
  (k:Ok (exs (zaf P n) F.body (rs'.map some++Z0 (F.ns-F.np) none) h) λp h1=>match p.1 with
   |.ret r=>Ok (fin h F.all F.keep r h1) Q|.nx=>Ok (fin h F.all F.keep (.d .non) h1) Q
   |_=>False):Ok (zaf P (n+1) f rs h) Q:=by
 obtain⟨⟨fl,σ⟩,h1,ee,q⟩:=k;rw[zaC];simp only[e,er];rw[if_pos el,ee]
 cases fl with|ret r=>exact q|nx=>exact q|brk=>exact q.elim|cnt=>exact q.elim
theorem zsv:zar np [] rs=rs:=by
 unfold zar
 split
 ·rfl
 ·simp
theorem zpA{P:List F}{F:IT.F}(e:P[f]?=some F)(ed:F.dfl=[])(el:rs.length=F.np)
  (k:Ok (exs (zaf P n) F.body (rs.map some++Z0 (F.ns-F.np) none) h) λp h1=>match p.1 with
   |.ret r=>Ok (fin h F.all F.keep r h1) Q|.nx=>Ok (fin h F.all F.keep (.d .non) h1) Q
   |_=>False):Ok (zaf P (n+1) f rs h) Q:=zoS e (by rw[ed];exact zsv) el k
theorem zo1:Ok (fin h false k (.d x) h1) Q↔objs h h1=true/\Q (.d x) (h1.take h.length):=by
 simp only[fin,ZM,if_false]
 by_cases c:objs h h1=true
 ·rw[if_pos c];simp[fin0,c]
 ·rw[if_neg c];simp[c]
theorem zmR{xs:List D}(q:Q (.loc h.length) (h++[.lst xs])):Ok (fin h false true (.loc h.length) (h++.lst xs::t)) Q:=by simp only[fin,ZM,if_false,zbm,if_true,fin0,zaq,YH,zhK,ok_some'];exact q
end IT
namespace IT
open PySem (Str)
def wO{α:Type}(o:Option α)(Q:α->Prop):Prop:=match o with|some a=>Q a|none=>False
def wB(t:Bool)(A B:Prop):Prop:=match t with|true=>A|false=>B
def wLs(o:Ob)(Q:List D->Prop):Prop:=match o with|.lst xs=>Q xs|.fro xs=>Q xs|.ins _ _=>False|.ols _=>False|.dic _=>False
def wLw(o:Ob)(Q:List D->Prop):Prop:=match o with|.lst xs=>Q xs|.fro _=>False|.ins _ _=>False|.ols _=>False|.dic _=>False
def wDc(o:Ob)(Q:List (D×D)->Prop):Prop:=match o with|.dic kvs=>Q kvs|.lst _=>False|.fro _=>False|.ins _ _=>False|.ols _=>False
def wDw(o:Ob)(Q:List (D×D)->Prop):Prop:=match o with|.dic kvs=>Q kvs|.lst _=>False|.fro _=>False|.ins _ _=>False|.ols _=>False
def wKey(r:R)(Q:D->Prop):Prop:=match r with|.d k=>wB (za7 k) (Q k) False|.loc _=>False
def wRd(r:R)(h:Sto)(Q:D->Sto->Prop):Prop:=match r with
 |.d x=>Q x h
 |.loc l=>wO h[l]? λo=>wLs o λxs=>Q (.lst xs) h
def wFz(r:R)(h:Sto)(Q:D->Sto->Prop):Prop:=match r with
 |.d x=>Q x h
 |.loc l=>wO h[l]? λo=>wLs o λxs=>Q (.lst xs) (h.set l (.fro xs))
def wRds:List R->Sto->(List D->Sto->Prop)->Prop
 | [],h,Q=>Q [] h
 |r::rs,h,Q=>wRd r h λd h1=>wRds rs h1 λds h2=>Q (d::ds) h2
def wFzs:List R->Sto->(List D->Sto->Prop)->Prop
 | [],h,Q=>Q [] h
 |r::rs,h,Q=>wFz r h λd h1=>wFzs rs h1 λds h2=>Q (d::ds) h2
def wBl(r:R)(Q:Bool->Prop):Prop:=match r with|.d (.bl b)=>Q b|_=>False
def wInt(r:R)(Q:Int->Prop):Prop:=match r with|.d (.int b)=>Q b|_=>False
def wPl(r:R)(Q:Nat->Prop):Prop:=match r with|.loc l=>Q l|.d _=>False
def wTup(d:D)(Q:List D->Prop):Prop:=match d with|.tup xs=>Q xs|_=>False
mutual
noncomputable def wT:Tg->R->Env->Sto->(Env->Sto->Prop)->Prop
 |.name i,r,σ,h,Q=>Q (σ.set i (some r)) h
 |.tup ts,r,σ,h,Q=>wRd r h λd h1=>wTup d λxs=>wTs ts xs σ h1 Q
noncomputable def wTs:List Tg->List D->Env->Sto->(Env->Sto->Prop)->Prop
 | [],xs,σ,h,Q=>match xs with
  | []=>Q σ h|_::_=>False
 |t::ts,xs,σ,h,Q=>match xs with
  |x::xs=>wT t (.d x) σ h λσ' h1=>wTs ts xs σ' h1 Q
  | []=>False
end
def wBI(tg:Tg)(x:Ite)(σ:Env)(h:Sto)(Q:Env->Sto->Prop):Prop:=match x with
 |.r x=>wT tg x σ h Q
 |.en i x=>match tg with
  |.tup [a,b]=>wT a (.d (.int i)) σ h λσ' h1=>wT b x σ' h1 Q
  |_=>False
def wWk(r:R)(h:Sto)(Q:Wk->Sto->Prop):Prop:=match r with
 |.d (.tup xs)=>Q ⟨xs.map dI,none⟩ h|.d (.lst xs)=>Q ⟨xs.map dI,none⟩ h|.d (.str x)=>wB (fit x.length) (Q ⟨(x.map λc=>D.str [c]).map dI,none⟩ h) False|.d _=>False
 |.loc l=>wO h[l]? λo=>match o with
  |.lst xs=>Q ⟨xs.map dI,some l⟩ h|.fro xs=>Q ⟨xs.map dI,some l⟩ h|.ols ls=>Q ⟨ls.map λl=>.r (.loc l),some l⟩ h|.ins _ _=>False|.dic _=>False
def wMe(m:Me)(x:R)(rs:List R)(h:Sto)(Q:R->Sto->Prop):Prop:=match m,rs with
 |.append,[r]=>wPl x λl=>wFz r h λd h1=>wO h1[l]? λo=>wLw o λxs=>xs.length<big/\Q (.d .non) (h1.set l (.lst (xs++[d])))
 |.extend,[r]=>wPl x λl=>wRd r h λd h1=>wO (match d with | .lst ys=>some ys | _=>none) λys=>wO h1[l]? λo=>wLw o λxs=>fit (xs.length+ys.length)=true/\Q (.d .non) (h1.set l (.lst (xs++ys)))
 |m,rs=>Ok (meth m x rs h) Q
mutual
noncomputable def wE(Γ:Calls):E->Env->Sto->(R->Sto->Prop)->Prop
 |.con d,_,h,Q=>Q (.d d) h
 |.var i,σ,h,Q=>wO σ[i]? λo=>wO o λr=>Q r h
 |.bin o a b,σ,h,Q=>wE Γ a σ h λx h1=>wE Γ b σ h1 λy h2=>wRd x h2 λx h3=>wRd y h3 λy h4=>wO (bop o x y) λz=>Q (.d z) h4
 |.neg a,σ,h,Q=>wE Γ a σ h λx h1=>wInt x λi=>Q (.d (.int (-i))) h1
 |.cmp o a b,σ,h,Q=>wE Γ a σ h λx h1=>wE Γ b σ h1 λy h2=>wRd x h2 λx h3=>wRd y h3 λy h4=>wO (cop o x y) λz=>Q (.d z) h4
 |.and a b,σ,h,Q=>wE Γ a σ h λx h1=>wBl x λc=>wB c (wE Γ b σ h1 Q) (Q (.d (.bl false)) h1)
 |.or a b,σ,h,Q=>wE Γ a σ h λx h1=>wBl x λc=>wB c (Q (.d (.bl true)) h1) (wE Γ b σ h1 Q)
 |.not a,σ,h,Q=>wE Γ a σ h λx h1=>wRd x h1 λd h2=>wO (tru d) λb=>Q (.d (.bl (!b))) h2
 |.ife c a b,σ,h,Q=>wC Γ c σ h λt h1=>wB t (wE Γ a σ h1 Q) (wE Γ b σ h1 Q)
 |.tup es,σ,h,Q=>wEs Γ es σ h λrs h1=>wFzs rs h1 λds h2=>Q (.d (.tup ds)) h2
 |.lst m l,σ,h,Q=>wL Γ l σ h λxs h1=>match m with
  |true=>Q (.loc h1.length) (h1++[.lst xs])|false=>Q (.d (.lst xs)) h1
 |.idx a i,σ,h,Q=>wE Γ a σ h λx h1=>wE Γ i σ h1 λy h2=>wRd x h2 λx h3=>wRd y h3 λy h4=>wO (idxD x y) λz=>Q (.d z) h4
 |.sli a lo hi,σ,h,Q=>wE Γ a σ h λx h1=>wE Γ lo σ h1 λl h2=>wE Γ hi σ h2 λu h3=>wRd x h3 λx h4=>wRd l h4 λl h5=>wRd u h5 λu h6=>wO (sliD x l u) λz=>Q (.d z) h6
 |.call f es,σ,h,Q=>wEs Γ es σ h λrs h1=>@Ask _ (Γ f rs h1) ⟨Q⟩
 |.bi b es,σ,h,Q=>wEs Γ es σ h λrs h1=>wRds rs h1 λds h2=>wO (biD b ds) λz=>Q (.d z) h2
 |.me m o es,σ,h,Q=>wE Γ o σ h λx h1=>wPl x λl=>wO h1[l]? λo=>wLs o λ_=>wEs Γ es σ h1 λrs h3=>wMe m (.loc l) rs h3 Q
 |.glo d,_,h,Q=>Q (.d d) h
 |.isi t e,σ,h,Q=>wE Γ e σ h λr h1=>wRd r h1 λd h2=>Q (.d (.bl (isiD t d))) h2
 |.lset e,σ,h,Q=>wE Γ e σ h λr h1=>wRd r h1 λd h2=>wO (zec d) λz=>Q (.d z) h2
 |.tm m o es,σ,h,Q=>wE Γ o σ h λx h1=>wEs Γ es σ h1 λrs h2=>wRd x h2 λd h3=>wRds rs h3 λds h4=>wO (tmD m d ds) λz=>Q (.d z) h4
 |.lm m o a,σ,h,Q=>wE Γ o σ h λx h0=>wRd x h0 λ_ h1=>wE Γ a σ h1 λy h2=>wRd x h2 λx h3=>wRd y h3 λy h4=>wO (lmD m x y) λz=>Q (.d z) h4
 |.lstO tg it c el,σ,h,Q=>wI Γ it σ h λw h1=>@Ask _ (za1 w.l (zqb Γ tg c el σ) w.xs h1) ⟨λls h2=>Q (.loc h2.length) (h2++[.ols ls])⟩
 |.dnew,_,h,Q=>Q (.loc h.length) (h++[.dic []])
 |.din neg k d,σ,h,Q=>wE Γ k σ h λy h1=>wE Γ d σ h1 λx h2=>wPl x λl=>wO h2[l]? λo=>wDc o λkvs=>wKey y λk=>Q (.d (.bl (if neg then !(dGet k kvs).isSome else(dGet k kvs).isSome))) h2
 |.stuck,_,_,_=>False
noncomputable def wEs(Γ:Calls):List E->Env->Sto->(List R->Sto->Prop)->Prop
 | [],_,h,Q=>Q [] h
 |e::es,σ,h,Q=>wE Γ e σ h λr h1=>wEs Γ es σ h1 λrs h2=>Q (r::rs) h2
noncomputable def wC(Γ:Calls):T->Env->Sto->(Bool->Sto->Prop)->Prop
 |.val e,σ,h,Q=>wE Γ e σ h λr h1=>wRd r h1 λd h2=>wO (tru d) λt=>Q t h2
 |.and a b,σ,h,Q=>wC Γ a σ h λt h1=>wB t (wC Γ b σ h1 Q) (Q false h1)
 |.or a b,σ,h,Q=>wC Γ a σ h λt h1=>wB t (Q true h1) (wC Γ b σ h1 Q)
 |.not a,σ,h,Q=>wC Γ a σ h λt h1=>Q (!t) h1
noncomputable def wCs(Γ:Calls):List T->Env->Sto->(Bool->Sto->Prop)->Prop
 | [],_,h,Q=>Q true h
 |c::cs,σ,h,Q=>wC Γ c σ h λt h1=>wB t (wCs Γ cs σ h1 Q) (Q false h1)
noncomputable def wL(Γ:Calls):L->Env->Sto->(List D->Sto->Prop)->Prop
 |.disp es,σ,h,Q=>wEs Γ es σ h λrs h1=>wFzs rs h1 Q
 |.comp tg it c el,σ,h,Q=>wI Γ it σ h λw h1=>@Ask _ (za1 w.l (zlC Γ tg c el σ) w.xs h1) ⟨Q⟩
 |.of e,σ,h,Q=>wE Γ e σ h λr h1=>wRd r h1 λd h2=>wO (zdH d) λxs=>Q xs h2
 |.spl a b,σ,h,Q=>wE Γ a σ h λx h1=>wE Γ b σ h1 λy h2=>wRd x h2 λx h3=>wRd y h3 λy h4=>wO (splD x y) λxs=>Q xs h4
 |.cat a b,σ,h,Q=>wE Γ a σ h λx h1=>wE Γ b σ h1 λy h2=>wRd x h2 λx h3=>wRd y h3 λy h4=>wO (catD x y) λxs=>Q xs h4
noncomputable def wI(Γ:Calls):I->Env->Sto->(Wk->Sto->Prop)->Prop
 |.seq e,σ,h,Q=>wE Γ e σ h λr h1=>wWk r h1 Q
 |.rng e,σ,h,Q=>wE Γ e σ h λr h1=>wInt r λn=>(-(2^62)<=n/\n<=16777216)/\Q ⟨(zbg 0 n.toNat).map dI,none⟩ h1
 |.enk k e,σ,h,Q=>wE Γ e σ h λr h1=>Ok (zhp k r h1) Q
end
mutual
noncomputable def wS(Γ:Calls):S->Env->Sto->(Fl×Env->Sto->Prop)->Prop
 |.asg tg e,σ,h,Q=>wE Γ e σ h λr h1=>wT tg r σ h1 λσ' h2=>Q (.nx,σ') h2
 |.setI o i e,σ,h,Q=>wE Γ e σ h λr h1=>wE Γ o σ h1 λx h2=>wE Γ i σ h2 λy h3=>wFz r h3 λd h4=>wInt y λk=>wPl x λl=>wO h4[l]? λo=>wLw o λxs=>wO (ixn xs.length k) λj=>Q (.nx,σ) (h4.set l (.lst (xs.set j d)))
 |.exp e,σ,h,Q=>wE Γ e σ h λ_ h1=>Q (.nx,σ) h1
 |.ife c a b,σ,h,Q=>wC Γ c σ h λt h1=>wB t (wSs Γ a σ h1 Q) (wSs Γ b σ h1 Q)
 |.for tg it b,σ,h,Q=>wI Γ it σ h λw h1=>@Ask _ (loop w.l (λx σ=>bnd (zan tg x σ) λσ'=>exs Γ b σ') w.xs σ h1) ⟨Q⟩
 |.ret e,σ,h,Q=>wE Γ e σ h λr h1=>Q (.ret r,σ) h1
 |.brk,σ,h,Q=>Q (.brk,σ) h|.cnt,σ,h,Q=>Q (.cnt,σ) h
 |.setD o k e,σ,h,Q=>wE Γ e σ h λr h1=>wE Γ o σ h1 λx h2=>wE Γ k σ h2 λy h3=>wFz r h3 λd h4=>wKey y λk=>wPl x λl=>wO h4[l]? λob=>wDw ob λkvs=>kvs.length<big/\Q (.nx,σ) (h4.set l (.dic (dPut k d kvs)))
 |.unp is e,σ,h,Q=>wE Γ e σ h λr h1=>wRd r h1 λd h2=>wO (lsOf d) λxs=>wO (zdu is xs σ) λσ'=>Q (.nx,σ') h2
 |.raiN _ _,_,_,_=>False|.tryb e c _ _ m,σ,h,Q=>Ok (tryN c m (ev Γ e) (evC Γ e) σ h) Q|.stuck,_,_,_=>False
noncomputable def wSs(Γ:Calls):List S->Env->Sto->(Fl×Env->Sto->Prop)->Prop
 | [],σ,h,Q=>Q (.nx,σ) h
 |s::r,σ,h,Q=>wS Γ s σ h λp h1=>match p.1 with
  |.nx=>wSs Γ r p.2 h1 Q|.ret r=>Q (.ret r,p.2) h1|.brk=>Q (.brk,p.2) h1|.cnt=>Q (.cnt,p.2) h1
end
theorem ziM{α:Type}{o:Option α}{Q:α->Prop}:(∃a,o=some a/\Q a)=wO o Q:=by cases o<;>simp[wO]
theorem zm1:((t=true->A)/\(t=false->B))=wB t A B:=by cases t<;>simp[wB]
theorem zpG:((t=false->B)/\(t=true->A))=wB t A B:=by cases t<;>simp[wB]
section
variable {h:Sto}
theorem qRd{r:R}{Q:D->Sto->Prop}:Ok (rd r h) Q=wRd r h Q:=by
 cases r with
 |d x=>exact propext ok_rd_d
 |loc l=>
  rw[propext zlG];simp only[wRd,<-ziM]
  congr;funext o;congr;cases o<;>simp[wLs,Ob.isL,Ob.items]
theorem qFz{r:R}{Q:D->Sto->Prop}:Ok (fz r h) Q=wFz r h Q:=by
 cases r with
 |d x=>exact propext ok_fz_d
 |loc l=>
  rw[propext zlq];simp only[wFz,<-ziM]
  congr;funext o;congr;cases o<;>simp[wLs,Ob.isL,Ob.items]
theorem qRds:∀{rs:List R} {h:Sto} {Q:List D->Sto->Prop},Ok (rds rs h) Q=wRds rs h Q| [],h,Q=>propext zj2|r::rs,h,Q=>by rw[propext zi4,wRds,qRd];simp only[qRds]
theorem qFzs:∀{rs:List R} {h:Sto} {Q:List D->Sto->Prop},Ok (fzs rs h) Q=wFzs rs h Q| [],h,Q=>propext zlk|r::rs,h,Q=>by rw[propext ziz,wFzs,qFz];simp only[qFzs]
mutual
theorem qT:∀(tg:Tg) (r:R) (σ:Env) (h:Sto) (Q:Env->Sto->Prop),Ok (zaF tg r σ h) Q=wT tg r σ h Q
 |.name i,r,σ,h,Q=>by rw[propext znP,wT]
 |.tup ts,r,σ,h,Q=>by
  rw[propext zre,wT,qRd]
  congr;funext d h1
  cases d<;>simp[wTup,qTs ts]
theorem qTs:∀(ts:List Tg) (xs:List D) (σ:Env) (h:Sto) (Q:Env->Sto->Prop),Ok (bindTs ts xs σ h) Q=wTs ts xs σ h Q| [],[],σ,h,Q=>by rw[propext zjn,wTs]| [],_::_,σ,h,Q=>by simp[bindTs,wTs]|t::ts,[],σ,h,Q=>by simp[bindTs,wTs]|t::ts,x::xs,σ,h,Q=>by rw[propext zi7,qT t];simp only[qTs ts,wTs]
end
theorem qBI:Ok (zan tg x σ h) Q=wBI tg x σ h Q:=by
 cases x with
 |r x=>rw[propext w_bI,qT];rfl
 |en i x=>
  match tg with|.tup [a,b]=>rw[propext zsh,qT];simp only[qT];rfl|.name _=>simp[zan,wBI]|.tup []=>simp[zan,wBI]|.tup [_]=>simp[zan,wBI]|.tup (_::_::_::_)=>simp[zan,wBI]
theorem qWk{r:R}{Q:Wk->Sto->Prop}:Ok (zaP r h) Q=wWk r h Q:=by
 match r with
 |.d (.tup xs)=>exact propext zmA|.d (.lst xs)=>exact propext zhA
 |.d (.str x)=>
  simp only[wWk]
  cases c:fit x.length with|true=>rw[propext (zmF c)];rfl|false=>simp[zaP,zcW,wkOf,items,c,wB]
 |.d .non=>simp[zaP,zcW,wkOf,items,wWk]|.d (.bl _)=>simp[zaP,zcW,wkOf,items,wWk]|.d (.int _)=>simp[zaP,zcW,wkOf,items,wWk]|.loc l=>rw[propext zml,ziM];rfl
theorem znE{l:Nat}:(∃xs,h[l]?=some (.lst xs)/\p xs)=wO h[l]? λo=>wLw o p:=by
 cases h[l]? with|none=>simp[wO]|some o=>cases o<;>simp[wO,wLw]
theorem qMe{m:Me}{l:Nat}:Ok (meth m (.loc l) rs h) Q=wMe m (.loc l) rs h Q:=by
 unfold wMe
 split
 ·rw[propext zlY,qFz];simp only[wPl,znE]
 ·rw [propext zlB,qRd]
  simp only[wPl]
  congr;funext d h1
  cases d with|lst ys=>simp only[D.lst.injEq,exists_and_left,exists_eq_left',znE,wO]|_=>simp[wO]
 ·rfl
end
theorem zrz{x:R}{p:Int->Prop}:(∃i,x=.d (.int i)/\p i)=wInt x p:=by
 match x with|.d (.int i)=>simp[wInt]|.loc _ | .d .non | .d (.bl _) | .d (.str _) | .d (.tup _) | .d (.lst _)=>simp[wInt]
theorem zp0{x:R}{p:Bool->Prop}:(∃i,x=.d (.bl i)/\p i)=wBl x p:=by
 match x with|.d (.bl i)=>simp[wBl]|.loc _ | .d .non | .d (.int _) | .d (.str _) | .d (.tup _) | .d (.lst _)=>simp[wBl]
theorem zpW{x:R}{h:Sto}{Q:Unit->Sto->Prop}:Ok (zcX x h) Q=wPl x λl=>wO h[l]? λo=>wLs o λ_=>Q () h:=by
 cases x with
 |d x=>simp[zcX,wPl]
 |loc l=>
  rw[propext zof];simp only[wPl,<-ziM]
  congr;funext o;congr;cases o<;>simp[wLs,Ob.isL]
theorem zrm{x:R}{k:D}{d:D}{h:Sto}{Q:Unit->Sto->Prop}:Ok (zdU x k d h) Q=wInt (.d k) λk=>wPl x λl=>wO h[l]? λo=>wLw o λxs=>wO (ixn xs.length k) λj=>Q () (h.set l (.lst (xs.set j d))):=by
 cases x with
 |d x=>cases k<;>simp[zdU,wPl,wInt]
 |loc l=>
  cases k with|int k=>rw[propext zor];simp only[ziM];rw[znE];rfl|_=>simp[zdU,wInt]
theorem qOpt{α:Type}{o:Option α}{h:Sto}{Q:α->Sto->Prop}:Ok (opt o h) Q=wO o λa=>Q a h:=by rw[propext ok_opt,ziM]
theorem zoX{y:R}{h:Sto}{p:Int->Sto->Prop}:(wRd y h λd h1=>wInt (.d d) λk=>p k h1)=wInt y λk=>p k h:=by
 match y with
 |.d (.int i)=>rfl|.d .non | .d (.bl _) | .d (.str _) | .d (.tup _) | .d (.lst _)=>rfl
 |.loc l=>
  simp only[wRd,wInt]
  cases h[l]? with|none=>rfl|some o=>cases o<;>rfl
theorem qMe'{m:Me}{x:R}{Γ:Calls}{h:Sto}{W:Sto->(List R->Sto->Prop)->Prop}{Q:R->Sto->Prop}:(wPl x λl=>wO h[l]? λo=>wLs o λ_=>W h λrs h3=>Ok (meth m x rs h3) Q)=(wPl x λl=>wO h[l]? λo=>wLs o λ_=>W h λrs h3=>wMe m (.loc l) rs h3 Q):=by
 cases x with|d x=>rfl|loc l=>simp only[wPl,qMe]
theorem zim{α:Type}{m:Option (α×Sto)}{Q:α->Sto->Prop}:Ok m Q=@Ask α m ⟨Q⟩:=propext zp3
theorem qDRd{x:R}{h:Sto}{Q:List (D×D)->Sto->Prop}:Ok (dRd x h) Q=wPl x λl=>wO h[l]? λo=>wDc o λkvs=>Q kvs h:=by
 cases x with
 |d x=>simp[dRd,wPl]
 |loc l=>
  simp only[dRd,wPl]
  cases h[l]? with|none=>simp[wO]|some o=>cases o<;>simp[wO,wDc]
theorem qKRd{x:R}{h:Sto}{Q:D->Sto->Prop}:Ok (kRd x h) Q=wKey x λk=>Q k h:=by
 cases x with
 |loc l=>simp[kRd,wKey]
 |d k=>
  simp only[kRd,wKey]
  cases za7 k<;>simp[wB]
theorem zsc{x:R}{k v:D}{h:Sto}{Q:Unit->Sto->Prop}:Ok (dSet x k v h) Q=wPl x λl=>wO h[l]? λo=>wDw o λkvs=>kvs.length<big/\Q () (h.set l (.dic (dPut k v kvs))):=by
 cases x with
 |d x=>simp[dSet,wPl]
 | loc l=>
  simp only[dSet,wPl]
  cases h[l]? with
  |none=>simp[wO]
  | some o=>
   cases o with
   |dic kvs=>
    simp only[wO,wDw]
    by_cases c:kvs.length<big
    ·simp[c]
    ·simp[c]
   |_=>simp[wO,wDw]
theorem qIf{α:Type}{t:Bool}{x y:M α}{h:Sto}{Q:α->Sto->Prop}:Ok ((if t=true then x else y) h) Q=wB t (Ok (x h) Q) (Ok (y h) Q):=by cases t<;>rfl
mutual
theorem qE(Γ:Calls):∀(e:E) (σ:Env) (h:Sto) (Q:R->Sto->Prop),Ok (ev Γ e σ h) Q=wE Γ e σ h Q
 |.con d,σ,h,Q=>propext ok_ok
 |.var i,σ,h,Q=>by
  refine(propext zr0).trans ?_;show _=wO σ[i]? λo=>wO o λr=>Q r h
  cases σ[i]? with|none=>simp[wO]|some o=>cases o<;>simp[wO]
 |.bin o a b,σ,h,Q=>(propext ok_bnd).trans (by simp only[ok_bnd,qE Γ a,qE Γ b,qRd,qOpt,ok_ok];rfl)|.neg a,σ,h,Q=>by rw[propext zsy,qE Γ a];simp only[zrz];rfl|.cmp o a b,σ,h,Q=>(propext ok_bnd).trans (by simp only[ok_bnd,qE Γ a,qE Γ b,qRd,qOpt,ok_ok];rfl)|.and a b,σ,h,Q=>by rw[propext zsw,qE Γ a];simp only[qE Γ b,zp0,zm1];rfl|.or a b,σ,h,Q=>by rw[propext w_or,qE Γ a];simp only[qE Γ b,zp0,zpG];rfl|.not a,σ,h,Q=>(propext ok_bnd).trans (by simp only[ok_bnd,qE Γ a,qRd,qOpt,ok_ok];rfl)|.ife c a b,σ,h,Q=>(propext ok_bnd).trans (by simp only[qC Γ c,qIf,qE Γ a,qE Γ b];rfl)|.tup es,σ,h,Q=>(propext ok_bnd).trans (by simp only[ok_bnd,qEs Γ es,qFzs,ok_ok];rfl)|.lst true l,σ,h,Q=>(propext ok_bnd).trans (by simp only[qL Γ l,if_true,alloc,ok_some'];rfl)|.lst false l,σ,h,Q=>(propext ok_bnd).trans (by simp only[qL Γ l,ZM,if_false,ok_ok];rfl)|.idx a b,σ,h,Q=>(propext ok_bnd).trans (by simp only[ok_bnd,qE Γ a,qE Γ b,qRd,qOpt,ok_ok];rfl)|.sli a b c,σ,h,Q=>(propext ok_bnd).trans (by simp only[ok_bnd,qE Γ a,qE Γ b,qE Γ c,qRd,qOpt,ok_ok];rfl)|.call f es,σ,h,Q=>(propext ok_bnd).trans (by simp only[ok_bnd,qEs Γ es,zim,ok_ok];rfl)|.bi b es,σ,h,Q=>(propext ok_bnd).trans (by simp only[ok_bnd,qEs Γ es,qRds,qOpt,ok_ok];rfl)|.me m o es,σ,h,Q=>by rw[propext w_me,qE Γ o];simp only[zpW,qEs Γ es,qMe' (Γ:=Γ) (W:=λh Q=>wEs Γ es σ h Q)];rfl|.glo d,σ,h,Q=>propext ok_ok|.isi t e,σ,h,Q=>(propext ok_bnd).trans (by simp only[ok_bnd,qE Γ e,qRd,ok_ok];rfl)|.lset e,σ,h,Q=>(propext ok_bnd).trans (by simp only[ok_bnd,qE Γ e,qRd,qOpt,ok_ok];rfl)|.tm m o es,σ,h,Q=>(propext ok_bnd).trans (by simp only[ok_bnd,qE Γ o,qEs Γ es,qRd,qRds,qOpt,ok_ok];rfl)|.lm m o a,σ,h,Q=>(propext ok_bnd).trans (by simp only[ok_bnd,qE Γ o,qE Γ a,qRd,qOpt,ok_ok];rfl)|.lstO tg it c el,σ,h,Q=>by rw[propext zqi,qI Γ it];simp only[zim];rfl|.dnew,σ,h,Q=>by show Ok (dNew h) Q=_;simp only[dNew,ok_some'];rfl|.din neg k d,σ,h,Q=>(propext ok_bnd).trans (by simp only[ok_bnd,qE Γ k,qE Γ d,qDRd,qKRd,ok_ok];rfl)|.stuck,σ,h,Q=>by rw[propext zsk];rfl
theorem qEs(Γ:Calls):∀(es:List E) (σ:Env) (h:Sto) (Q:List R->Sto->Prop),Ok (evs Γ es σ h) Q=wEs Γ es σ h Q| [],σ,h,Q=>propext ok_ok|e::es,σ,h,Q=>(propext ok_bnd).trans (by simp only[ok_bnd,qE Γ e,qEs Γ es,ok_ok];rfl)
theorem qC(Γ:Calls):∀(e:T) (σ:Env) (h:Sto) (Q:Bool->Sto->Prop),Ok (tv Γ e σ h) Q=wC Γ e σ h Q|.val e,σ,h,Q=>(propext ok_bnd).trans (by simp only[ok_bnd,qE Γ e,qRd,qOpt,ok_ok];rfl)|.and a b,σ,h,Q=>(propext ok_bnd).trans (by simp only[qC Γ a,qIf,qC Γ b,ok_ok];rfl)|.or a b,σ,h,Q=>(propext ok_bnd).trans (by simp only[qC Γ a,qIf,qC Γ b,ok_ok];rfl)|.not a,σ,h,Q=>(propext ok_bnd).trans (by simp only[ok_bnd,qC Γ a,ok_ok];rfl)
theorem qCs(Γ:Calls):∀(es:List T) (σ:Env) (h:Sto) (Q:Bool->Sto->Prop),Ok (tvs Γ es σ h) Q=wCs Γ es σ h Q| [],σ,h,Q=>propext ok_ok|e::es,σ,h,Q=>(propext ok_bnd).trans (by simp only[qC Γ e,qIf,qCs Γ es,ok_ok];rfl)
theorem qL(Γ:Calls):∀(e:L) (σ:Env) (h:Sto) (Q:List D->Sto->Prop),Ok (evL Γ e σ h) Q=wL Γ e σ h Q|.disp es,σ,h,Q=>(propext ok_bnd).trans (by simp only[ok_bnd,qEs Γ es,qFzs,ok_ok];rfl)|.comp tg it c el,σ,h,Q=>(propext ok_bnd).trans (by simp only[ok_bnd,qI Γ it,zim,ok_ok];rfl)|.of e,σ,h,Q=>(propext ok_bnd).trans (by simp only[ok_bnd,qE Γ e,qRd,qOpt,ok_ok];rfl)|.spl a b,σ,h,Q=>(propext ok_bnd).trans (by simp only[ok_bnd,qE Γ a,qE Γ b,qRd,qOpt,ok_ok];rfl)|.cat a b,σ,h,Q=>(propext ok_bnd).trans (by simp only[ok_bnd,qE Γ a,qE Γ b,qRd,qOpt,ok_ok];rfl)
theorem qI(Γ:Calls):∀(e:I) (σ:Env) (h:Sto) (Q:Wk->Sto->Prop),Ok (evI Γ e σ h) Q=wI Γ e σ h Q
 |.seq e,σ,h,Q=>(propext ok_bnd).trans (by simp only[ok_bnd,qE Γ e,qWk,ok_ok];rfl)
 |.rng e,σ,h,Q=>by
  rw[propext zrU,qE Γ e]
  congr;funext r h1
  match r with|.d (.int n)=>exact propext zo7|.loc _ | .d .non | .d (.bl _) | .d (.str _) | .d (.tup _) | .d (.lst _)=>simp[zft,wInt]
 |.enk k e,σ,h,Q=>(propext ok_bnd).trans (by simp only[ok_bnd,qE Γ e,ok_ok];rfl)
end
mutual
theorem qS(Γ:Calls):∀(s:S) (σ:Env) (h:Sto) (Q:Fl×Env->Sto->Prop),Ok (ex Γ s σ h) Q=wS Γ s σ h Q|.asg tg e,σ,h,Q=>(propext ok_bnd).trans (by simp only[ok_bnd,qE Γ e,qT,ok_ok];rfl)|.setI o i e,σ,h,Q=>by rw[propext zpU,qE Γ e];simp only[qE Γ o,qE Γ i,qFz,qRd,zrm,zoX (p:=λk h5=>wPl _ λl=>wO h5[l]? λo=>wLw o λxs=>wO (ixn xs.length k) λj=>Q (.nx,σ) (h5.set l (.lst (xs.set j _))))];rfl|.exp e,σ,h,Q=>(propext ok_bnd).trans (by simp only[ok_bnd,qE Γ e,ok_ok];rfl)|.ife c a b,σ,h,Q=>(propext ok_bnd).trans (by simp only[qC Γ c,qIf,qSs Γ a,qSs Γ b];rfl)|.for tg it b,σ,h,Q=>(propext ok_bnd).trans (by simp only[ok_bnd,qI Γ it,zim,ok_ok];rfl)|.ret e,σ,h,Q=>(propext ok_bnd).trans (by simp only[ok_bnd,qE Γ e,ok_ok];rfl)|.brk,σ,h,Q=>propext ok_ok|.cnt,σ,h,Q=>propext ok_ok|.setD o k e,σ,h,Q=>(propext ok_bnd).trans (by simp only[ok_bnd,qE Γ e,qE Γ o,qE Γ k,qFz,qKRd,zsc,ok_ok];rfl)|.unp is e,σ,h,Q=>(propext ok_bnd).trans (by simp only[ok_bnd,qE Γ e,qRd,qOpt,ok_ok];rfl)|.raiN c e,σ,h,Q=>by rw[show ex Γ (.raiN c e) σ h=none from rfl];exact propext ok_none|.tryb e c j o m,σ,h,Q=>rfl|.stuck,σ,h,Q=>by rw[propext zrS];rfl
theorem qSs(Γ:Calls):∀(s:List S) (σ:Env) (h:Sto) (Q:Fl×Env->Sto->Prop),Ok (exs Γ s σ h) Q=wSs Γ s σ h Q
 | [],σ,h,Q=>propext ok_ok
 |s::r,σ,h,Q=>by 
  rw[propext ziw,qS Γ s];simp only[qSs Γ r]
  try congr
end
theorem st{α:Type}{o:Option α}{a:α}{Q:α->Prop}(e:o=some a)(k:Q a):wO o Q:=by rw[e];exact k
theorem br{t:Bool}{A B:Prop}(a:t=true->A)(b:t=false->B):wB t A B:=by cases t;exact b rfl;exact a rfl
theorem bf{t:Bool}{A B:Prop}(e:t=false)(k:B):wB t A B:=by rw[e];exact k
theorem bt{t:Bool}{A B:Prop}(e:t=true)(k:A):wB t A B:=by rw[e];exact k
theorem gs{Γ:Calls}{s:List S}{σ:Env}{h:Sto}{Q:Fl×Env->Sto->Prop}(k:wSs Γ s σ h Q):Ok (exs Γ s σ h) Q:=(qSs Γ s σ h Q).mpr k
theorem gb{Γ:Calls}{tg:Tg}{x:Ite}{b:List S}{σ:Env}{h:Sto}{Q:Fl×Env->Sto->Prop}(k:wBI tg x σ h λσ' h1=>wSs Γ b σ' h1 Q):Ok (bnd (zan tg x σ) (λσ'=>exs Γ b σ') h) Q:=by rw[propext ok_bnd,qBI];simp only[qSs];exact k
theorem gc{Γ:Calls}{tg:Tg}{c:List T}{el:E}{x:Ite}{σ:Env}{h:Sto}{Q:Option D->Sto->Prop}(k:wBI tg x (clr tg.slots σ) h λσ' h1=>wCs Γ c σ' h1 λt h2=>wB t (wE Γ el σ' h2 λr h3=>wFz r h3 λd h4=>Q (some d) h4) (Q none h2)):Ok (zlC Γ tg c el σ x h) Q:=by rw[propext zok,qBI];simp only[qCs,qE,qFz,zm1];exact k
theorem fd{k:Bool}{x:D}{h h1:Sto}{Q:R->Sto->Prop}(o:objs h h1=true)(q:Q (.d x) (h1.take h.length)):Ok (fin h false k (.d x) h1) Q:=zo1.mpr ⟨o,q⟩
theorem f0{k:Bool}{x:D}{h:Sto}{Q:R->Sto->Prop}(q:Q (.d x) h):Ok (fin h false k (.d x) h) Q:=zo1.mpr ⟨zlo,by rw[V2];exact q⟩
theorem fa{k:Bool}{x:D}{h t:Sto}{Q:R->Sto->Prop}(q:Q (.d x) h):Ok (fin h false k (.d x) (h++t)) Q:=zo1.mpr ⟨zbm,by rw[zhK];exact q⟩
theorem zjo{α:Type}{g:α->Ite}{l:Option Nat}{f:Ite->Env->M (Fl×Env)}{xs:List α}{Q:Fl×Env->Sto->Prop}(I:Nat->Env->Sto->Prop)
  (step:∀i x σ h,xs[i]?=some x->I i σ h->Ok (f (g x) σ h) λp h1=>p.1=.nx/\zaE l h h1=true/\I (i+1) p.2 h1)
  (fin:∀σ h,I xs.length σ h->Q (.nx,σ) h) {σ:Env} {h:Sto} (h0:I 0 σ h):Ok (loop l f (xs.map g) σ h) Q:=
 zlF I (λi x σ h e q=>(step i x σ h e q).mono λp h1 z=>by rw[z.1];exact z.2) fin h0
theorem zra{l:Option Nat}{f:Ite->Env->M (Fl×Env)}{xs:List D}{Q:Fl×Env->Sto->Prop}(I:Nat->Env->Sto->Prop)
  (step:∀i x σ h,xs[i]?=some x->I i σ h->Ok (f (dI x) σ h) λp h1=>p.1=.nx/\zaE l h h1=true/\I (i+1) p.2 h1)
  (fin:∀σ h,I xs.length σ h->Q (.nx,σ) h) {σ:Env} {h:Sto} (h0:I 0 σ h):Ok (loop l f (xs.map dI) σ h) Q:=zjo I step fin h0
def kF(h:Sto)(all keep:Bool)(Q:R->Sto->Prop)(p:Fl×Env)(h1:Sto):Prop:=match p.1 with|.ret r=>Ok (fin h all keep r h1) Q|.nx=>Ok (fin h all keep (.d .non) h1) Q|_=>False
theorem cl{P:List F}{n f:Nat}{rs:List R}{h:Sto}{Q:R->Sto->Prop}{F:IT.F}(e:P[f]?=some F)(ed:F.dfl=[])(el:rs.length=F.np)
  (k:wSs (zaf P n) F.body (rs.map some++Z0 (F.ns-F.np) none) h (kF h F.all F.keep Q)):Ok (zaf P (n+1) f rs h) Q:=zpA e ed el (gs k)
end IT
namespace IT
section
variable {Γ:Calls}{σ:Env}{h:Sto}{Q:R->Sto->Prop}
theorem zeN{l:Option Nat}{f:Ite->Env->M (Fl×Env)}{g:Ite->Env->M R}(hg:∀x σ h z,g x σ h=some z->f x σ h=none):∀(xs:List Ite) (σ:Env) (h:Sto) (z:R×Sto),zb9 l f g xs σ h=some z->loop l f xs σ h=none
 | [],σ,h,z,e=>by cases e
 | x :: xs,σ,h,z,e=>by
  unfold zb9 at e;unfold loop
  cases ef:f x σ h with
  |none=>rfl
  | some p=>
   obtain⟨⟨fl,σ1⟩,h1⟩:=p;simp only[ef] at e⊢
   cases fl with
   |nx=>
    simp only at e⊢
    split at e
    ·rename_i c;rw[if_pos c];exact zeN hg xs _ _ z e
    ·cases e
   |cnt=>
    simp only at e⊢
    split at e
    ·rename_i c;rw[if_pos c];exact zeN hg xs _ _ z e
    ·cases e
   |ret _=>cases e|brk=>cases e
theorem zfj:∀(ss:List S) (σ:Env) (h:Sto) (z:R×Sto),exXs Γ ss σ h=some z->exs Γ ss σ h=none
 | [],σ,h,z,e=>by cases e
 | s::r,σ,h,z,e=>by
  rw[exXs] at e;rw[exs]
  cases ef:ex Γ s σ h with
  |none=>simp only[bnd,ef]
  |some p=>
   obtain⟨⟨fl,σ1⟩,h1⟩:=p;simp only[ef] at e;simp only[bnd,ef]
   cases fl with|nx=>exact zfj r _ _ z e|cnt=>cases e|ret _=>cases e|brk=>cases e
end
theorem zio{P:List F}{n f:Nat}{rs:List R}{h:Sto}{z:R×Sto}(hP:P.length<=1000)(hf:f<P.length)(e:zaf P n (xof f) rs h=some z):zaf P n f rs h=none:=by
 cases n with
 |zero=>rfl
 | succ n=>
  have e0:P[f]?=some P[f]:=Z2 hf;rw[zcB hP e0] at e;rw[zaC];simp only[e0]
  split
  ·rename_i c
   rw[if_pos c] at e
   cases ex:exXs (zaf P n) P[f].body ((zar P[f].np P[f].dfl rs).map some++Z0 (P[f].ns-P[f].np) none) h with|none=>rw[ex] at e;cases e|some q=>rw[zfj _ _ _ _ ex]
  ·rfl
section
variable {Γ:Calls}{σ:Env}{h:Sto}{Q:R->Sto->Prop}
theorem x_nx{s:S}{r:List S}(k:wS Γ s σ h λp h1=>match p.1 with
  |.nx=>Ok (exXs Γ r p.2 h1) Q
  |_=>False):Ok (exXs Γ (s::r) σ h) Q:=by
 have k:=(qS Γ s σ h _).mpr k;obtain⟨⟨fl,σ1⟩,h1,e,q⟩:=k;rw[exXs];simp only[e]
 cases fl with|nx=>exact q|cnt=>exact q.elim|ret _=>exact q.elim|brk=>exact q.elim
theorem zih{s:S}{r:List S}(e:ex Γ s σ h=none)(k:Ok (exX Γ s σ h) Q):Ok (exXs Γ (s::r) σ h) Q:=by rw[exXs];simp only[e];exact k
theorem zso{tg:Tg}{it:I}{b r:List S}(k:wI Γ it σ h λw h1=>Ok (zb9 w.l (λx σ=>bnd (zan tg x σ) λσ'=>exs Γ b σ') (λx σ=>bnd (zan tg x σ) λσ'=>exXs Γ b σ') w.xs σ h1) Q):Ok (exXs Γ (.for tg it b::r) σ h) Q:=by
 have k:=(qI Γ it σ h _).mpr k;obtain⟨w,h1,e,q⟩:=k;refine zih ?_ ?_
 ·show bnd (evI Γ it σ) _ h=none
  simp only[bnd,e];obtain⟨z,h2,e2,_⟩:=q;refine zeN (λx σ h z ez=>?_) _ _ _ _ e2;simp only[bnd] at ez⊢
  split at ez
  ·exact zfj _ _ _ _ ez
  ·cases ez
 ·show Ok (bnd (evI Γ it σ) _ h) Q
  simp only[bnd,e];exact q
theorem gbX{tg:Tg}{x:Ite}{b:List S}(k:wBI tg x σ h λσ' h1=>Ok (exXs Γ b σ' h1) Q):Ok (bnd (zan tg x σ) (λσ'=>exXs Γ b σ') h) Q:=by rw[propext ok_bnd,qBI];exact k
theorem znM{tg:Tg}{x:Ite}{b:List S}(k:Ok (bnd (zan tg x σ) (λσ'=>exXs Γ b σ') h) Q):bnd (zan tg x σ) (λσ'=>exs Γ b σ') h=none:=by
 obtain⟨r,h1,e,_⟩:=k;simp only[bnd] at e⊢
 split at e
 ·exact zfj _ _ _ _ e
 ·cases e
end
theorem clX{P:List F}{n f:Nat}{rs:List R}{h:Sto}{Q:R->Sto->Prop}{F:IT.F}(hP:P.length<=1000)(e:P[f]?=some F)(ed:F.dfl=[])(el:rs.length=F.np)
  (k:Ok (exXs (zaf P n) F.body (rs.map some++Z0 (F.ns-F.np) none) h) λr h1=>Ok (finX h F.all F.keep r h1) Q):Ok (zaf P (n+1) (xof f) rs h) Q:=by
 rw[zcB hP e]
 have ef:zar F.np F.dfl rs=rs:=by
  rw[ed];unfold zar
  split
  ·rfl
  ·simp
 rw[ef,if_pos el];obtain⟨r,h1,e1,q⟩:=k;simp only[e1];exact q
end IT
namespace IT
def vc(w:Nat->List Nat)(c:Nat):List Nat:=if c<1000 then[c] else w (c-1000)
def vt(w:Nat->List Nat):List Nat->List Nat| []=>[]|c::t=>vc w c++vt w t
structure Ws(w:Nat->List Nat):Prop where
 form:∀i,∃t,w i=t++[97+i%26]
 most:∀i,(w i).length<=7
 low:∀i c,c∈w i->97<=c/\c<=122
def plT(t:List Nat):Bool:=t.all λc=>decide (c<1000)
theorem zct{w:Nat->List Nat}:∀{a b:List Nat},vt w (a++b)=vt w a++vt w b| [],b=>rfl|c::a,b=>by rw[YV,vt,vt,zct,Zn]
theorem zbp{w:Nat->List Nat}:∀{t:List Nat},plT t=true->vt w t=t| [],_=>rfl|c::t,h=>by simp only[plT,X8,Z9,decide_eq_true_eq] at h;rw[vt,zbp (t:=t) h.2,vc,if_pos h.1];rfl
mutual
noncomputable def D.vl(w:Nat->List Nat):D->D|.str t=>.str (vt w t)|.tup xs=>.tup (D.vls w xs)|.lst xs=>.lst (D.vls w xs)|.non=>.non|.bl b=>.bl b|.int i=>.int i
noncomputable def D.vls(w:Nat->List Nat):List D->List D| []=>[]|x::r=>D.vl w x::D.vls w r
end
theorem zau{w:Nat->List Nat}:∀xs:List D,D.vls w xs=xs.map (D.vl w)| []=>rfl|x::r=>by rw[D.vls,zau r,ZL]
mutual
noncomputable def plD:D->Bool|.str t=>plT t|.tup xs=>plDs xs|.lst xs=>plDs xs|.non=>true|.bl _=>true|.int _=>true
noncomputable def plDs:List D->Bool| []=>true|x::r=>plD x&&plDs r
end
mutual
theorem zpj{w:Nat->List Nat}:∀d:D,plD d=true->D.vl w d=d|.str t,h=>congrArg D.str (zbp h)|.tup xs,h=>congrArg D.tup (vls_pl xs h)|.lst xs,h=>congrArg D.lst (vls_pl xs h)|.non,_=>rfl|.bl _,_=>rfl|.int _,_=>rfl
theorem vls_pl{w:Nat->List Nat}:∀xs:List D,plDs xs=true->D.vls w xs=xs| [],_=>rfl|x::r,h=>by have h:=(Z9 _ _).mp h;rw[D.vls,zpj x h.1,vls_pl r h.2]
end
mutual
theorem zed{w:Nat->List Nat}:∀d:D,(D.vl w d).dep=d.dep|.str t=>rfl|.tup xs=>by show D.deps (D.vls w xs)+1=D.deps xs+1;rw[deps_vl xs]|.lst xs=>by show D.deps (D.vls w xs)+1=D.deps xs+1;rw[deps_vl xs]|.non=>rfl|.bl _=>rfl|.int _=>rfl
theorem deps_vl{w:Nat->List Nat}:∀xs:List D,D.deps (D.vls w xs)=D.deps xs| []=>rfl|x::r=>by show max (D.vl w x).dep (D.deps (D.vls w r))=max x.dep (D.deps r);rw[zed x,deps_vl r]
end
def zmI(t:List Nat):Option Nat:=match t.getLast? with|none=>none|some c=>some (if c<1000 then c else 97+(c-1000)%26)
def mx:List Nat->Nat| []=>0|c::t=>(if c<1000 then 1 else 7)+mx t
section
variable {w:Nat->List Nat}(hw:Ws w)
include hw
theorem zku(t:List Nat):(vt w t).getLast?=zmI t:=by
 unfold zmI
 rcases List.eq_nil_or_concat t with rfl|⟨a,c,rfl⟩
 ·rfl
 ·simp only[List.concat_eq_append,zct,List.getLast?_append,vt,Zg,List.getLast?_singleton,Option.some_or]
  unfold vc
  split
  ·rfl
  ·obtain ⟨t,e⟩:=hw.form (c-1000)
   rw[e];simp
theorem zbt:∀t:List Nat,t.length<=(vt w t).length/\(vt w t).length<=mx t
 | []=>⟨ZX _,ZX _⟩
 | c :: t=>by
  have ih:=zbt t
  have:1<=(vc w c).length/\(vc w c).length<=(if c<1000 then 1 else 7):=by
   unfold vc
   split
   ·exact⟨ZX _,ZX _⟩
   ·obtain ⟨z,e⟩:=hw.form (c-1000)
    refine⟨?_,hw.most _⟩;rw[e,ZZ];simp
  rw[vt,mx,ZZ,Zz];omega
end
theorem zjU:∀t:List Nat,mx t<=7*t.length
 | []=>ZX _
 |c::t=>by
  have ih:=zjU t;rw[mx,Zz]
  split<;>omega
def ceqS(x y:List Nat):Option Bool:=if x==y then some true else if zmI x != zmI y||decide (mx x<y.length)||decide (mx y<x.length)||(plT x&&plT y) then some false else none
theorem zla{w:Nat->List Nat}(hw:Ws w){x y:List Nat}{b:Bool}(h:ceqS x y=some b):(vt w x==vt w y)=b:=by
 unfold ceqS at h
 split at h
 ·rename_i e
  cases h;rw[ZP e,beq_self_eq_true]
 ·rename_i ne
  split at h
  ·rename_i e
   cases h;rw[beq_eq_false_iff_ne];intro q;simp only[Za,Z9,bne_iff_ne,decide_eq_true_eq] at e
   rcases e with((e | e) | e) | e
   ·exact e (by rw[<-zku hw,<-zku hw,q])
   ·have h1:=zbt hw x;have h2:=zbt hw y;rw[q] at h1;omega
   ·have h1:=zbt hw x;have h2:=zbt hw y;rw[q] at h1;omega
   ·rw [zbp e.1,zbp e.2] at q
    exact ne (by rw[q,beq_self_eq_true])
  ·cases h
mutual
noncomputable def ceq:D->D->Option Bool
 |.str a,y=>match y with | .str b=>ceqS a b | _=>none
 |.tup a,y=>match y with | .tup b=>ceqs a b | _=>none
 |.lst a,y=>match y with | .lst b=>ceqs a b | _=>none
 |.int a,y=>match y with | .int b=>some (a==b) | _=>none
 |.bl _,_=>none|.non,_=>none
noncomputable def ceqs:List D->List D->Option Bool
 | [],ys=>match ys with | []=>some true | _=>some false
 | a::r,ys=>match ys with
  |b::t=>match ceq a b with
   |some true=>ceqs r t|some false=>some false|none=>none
  | []=>some false
end
section
variable {w:Nat->List Nat}(hw:Ws w)
include hw
mutual
theorem zfL:∀(x y:D) (b:Bool),ceq x y=some b->(D.vl w x).eqb (D.vl w y)=b
 |.str a,y,b,h=>by
  cases y with|str c=>exact zla hw h|_=>cases h
 |.tup a,y,b,h=>by
  cases y with|tup c=>exact ceqs_ok a c b h|_=>cases h
 |.lst a,y,b,h=>by
  cases y with|lst c=>exact ceqs_ok a c b h|_=>cases h
 |.int a,y,b,h=>by
  cases y with|int c=>cases h;rfl|_=>cases h
 |.bl _,_,_,h=>by cases h|.non,_,_,h=>by cases h
theorem ceqs_ok:∀(x y:List D) (b:Bool),ceqs x y=some b->D.eqbs (D.vls w x) (D.vls w y)=b
 | [],y,b,h=>by
  cases y with|nil=>cases h;rfl|cons _ _=>cases h;rfl
 | a :: r,y,b,h=>by
  cases y with
  |nil=>cases h;rfl
  | cons c t=>
   show(D.eqb (D.vl w a) (D.vl w c)&&D.eqbs (D.vls w r) (D.vls w t))=b;change (match ceq a c with | some true=>ceqs r t | some false=>some false | none=>none)=some b at h
   cases e:ceq a c with
   |none=>rw[e] at h;cases h
   |some z=>
    rw[e] at h;rw[zfL a c z e]
    cases z with|true=>rw[Yl];exact ceqs_ok r t b h|false=>cases h;rfl
end
def cany(a:D):List D->Option Bool
 | []=>some false
 |y::r=>match ceq y a with
  |some true=>some true|some false=>cany a r|none=>none
theorem zgU{a:D}:∀(xs:List D) (b:Bool),cany a xs=some b->((D.vls w xs).any λy=>y.eqb (D.vl w a))=b
  | [],b,h=>by cases h;rfl
  | y :: r,b,h=>by
    show(D.eqb (D.vl w y) (D.vl w a)||(D.vls w r).any λy=>y.eqb (D.vl w a))=b;change (match ceq y a with | some true=>some true | some false=>cany a r | none=>none)=some b at h
    cases e:ceq y a with
    |none=>rw[e] at h;cases h
    | some z=>
      rw[e] at h;rw[zfL hw y a z e]
      cases z with|true=>cases h;rfl|false=>rw[WL];exact zgU r b h
def ccnt(a:D):List D->Option Nat
 | []=>some 0
 | y::r=>match ceq y a with
  |some b=>match ccnt a r with
   |some n=>some (if b then n+1 else n)|none=>none
  |none=>none
theorem zjm{a:D}:∀(xs:List D) (n:Nat),ccnt a xs=some n->((D.vls w xs).countP λy=>y.eqb (D.vl w a))=n
 | [],n,h=>by cases h;rfl
 | y :: r,n,h=>by
  change (match ceq y a with | some b=>(match ccnt a r with | some n=>some (if b then n+1 else n) | none=>none) | none=>none)=some n at h;rw[D.vls,V0]
  cases e:ceq y a with
  |none=>rw[e] at h;cases h
  | some z=>
   rw[e] at h;simp only at h;rw[zfL hw y a z e]
   cases e2:ccnt a r with
   |none=>rw[e2] at h;cases h
   |some m=>
    rw[e2] at h;rw[zjm r m e2]
    cases z<;>cases h<;>rfl
end
def low'(c:Nat):Bool:=decide (97<=c)&&decide (c<=122)
def sgn(y:List Nat):Bool:=!y.isEmpty&&y.all λc=>decide (c<1000)&&!low' c
section
variable {w:Nat->List Nat}(hw:Ws w)
include hw
theorem znt:∀(y:List Nat),(y.all λc=>decide (c<1000)&&!low' c)=true->∀t:List Nat,y.isPrefixOf (vt w t)=y.isPrefixOf t
 | [],_,t=>by simp[Xb]|d::y,h,[]=>rfl
 | d :: y,h,c::t=>by
  simp only[X8,Z9,decide_eq_true_eq,ZJ] at h;rw[vt,vc]
  split
  ·show (d==c&&y.isPrefixOf (vt w t))=(d==c&&y.isPrefixOf t)
   rw[znt y (by simpa using h.2) t]
  ·rename_i hc
   have e1:(d==c)=false:=by rw[beq_eq_false_iff_ne];omega
   show _=(d==c&&y.isPrefixOf t);rw[e1,Yv];obtain⟨z,ez⟩:=hw.form (c-1000)
   cases e:w (c-1000) with
   |nil=>rw[e] at ez;simp at ez
   | cons a r=>
    have:=hw.low (c-1000) a (by rw[e];simp)
    have e2:(d==a)=false:=by
     rw[beq_eq_false_iff_ne]
     rintro rfl
     have:=h.1.2
     simp[low'] at this;omega
    show(d==a&&y.isPrefixOf (r++vt w t))=false;rw[e2,Yv]
theorem zkU{d:Nat}{y r:List Nat}(hd:low' d=false):∀x:List Nat,(∀c∈x,97<=c/\c<=122)->fnd (d::y) (x++r)=(fnd (d::y) r).map (·+x.length)
 | [],_=>by simp
 | a::x,h=>by
  have e2:(d==a)=false:=by
   rw[beq_eq_false_iff_ne]
   rintro rfl
   have:=h d (by simp)
   simp[low'] at hd;omega
  show fnd (d::y) (a::(x++r))=_
  have e:(d::y).isPrefixOf (a::(x++r))=false:=by show(d==a&&_)=false;rw[e2,Yv]
  rw[fnd,e,zkU hd x λc hc=>h c (by simp[hc])];simp only[ZM,if_false]
  cases fnd (d::y) r with|none=>rfl|some i=>simp only[VJ,Zz];rfl
theorem zfF{y:List Nat}(hy:sgn y=true):∀t:List Nat,fnd y (vt w t)=(fnd y t).map λi=>(vt w (t.take i)).length
 | []=>by
  show(if y.isPrefixOf [] then some 0 else none)=(if y.isPrefixOf [] then some 0 else none).map _
  split<;>rfl
 | c :: t=>by
  have hy':=hy;simp only[sgn,Z9,ZJ] at hy';have ih:=zfF hy t
  by_cases hc:c<1000
  ·have e:vt w (c::t)=c::vt w t:=by rw[vt,vc,if_pos hc];rfl
   have p:=znt hw y hy'.2 (c::t);rw[e] at p⊢;rw[fnd,fnd,p,ih]
   split
   ·rfl
   ·cases fnd y t with|none=>rfl|some i=>simp only[VJ,Wy];rw[vt,vc,if_pos hc,ZZ,Y5,Nat.add_comm]
  ·cases y with
   |nil=>simp at hy'
   | cons d y=>
    have hd:=hy'.2;simp only[X8,Z9,decide_eq_true_eq,ZJ] at hd
    have e1:(d==c)=false:=by rw[beq_eq_false_iff_ne];omega
    have e2:(d::y).isPrefixOf (c::t)=false:=by show(d==c&&_)=false;rw[e1,Yv]
    rw[vt,vc,if_neg hc,zkU hw hd.1.2 _ (hw.low _),ih,fnd,e2];simp only[ZM,if_false]
    cases fnd (d::y) t with|none=>rfl|some i=>simp only[VJ,Wy];rw[vt,vc,if_neg hc,ZZ,Nat.add_comm]
theorem zdy{y:List Nat}:∀(t:List Nat) (i:Nat),fnd y t=some i->∃r,t=t.take i++(y++r)
 | [],i,h=>by
  change (if y.isPrefixOf [] then some 0 else none)=some i at h
  split at h
  ·rename_i p
   cases h;obtain⟨r,e⟩:=Zj.mp p;exact⟨r,e.symm⟩
  ·cases h
 | c :: t,i,h=>by
  rw[fnd] at h
  split at h
  ·rename_i p
   cases h;obtain⟨r,e⟩:=Zj.mp p;exact⟨r,e.symm⟩
  ·cases e:fnd y t with|none=>rw[e] at h;cases h|some j=>rw[e] at h;cases h;obtain⟨r,er⟩:=zdy t j e;exact⟨r,by rw[Wy,YV,<-er]⟩
theorem zii{y:List Nat}(hy:sgn y=true):plT y=true:=by
 simp only[sgn,Z9] at hy;unfold plT;rw[Zl] at hy⊢;intro c hc
 have:=hy.2 c hc
 simp only[Z9] at this;exact this.1
theorem zkL{y:List Nat}(hy:sgn y=true){t:List Nat}{i:Nat}(h:fnd y t=some i):fnd y (vt w t)=some (vt w (t.take i)).length/\(vt w t).take (vt w (t.take i)).length=vt w (t.take i)/\(vt w t).drop ((vt w (t.take i)).length+y.length)=vt w (t.drop (i+y.length)):=by
 obtain⟨r,er⟩:=zdy hw t i h
 have e:vt w t=vt w (t.take i)++(y++vt w r):=by
  conv=>lhs;rw[er]
  rw[zct,zct,zbp (zii hw hy)]
 have hy0:1<=y.length:=by
  cases y with|nil=>simp[sgn] at hy|cons _ _=>simp
 have hl:(t.take i).length=i:=by
  rw[Zm]
  have:=congrArg WI er
  simp only[ZZ,Zm] at this;omega
 have ed:t.drop (i+y.length)=r:=by
  conv=>lhs;rw[er]
  rw[<-Zn,show i+y.length=(t.take i++y).length by rw[ZZ,hl],Wg]
 refine⟨by rw[zfF hw hy,h];rfl,by rw[e,List.take_left],?_⟩
 rw[e,ed,<-Zn,show(vt w (t.take i)).length+y.length=(vt w (t.take i)++y).length by rw[ZZ],Wg]
theorem zna{y:List Nat}(hy:sgn y=true):∀(m n:Nat) (t:List Nat),t.length<=m->t.length<=n->splS y n (vt w t)=(splS y m t).map (vt w)
 | m,0,t,hm,hn=>by
  have:t=[]:=XW.mp (by omega)
  subst this
  cases m with
  |zero=>rfl
  |succ m=>
   have e:=zfF hw hy [];rw[splS,splS]
   cases y with|nil=>simp[sgn] at hy|cons d y=>rfl
 |0,n+1,t,hm,hn=>by
  have:t=[]:=XW.mp (by omega)
  subst this;rw[splS,splS]
  cases y with|nil=>simp[sgn] at hy|cons d y=>rfl
 | m + 1,n+1,t,hm,hn=>by
  rw[splS,splS]
  cases e:fnd y t with
  |none=>rw[zfF hw hy,e];rfl
  | some i=>
   obtain⟨e1,e2,e3⟩:=zkL hw hy e
   have hl:(t.drop (i+y.length)).length<t.length:=by
    obtain⟨r,er⟩:=zdy hw t i e
    have hy0:1<=y.length:=by
     cases y with|nil=>simp[sgn] at hy|cons _ _=>simp
    have:=congrArg WI er
    simp only[ZZ,Zm] at this;rw[YU];omega
   rw[e1];simp only;rw[e2,e3,zna hy m n _ (by omega) (by omega)];rfl
end
def cpre:List Nat->List Nat->Option Bool
 | [],_=>some true
 |d::y,t=>match t with
  | []=>some false|c::t=>if c<1000 then(if d==c then cpre y t else some false) else(if low' d then none else some false)
theorem zlc{w:Nat->List Nat}(hw:Ws w):∀(y t:List Nat) (b:Bool),cpre y t=some b->y.isPrefixOf (vt w t)=b
 | [],t,b,h=>by cases h;simp[Xb]|d::y,[],b,h=>by cases h;rfl
 | d :: y,c::t,b,h=>by
  change (if c<1000 then(if d==c then cpre y t else some false) else(if low' d then none else some false))=some b at h;rw[vt,vc]
  split at h
  ·rename_i hc
   rw[if_pos hc];show(d==c&&y.isPrefixOf (vt w t))=b
   split at h
   ·rename_i e
    rw[e,Yl];exact zlc hw y t b h
   ·rename_i e
    cases h;rw[show(d==c)=false by simpa using e];rfl
  ·rename_i hc
   rw[if_neg hc]
   split at h
   ·cases h
   ·rename_i e
    cases h;obtain⟨z,ez⟩:=hw.form (c-1000)
    cases e2:w (c-1000) with
    |nil=>rw[e2] at ez;simp at ez
    | cons a r=>
     have:=hw.low (c-1000) a (by rw[e2];simp)
     have e3:(d==a)=false:=by
      rw[beq_eq_false_iff_ne]
      rintro rfl
      simp[low'] at e;omega
     show(d==a&&y.isPrefixOf (r++vt w t))=false;rw[e3,Yv]
end IT
namespace IT
section
variable {w:Nat->List Nat}
theorem za0{a b:List D}:D.vls w (a++b)=D.vls w a++D.vls w b:=by rw[zau,zau,zau,Zp]
theorem zap{a:List D}:(D.vls w a).length=a.length:=by rw[zau,Z1]
theorem zja{a:List D}(n:Nat):D.vls w (Z0 n a).flatten=(Z0 n (D.vls w a)).flatten:=by rw[zau,zau,List.map_flatten,Wf]
theorem znq{α β:Type}{g:α->β}{xs:List α}{i:Int}:at' (xs.map g) i=(at' xs i).map g:=by
 unfold at';rw[Z1]
 cases ixn xs.length i with|none=>rfl|some j=>simp only[Zs]
theorem zhG{n m:Nat}(h:fit m=true)(l:n<=m):fit n=true:=by unfold fit at h⊢;rw[decide_eq_true_eq] at h⊢;omega
end
def cadd(x y:D):Option D:=match x with
 |.str a=>match y with
  |.str b=>if fit (7*(a.length+b.length)) then some (.str (a++b)) else none|_=>none
 |.tup a=>match y with
  |.tup b=>if fit (a.length+b.length) then some (.tup (a++b)) else none|_=>none
 |.lst a=>match y with
  |.lst b=>if fit (a.length+b.length) then some (.lst (a++b)) else none|_=>none
 |.int a=>match y with
  |.int b=>some (.int (a+b))|_=>none
 |_=>none
def cmul(x y:D):Option D:=match x with
 |.lst a=>match y with
  |.int b=>if decide (0<=b)&&decide (b<=1000)&&decide (a.length<=1000) then some (.lst (Z0 b.toNat a).flatten) else none|_=>none
 |_=>none
def cbop(o:Bo)(x y:D):Option D:=match o with|.add=>cadd x y|.mul=>cmul x y|_=>none
def cint(f:Int->Int->Bool)(x y:D):Option D:=match x with
 |.int a=>match y with
  |.int b=>some (.bl (f a b))|_=>none
 |_=>none
def cin(x y:D):Option Bool:=match y with|.tup xs=>if decide (x.dep<=60) then cany x xs else none|_=>none
def ccop(o:Co)(x y:D):Option D:=match o with
 |.eq=>if zeJ x y then(ceq x y).map D.bl else none
 |.ne=>if zeJ x y then(ceq x y).map λb=>D.bl (!b) else none
 |.lt=>cint (λa b=>decide (a<b)) x y|.le=>cint (λa b=>decide (a<=b)) x y|.gt=>cint (λa b=>decide (b<a)) x y|.isin=>(cin x y).map D.bl
 |.notin=>(cin x y).map λb=>D.bl (!b)
 |_=>none
def ctru(d:D):Option Bool:=match d with|.bl b=>some b|.str x=>if fit (7*x.length) then some (!x.isEmpty) else none|.tup xs=>some (!xs.isEmpty)|.lst xs=>some (!xs.isEmpty)|_=>none
def cidx(x y:D):Option D:=match y with
 |.int i=>match x with
  |.tup xs=>at' xs i|.lst xs=>at' xs i|_=>none
 |_=>none
def zmP(t:List Nat)(lo hi:Option Int):Option (List Nat):=if fit (7*t.length) then(match lo with
 |some k=>if hi==none&&decide (0<=k)&&decide (k.toNat<=t.length)&&plT (t.take k.toNat) then some (t.drop k.toNat) else none
 |none=>if hi==some 0 then some [] else none) else none
def csli(x l u:D):Option D:=match part l with
 | some lo=>match part u with
  |some hi=>match x with
   |.tup xs=>some (.tup (cut xs lo hi))|.lst xs=>some (.lst (cut xs lo hi))|.str t=>(zmP t lo hi).map D.str|_=>none
  |none=>none
 |none=>none
def zcN:List D->Option (List Bool)
 | []=>some []
 | d::r=>match d with
  |.bl b=>match zcN r with
   |some s=>some (b::s)|none=>none
  |_=>none
def cbi(b:Bi)(x:D):Option D:=match b with
 |.len=>match x with
  |.tup xs=>some (.int xs.length)|.lst xs=>some (.int xs.length)|.str t=>if plT t&&fit t.length then some (.int t.length) else none|_=>none
 |.tuple=>match x with
  |.tup xs=>some (.tup xs)|.lst xs=>some (.tup xs)|_=>none
 |.all=>match x with
  |.lst xs=>(zcN xs).map λbs=>.bl (bs.all id)
  |_=>none
 |.any=>match x with
  |.lst xs=>(zcN xs).map λbs=>.bl (bs.any id)
  |_=>none
 |_=>none
def ctm(m:Tm)(x y:D):Option D:=match x with
 | .str t=>match m with
  |.starts=>match y with
   |.str z=>if plT z then(cpre z t).map D.bl else none|_=>none
  | .parti=>match y with
   |.str z=>if sgn z&&fit (7*t.length) then some (.tup (match fnd z t with
    |some i=>[.str (t.take i),.str z,.str (t.drop (i+z.length))]
    |none=>[.str t,.str [],.str []])) else none
   |_=>none
  | .join=>match items y with
   |some xs=>match txts xs with
    |some l=>if plT t&&fit (l.map λy=>7*y.length+t.length).sum then some (.str (catS t l)) else none|none=>none
   |none=>none
 |_=>none
def cspl(x y:D):Option (List D):=match x with
 |.str t=>match y with
  |.str z=>if sgn z&&fit (7*t.length+1) then some ((splS z t.length t).map D.str) else none|_=>none
 |_=>none
def cded(acc:List (List Nat)):List (List Nat)->Option (List (List Nat))
 | []=>some acc
 |x::r=>match cany (.str x) (acc.map D.str) with
  |some true=>cded acc r|some false=>cded (acc++[x]) r|none=>none
def cset(d:D):Option D:=match d with
 |.tup xs=>match txts xs with
  |some ts=>if decide (ts.length<4000) then(cded [] ts).map λl=>D.int (l.length:Int) else none
  |none=>none
 |_=>none
section
variable {w:Nat->List Nat}(hw:Ws w)
include hw
theorem zf0{t:List Nat}{n:Nat}(h:fit n=true)(l:7*t.length<=n):fit (vt w t).length=true:=zhG h (by have:=(zbt hw t).2;have:=zjU t;omega)
theorem zjk{o:Bo}{x y z:D}(h:cbop o x y=some z):bop o (D.vl w x) (D.vl w y)=some (D.vl w z):=by
 cases o with
 | add=>
  cases x with
  | str a=>
   cases y with
   | str b=>
    change (if _ then _ else _)=some _ at h
    split at h
    ·rename_i e
     cases h;show(if fit ((vt w a).length+(vt w b).length) then some (D.str (vt w a++vt w b)) else none)=_
     rw[if_pos (by rw[<-ZZ,<-zct];exact zf0 hw e (by rw[ZZ];omega)),<-zct]
     rfl
    ·cases h
   |_=>cases h
  | tup a=>
   cases y with
   | tup b=>
    change (if _ then _ else _)=some _ at h
    split at h
    ·rename_i e
     cases h;show(if fit ((D.vls w a).length+(D.vls w b).length) then some (D.tup (D.vls w a++D.vls w b)) else none)=_;rw[zap,zap,if_pos e,<-za0];rfl
    ·cases h
   |_=>cases h
  | lst a=>
   cases y with
   | lst b=>
    change (if _ then _ else _)=some _ at h
    split at h
    ·rename_i e
     cases h;show(if fit ((D.vls w a).length+(D.vls w b).length) then some (D.lst (D.vls w a++D.vls w b)) else none)=_;rw[zap,zap,if_pos e,<-za0];rfl
    ·cases h
   |_=>cases h
  |int a=>
   cases y with|int b=>cases h;rfl|_=>cases h
  |_=>cases h
 | mul=>
  cases x with
  | lst a=>
   cases y with
   | int b=>
    change (if _ then _ else _)=some _ at h
    split at h
    ·rename_i e
     cases h;show(if decide (0<=b)&&decide (b<=1000)&&decide ((D.vls w a).length<=1000) then some (D.lst (Z0 b.toNat (D.vls w a)).flatten) else none)=_;rw[zap,if_pos e,<-zja];rfl
    ·cases h
   |_=>cases h
  |_=>cases h
 |_=>cases h
theorem zm7{x y:D}{b:Bool}(h:cin x y=some b):cop .isin (D.vl w x) (D.vl w y)=some (.bl b)/\cop .notin (D.vl w x) (D.vl w y)=some (.bl (!b)):=by
 cases y with
 | tup xs=>
  change (if _ then _ else _)=some _ at h
  split at h
  ·rename_i e
   have k:=zgU hw xs b h;constructor
   ·show (if decide ((D.vl w x).dep<=60) then some (D.bl ((D.vls w xs).any λy=>y.eqb (D.vl w x))) else none)=_
    rw[zed,if_pos e,k]
   ·show (if decide ((D.vl w x).dep<=60) then some (D.bl (!((D.vls w xs).any λy=>y.eqb (D.vl w x)))) else none)=_
    rw[zed,if_pos e,k]
  ·cases h
 |_=>cases h
theorem zhj{f:Int->Int->Bool}{x y z:D}(h:cint f x y=some z):∃a b:Int,D.vl w x=.int a/\D.vl w y=.int b/\D.vl w z=.bl (f a b):=by
 cases x with
 |int a=>
  cases y with|int b=>cases h;exact⟨a,b,rfl,rfl,rfl⟩|_=>cases h
 |_=>cases h
theorem zn0{o:Co}{x y z:D}(h:ccop o x y=some z):cop o (D.vl w x) (D.vl w y)=some (D.vl w z):=by
 have ok:zeJ (D.vl w x) (D.vl w y)=zeJ x y:=by unfold zeJ;rw[zed,zed]
 cases o with
 | eq=>
  change (if _ then _ else _)=some _ at h
  split at h
  ·rename_i e
   rw[ZW] at h;obtain⟨b,e1,rfl⟩:=h;show(if zeJ (D.vl w x) (D.vl w y) then some (D.bl ((D.vl w x).eqb (D.vl w y))) else none)=_;rw[ok,if_pos e,zfL hw x y b e1];rfl
  ·cases h
 | ne=>
  change (if _ then _ else _)=some _ at h
  split at h
  ·rename_i e
   rw[ZW] at h;obtain⟨b,e1,rfl⟩:=h;show(if zeJ (D.vl w x) (D.vl w y) then some (D.bl (!(D.vl w x).eqb (D.vl w y))) else none)=_;rw[ok,if_pos e,zfL hw x y b e1];rfl
  ·cases h
 |lt=>obtain⟨a,b,e1,e2,e3⟩:=zhj hw h;rw[e1,e2,e3];rfl|le=>obtain⟨a,b,e1,e2,e3⟩:=zhj hw h;rw[e1,e2,e3];rfl|gt=>obtain⟨a,b,e1,e2,e3⟩:=zhj hw h;rw[e1,e2,e3];rfl|isin=>change (cin x y).map D.bl=some z at h;rw[ZW] at h;obtain⟨b,e1,rfl⟩:=h;exact(zm7 hw e1).1|notin=>change (cin x y).map (λb=>D.bl (!b))=some z at h;rw[ZW] at h;obtain⟨b,e1,rfl⟩:=h;exact(zm7 hw e1).2|_=>cases h
theorem zqE(t:List Nat):(vt w t).isEmpty=t.isEmpty:=by
 have h:=(zbt hw t).1
 cases t with
 |nil=>rfl
 |cons c t=>
  cases e:vt w (c::t) with|nil=>rw[e] at h;simp at h|cons _ _=>rfl
theorem zke(t:List D):(D.vls w t).isEmpty=t.isEmpty:=by cases t<;>rfl
theorem znU{d:D}{b:Bool}(h:ctru d=some b):tru (D.vl w d)=some b:=by
 cases d with
 |bl c=>exact h
 | str x=>
  change (if _ then _ else _)=some _ at h
  split at h
  ·rename_i e
   show(if fit (vt w x).length then some (!(vt w x).isEmpty) else none)=_;rw[if_pos (zf0 hw e (ZX _)),zqE hw];exact h
  ·cases h
 |tup xs=>show some (!(D.vls w xs).isEmpty)=_;rw[zke hw];exact h|lst xs=>show some (!(D.vls w xs).isEmpty)=_;rw[zke hw];exact h|_=>cases h
theorem zoi{x y z:D}(h:cidx x y=some z):idxD (D.vl w x) (D.vl w y)=some (D.vl w z):=by
 cases y with
 |int i=>
  cases x with|tup xs=>show at' (D.vls w xs) i=_;rw[zau,znq,show at' xs i=some z from h];rfl|lst xs=>show at' (D.vls w xs) i=_;rw[zau,znq,show at' xs i=some z from h];rfl|_=>cases h
 |_=>cases h
theorem zl4{t r:List Nat}{lo hi:Option Int}(h:zmP t lo hi=some r):fit (vt w t).length=true/\cut (vt w t) lo hi=vt w r:=by
 unfold zmP at h
 split at h
 case isFalse=>cases h
 rename_i hf;refine⟨zf0 hw hf (ZX _),?_⟩
 cases lo with
 | some k=>
  simp only at h
  split at h
  case isFalse=>cases h
  rename_i c;simp only[Z9,decide_eq_true_eq,beq_iff_eq] at c;obtain⟨⟨⟨c1,c2⟩,c3⟩,c4⟩:=c;subst c1;cases h
  have e:vt w t=t.take k.toNat++vt w (t.drop k.toNat):=by
   conv=>lhs;rw[<-List.take_append_drop k.toNat t]
   rw[zct,zbp c4]
  have hl:(t.take k.toNat).length=k.toNat:=by rw[Zm];omega
  unfold cut;rw[e]
  have e1:sIx (t.take k.toNat++vt w (t.drop k.toNat)).length 0 (some k)=(t.take k.toNat).length:=by show(if k<0 then _ else min k.toNat _)=_;rw[if_neg (by omega),ZZ,hl];omega
  rw[e1,Wg];have e2:∀n d,sIx n d none=d:=λ_ _=>rfl
  rw[e2,Y7 (by rw[ZZ];omega)]
 |none=>
  simp only at h
  split at h
  case isFalse=>cases h
  rename_i c;rw[beq_iff_eq] at c;subst c;cases h;unfold cut
  have e2:∀n d,sIx n d (some 0)=0:=λn d=>by unfold sIx;simp
  rw[e2];simp[vt]
theorem zj8{l:D}:part (D.vl w l)=part l:=by cases l<;>rfl
theorem znR{x l u z:D}(h:csli x l u=some z):sliD (D.vl w x) (D.vl w l) (D.vl w u)=some (D.vl w z):=by
 unfold csli at h;unfold sliD;rw[zj8 hw,zj8 hw]
 cases e1:part l with
 |none=>rw[e1] at h;cases h
 | some lo=>
  rw[e1] at h
  cases e2:part u with
  |none=>rw[e2] at h;cases h
  | some hi=>
   rw[e2] at h
   cases x with|tup xs=>cases h;show some (D.tup (cut (D.vls w xs) lo hi))=some (D.tup (D.vls w (cut xs lo hi)));rw[zau,zau,ze1]|lst xs=>cases h;show some (D.lst (cut (D.vls w xs) lo hi))=some (D.lst (D.vls w (cut xs lo hi)));rw[zau,zau,ze1]|str t=>change (zmP t lo hi).map D.str=some z at h;rw[ZW] at h;obtain⟨r,e3,rfl⟩:=h;obtain⟨k1,k2⟩:=zl4 hw e3;show(if fit (vt w t).length then some (D.str (cut (vt w t) lo hi)) else none)=_;rw[if_pos k1,k2];rfl|_=>cases h
theorem zdK:∀{xs:List D} {bs:List Bool},zcN xs=some bs->zas (D.vls w xs)=some bs
 | [],bs,h=>h
 | d :: r,bs,h=>by
  cases d with
  | bl b=>
   change (match zcN r with | some s=>some (b::s) | none=>none)=some bs at h
   cases e:zcN r with|none=>rw[e] at h;cases h|some s=>rw[e] at h;show(match zas (D.vls w r) with | some s=>some (b::s) | none=>none)=_;rw[zdK e];exact h
  |_=>cases h
theorem zqP{b:Bi}{x z:D}(h:cbi b x=some z):biD b [D.vl w x]=some (D.vl w z):=by
 cases b with
 | len=>
  cases x with
  |tup xs=>cases h;show some (D.int ((D.vls w xs).length:Nat))=_;rw[zap];rfl|lst xs=>cases h;show some (D.int ((D.vls w xs).length:Nat))=_;rw[zap];rfl
  | str t=>
   change (if _ then _ else _)=some _ at h
   split at h
   ·rename_i e
    cases h;rw[Z9] at e;show(if fit (vt w t).length then some (D.int ((vt w t).length:Nat)) else none)=_;rw[zbp e.1,if_pos e.2];rfl
   ·cases h
  |_=>cases h
 |tuple=>
  cases x with|tup xs=>cases h;rfl|lst xs=>cases h;rfl|_=>cases h
 | all=>
  cases x with|lst xs=>change (zcN xs).map (λbs=>D.bl (bs.all id))=some z at h;rw[ZW] at h;obtain⟨bs,e,rfl⟩:=h;show(match zas (D.vls w xs) with | some bs=>some (D.bl (bs.all id)) | none=>none)=_;rw[zdK hw e];rfl|_=>cases h
 | any=>
  cases x with|lst xs=>change (zcN xs).map (λbs=>D.bl (bs.any id))=some z at h;rw[ZW] at h;obtain⟨bs,e,rfl⟩:=h;show(match zas (D.vls w xs) with | some bs=>some (D.bl (bs.any id)) | none=>none)=_;rw[zdK hw e];rfl|_=>cases h
 |_=>cases h
theorem zho:∀{xs:List D} {l:List (List Nat)},txts xs=some l->txts (D.vls w xs)=some (l.map (vt w))
 | [],l,h=>by cases h;rfl
 | d :: r,l,h=>by
  cases d with
  | str x=>
   change (match txts r with | some l=>some (x::l) | none=>none)=some l at h
   cases e:txts r with|none=>rw[e] at h;cases h|some s=>rw[e] at h;cases h;show(match txts (D.vls w r) with | some l=>some (vt w x::l) | none=>none)=_;rw[zho e];rfl
  |_=>cases h
theorem zlV{d:D}{xs:List D}(h:items d=some xs):items (D.vl w d)=some (D.vls w xs):=by
 cases d with|tup ys=>cases h;rfl|lst ys=>cases h;rfl|_=>cases h
theorem znp{t:List Nat}(ht:plT t=true):∀l:List (List Nat),catS t (l.map (vt w))=vt w (catS t l)
 | []=>rfl
 | x::l=>by
  have k:∀l:List (List Nat),((l.map (vt w)).map λy=>t++y).flatten=vt w (l.map λy=>t++y).flatten:=by
   intro l
   induction l with|nil=>rfl|cons y l ih=>simp only[ZL,Y3,zct,ih,zbp ht]
  show vt w x++((l.map (vt w)).map λy=>t++y).flatten=vt w (x++(l.map λy=>t++y).flatten);rw[k,zct]
theorem zm9{k:Nat}:∀l:List (List Nat),((l.map (vt w)).map λy=>y.length+k).sum<=(l.map λy=>7*y.length+k).sum
 | []=>ZX _
 |x::l=>by
  have:=zm9 (k:=k) l
  have:=(zbt hw x).2
  have:=zjU x
  simp only[ZL,Xj];omega
theorem zql{m:Tm}{x y z:D}(h:ctm m x y=some z):tmD m (D.vl w x) [D.vl w y]=some (D.vl w z):=by
 cases x with
 | str t =>
  cases m with
  | starts=>
   cases y with
   | str s=>
    change (if _ then _ else _)=some _ at h
    split at h
    ·rename_i e
     rw[ZW] at h;obtain⟨b,e1,rfl⟩:=h;show some (D.bl ((vt w s).isPrefixOf (vt w t)))=_;rw[zbp e,zlc hw s t b e1];rfl
    ·cases h
   |_=>cases h
  | parti=>
   cases y with
   | str s=>
    change (if _ then _ else _)=some _ at h
    split at h
    ·rename_i e
     rw[Z9] at e;cases h
     have hs:s.isEmpty=false:=by
      have:=e.1
      simp only[sgn,Z9,ZJ] at this;exact this.1
     show (if(vt w s).isEmpty||!fit (vt w t).length then none else some (D.tup (match fnd (vt w s) (vt w t) with
      |some i=>[.str ((vt w t).take i),.str (vt w s),.str ((vt w t).drop (i+(vt w s).length))]
      |none=>[.str (vt w t),.str [],.str []])))=_
     rw[zbp (zii hw e.1),hs,zf0 hw e.2 (ZX _),if_neg (by decide)]
     cases ef:fnd s t with|none=>rw[zfF hw e.1,ef];rfl|some i=>obtain⟨k1,k2,k3⟩:=zkL hw e.1 ef;rw[k1];simp only;rw[k2,k3];show _=some (D.tup [D.str _,D.str (vt w s),D.str _]);rw[zbp (zii hw e.1)]
    ·cases h
   |_=>cases h
  | join =>
   change (match items y with
    |some xs=>(match txts xs with
     |some l=>if plT t&&fit (l.map λy=>7*y.length+t.length).sum then some (.str (catS t l)) else none
     |none=>none)
    |none=>none)=some z at h
   cases e1:items y with
   |none=>rw[e1] at h;cases h
   | some xs=>
    rw[e1] at h;simp only at h
    cases e2:txts xs with
    |none=>rw[e2] at h;cases h
    | some l=>
     rw[e2] at h;simp only at h
     split at h
     ·rename_i e
      rw[Z9] at e;cases h
      show (match items (D.vl w y) with
       |some xs=>(match txts xs with
        |some l=>if fit (l.map λy:List Nat=>y.length+(vt w t).length).sum then some (D.str (catS (vt w t) l)) else none
        |none=>none)
       |none=>none)=_
      rw[zlV hw e1];simp only;rw[zho hw e2];simp only;rw[zbp e.1,if_pos (zhG e.2 (zm9 hw l)),znp hw e.1];rfl
     ·cases h
 |_=>cases h
theorem zjt{y:List Nat}(hy:sgn y=true):∀(n:Nat) (x:List Nat),(splS y n x).length<=n+1
 |0,x=>ZX _
 | n+1,x=>by
  rw[splS]
  split
  ·rename_i i _
   have:=zjt hy n (x.drop (i+y.length))
   rw[Zz];exact Nat.succ_le_succ this
  ·simp
theorem zpo{x y:D}{zs:List D}(h:cspl x y=some zs):splD (D.vl w x) (D.vl w y)=some (D.vls w zs):=by
 cases x with
 | str t=>
  cases y with
  | str s=>
   change (if _ then _ else _)=some _ at h
   split at h
   ·rename_i e
    rw[Z9] at e;cases h
    have hs:s.isEmpty=false:=by
     have:=e.1
     simp only[sgn,Z9,ZJ] at this;exact this.1
    show(if(vt w s).isEmpty||!fit ((vt w t).length+1)||!fit (splS (vt w s) (vt w t).length (vt w t)).length then none else some ((splS (vt w s) (vt w t).length (vt w t)).map D.str))=_;have h1:=zbt hw t;have h2:=zjU t;have f1:fit ((vt w t).length+1)=true:=zhG e.2 (by omega);rw[zbp (zii hw e.1),hs,f1,zhG f1 (zjt hw e.1 _ _),if_neg (by decide),zna hw e.1 t.length _ t (ZX _) h1.1,zau,YM,YM];rfl
   ·cases h
  |_=>cases h
 |_=>cases h
theorem zoF{x:List Nat}(acc:List (List Nat)){b:Bool}(h:cany (.str x) (acc.map D.str)=some b):(acc.map (vt w)).contains (vt w x)=b:=by
 rw[<-zgU hw _ b h,zau,YM,VQ,List.contains_eq_any_beq,VQ]
 congr 1
 funext y
 show(vt w x==vt w y)=(vt w y==vt w x);exact BEq.comm
theorem zhl:∀(ts acc l:List (List Nat)),cded acc ts=some l->(ts.map (vt w)).foldl (λacc x=>if acc.contains x then acc else acc++[x]) (acc.map (vt w))=l.map (vt w)
 | [],acc,l,h=>by cases h;rfl
 | x :: r,acc,l,h=>by
  change (match cany (.str x) (acc.map D.str) with | some true=>cded acc r | some false=>cded (acc++[x]) r | none=>none)=some l at h;rw[ZL,Yb]
  cases e:cany (.str x) (acc.map D.str) with
  |none=>rw[e] at h;cases h
  | some b=>
   rw[e] at h;rw[zoF hw acc e]
   cases b with
   |true=>exact zhl r acc l h
   |false=>
    have:=zhl r (acc++[x]) l h
    rw[Zp] at this;exact this
theorem zo5{d z:D}(h:cset d=some z):zec (D.vl w d)=some (D.vl w z):=by
 cases d with
 | tup xs=>
  change (match txts xs with | some ts=>(if decide (ts.length<4000) then(cded [] ts).map λl=>D.int l.length else none) | none=>none)=some z at h
  cases e:txts xs with
  |none=>rw[e] at h;cases h
  | some ts=>
   rw[e] at h;simp only at h
   split at h
   ·rename_i c
    rw[ZW] at h;obtain⟨l,e1,rfl⟩:=h;show(match txts (D.vls w xs) with | some ts=>(if decide (ts.length<4000) then some (D.int (ded ts).length) else none) | none=>none)=_;rw[zho hw e];simp only;have k:=zhl hw ts [] l e1;rw[Z1,if_pos c];unfold ded;rw[show(([]:List (List Nat)).map (vt w))=[] from rfl] at k;rw[k,Z1];rfl
   ·cases h
 |_=>cases h
end
end IT
namespace IT
abbrev SS:=List (List D)
abbrev zcw:=Nat->List D->Option D
def vrS(σ:Env)(ss:SS)(e:E)(v:Option D):Option D:=match e with
 | .var i=>match σ[i]? with
  |some (some r)=>match r with
   |.d x=>some x|.loc k=>(ss[k]?).map D.lst
  |_=>none
 |_=>v
def mapS(f:D->Option D):List D->Option (List D)
 | []=>some []
 | x::r=>match f x with
  |some y=>match mapS f r with
   |some s=>some (y::s)|none=>none
  |none=>none
def wkS(d:D):Option (List D):=match d with|.tup xs=>some xs|.lst xs=>some xs|.str t=>if plT t&&fit t.length then some (t.map λc=>.str [c]) else none|_=>none
def zss(x y:D):Option (List D):=match x with
 |.lst a=>match y with
  |.lst b=>if fit (a.length+b.length) then some (a++b) else none|_=>none
 |_=>none
def cntS(x y:D):Option D:=match x with
 |.tup xs=>if decide (y.dep<=60) then(ccnt y xs).map λn:Nat=>D.int (n:Int) else none
 |_=>none
mutual
noncomputable def evS(Γ:zcw):E->Env->SS->Option D
 |.con d,_,_=>if plD d then some d else none|.glo d,_,_=>if plD d then some d else none
 | .var i,σ,_=>match σ[i]? with
  |some (some r)=>match r with
   |.d x=>some x|.loc _=>none
  |_=>none
 |.bin o a b,σ,ss=>(vrS σ ss a (evS Γ a σ ss)).bind λx=>(vrS σ ss b (evS Γ b σ ss)).bind λy=>cbop o x y
 |.neg a,σ,ss=>(evS Γ a σ ss).bind λx=>match x with
  |.int i=>some (.int (-i))|_=>none
 |.cmp o a b,σ,ss=>(evS Γ a σ ss).bind λx=>(evS Γ b σ ss).bind λy=>ccop o x y
 |.and a b,σ,ss=>(evS Γ a σ ss).bind λx=>match x with
  |.bl c=>if c then evS Γ b σ ss else some (.bl false)|_=>none
 |.or a b,σ,ss=>(evS Γ a σ ss).bind λx=>match x with
  |.bl c=>if c then some (.bl true) else evS Γ b σ ss|_=>none
 |.ife c a b,σ,ss=>(tvS Γ c σ ss).bind λt=>if t then evS Γ a σ ss else evS Γ b σ ss
 |.tup es,σ,ss=>(evSs Γ es σ ss).map D.tup|.lst m l,σ,ss=>if m then none else(evLS Γ l σ ss).map D.lst
 |.idx a b,σ,ss=>(evS Γ a σ ss).bind λx=>(evS Γ b σ ss).bind λy=>cidx x y
 |.sli a b c,σ,ss=>(evS Γ a σ ss).bind λx=>(evS Γ b σ ss).bind λy=>(evS Γ c σ ss).bind λz=>csli x y z
 |.call f es,σ,ss=>(evSs Γ es σ ss).bind λds=>Γ f ds
 |.bi b es,σ,ss=>(evRs Γ es σ ss).bind λds=>match ds with
  | [x]=>cbi b x|_=>none
 |.tm m o es,σ,ss=>(evS Γ o σ ss).bind λx=>(evRs Γ es σ ss).bind λds=>match ds with
  | [y]=>ctm m x y|_=>none
 |.lm _ o a,σ,ss=>(evS Γ o σ ss).bind λx=>(evS Γ a σ ss).bind λy=>cntS x y
 |.lset e,σ,ss=>(evS Γ e σ ss).bind cset|_,_,_=>none
noncomputable def evSs(Γ:zcw):List E->Env->SS->Option (List D)
 | [],_,_=>some []
 |e::es,σ,ss=>(evS Γ e σ ss).bind λd=>(evSs Γ es σ ss).bind λds=>some (d::ds)
noncomputable def evRs(Γ:zcw):List E->Env->SS->Option (List D)
 | [],_,_=>some []
 |e::es,σ,ss=>(vrS σ ss e (evS Γ e σ ss)).bind λd=>(evRs Γ es σ ss).bind λds=>some (d::ds)
noncomputable def tvS(Γ:zcw):T->Env->SS->Option Bool
 |.val e,σ,ss=>(evS Γ e σ ss).bind ctru
 |.and a b,σ,ss=>(tvS Γ a σ ss).bind λt=>if t then tvS Γ b σ ss else some false
 |.or a b,σ,ss=>(tvS Γ a σ ss).bind λt=>if t then some true else tvS Γ b σ ss
 |.not a,σ,ss=>(tvS Γ a σ ss).bind λt=>some (!t)
noncomputable def evLS(Γ:zcw):L->Env->SS->Option (List D)
 |.disp es,σ,ss=>evSs Γ es σ ss
 |.comp tg it c el,σ,ss=>match tg with
  |.name i=>(evIS Γ it σ ss).bind λxs=>if c.isEmpty then mapS (λx=>evS Γ el ((σ.set i none).set i (some (.d x))) ss) xs else none
  |_=>none
 |.of e,σ,ss=>(evS Γ e σ ss).bind wkS
 |.spl a b,σ,ss=>(evS Γ a σ ss).bind λx=>(evS Γ b σ ss).bind λy=>cspl x y
 |.cat a b,σ,ss=>(vrS σ ss a (evS Γ a σ ss)).bind λx=>(vrS σ ss b (evS Γ b σ ss)).bind λy=>zss x y
noncomputable def evIS(Γ:zcw):I->Env->SS->Option (List D)|.seq e,σ,ss=>(evS Γ e σ ss).bind wkS|_,_,_=>none
end
def sR(w:Nat->List Nat)(n:Nat):R->R|.d x=>.d (D.vl w x)|.loc k=>.loc (n+k)
def sE(w:Nat->List Nat)(n:Nat)(σ:Env):Env:=σ.map (Option.map (sR w n))
def sO(w:Nat->List Nat)(xs:List D):Ob:=.lst (D.vls w xs)
def sS(w:Nat->List Nat)(h:Sto)(ss:SS):Sto:=h++ss.map (sO w)
def zgP(w:Nat->List Nat)(Γs:zcw)(Γ:Calls):Prop:=∀f ds d,Γs f ds=some d->∀h,Γ f ((D.vls w ds).map R.d) h=some (.d (D.vl w d),h)
theorem bind_some{α β:Type}{o:Option α}{f:α->Option β}{b:β}(h:o.bind f=some b):∃a,o=some a/\f a=some b:=Option.bind_eq_some_iff.mp h
section
variable {w:Nat->List Nat}(hw:Ws w){Γs:zcw}{Γ:Calls}(hΓ:zgP w Γs Γ){h:Sto}
theorem zh8{n:Nat}{σ:Env}{i:Nat}:(sE w n σ)[i]?=(σ[i]?).map (Option.map (sR w n)):=by unfold sE;rw[Zs]
theorem zf3{n:Nat}{σ:Env}{i:Nat}{o:Option R}:(sE w n σ).set i (o.map (sR w n))=sE w n (σ.set i o):=by unfold sE;rw[VP]
theorem zhT{ss:SS}{k:Nat}:(sS w h ss)[h.length+k]?=(ss[k]?).map (sO w):=by unfold sS;rw[Zw (Xq _ _),Y0,Zs]
def RdS(w:Nat->List Nat)(m:M R)(h:Sto)(d:D):Prop:=∃r,m h=some (r,h)/\rd r h=some (D.vl w d,h)
theorem RdS.of{m:M R}{h:Sto}{d:D}(e:m h=some (.d (D.vl w d),h)):RdS w m h d:=⟨_,e,rfl⟩
theorem zem{σ:Env}{ss:SS}{e:E}{v:Option D}{d:D}(hv:v=some d->ev Γ e (sE w h.length σ) (sS w h ss)=some (.d (D.vl w d),sS w h ss))(q:vrS σ ss e v=some d):RdS w (ev Γ e (sE w h.length σ)) (sS w h ss) d:=by
 unfold vrS at q
 split at q
 ·rename_i i
  split at q
  ·rename_i r er
   have e1:ev Γ (.var i) (sE w h.length σ) (sS w h ss)=some (sR w h.length r,sS w h ss):=by show(match (sE w h.length σ)[i]? with | some (some r)=>some (r,sS w h ss) | _=>none)=_;rw[zh8,er];rfl
   cases r with|d x=>cases q;exact .of e1|loc k=>refine⟨_,e1,?_⟩;simp only at q;rw[ZW] at q;obtain⟨xs,e2,rfl⟩:=q;show(match (sS w h ss)[h.length+k]? with | some o=>if o.isL then some (D.lst o.items,sS w h ss) else none | none=>none)=_;rw[zhT,e2];rfl
  ·cases q
 ·exact .of (hv q)
theorem zkb{a b:M R}{g:D->D->Option D}{x y z:D}{h:Sto}(h1:RdS w a h x)(h2:RdS w b h y)(e:g (D.vl w x) (D.vl w y)=some (D.vl w z)):(bnd a λx=>bnd b λy=>bnd (rd x) λx=>bnd (rd y) λy=>bnd (opt (g x y)) λz=>ok (R.d z)) h=some (R.d (D.vl w z),h):=by obtain⟨r1,a1,a2⟩:=h1;obtain⟨r2,b1,b2⟩:=h2;simp only[bnd,a1,b1,a2,b2,e,opt,ok]
theorem zob(h:Sto):∀xs:List D,fzs (xs.map R.d) h=some (xs,h)| []=>rfl|x::r=>by show bnd (fz (.d x)) (λd=>bnd (fzs (r.map R.d)) λds=>ok (d::ds)) h=_;simp only[bnd,fz,ok,zob h r]
theorem zkv{f:Ite->M (Option D)}{g:D->Option D}{h:Sto}(k:∀x y,g x=some y->f (dI (D.vl w x)) h=some (some (D.vl w y),h)):∀(xs ys:List D),mapS g xs=some ys->za1 none f ((D.vls w xs).map dI) h=some (D.vls w ys,h)
 | [],ys,e=>by cases e;rfl
 | x :: r,ys,e=>by
  change (match g x with | some y=>(match mapS g r with | some s=>some (y::s) | none=>none) | none=>none)=some ys at e
  cases e1:g x with
  |none=>rw[e1] at e;cases e
  | some y=>
   rw[e1] at e;simp only at e
   cases e2:mapS g r with|none=>rw[e2] at e;cases e|some s=>rw[e2] at e;cases e;have e3:=zkv k r s e2;have e4:=k x y e1;show za1 none f (dI (D.vl w x)::(D.vls w r).map dI) h=some (D.vl w y::D.vls w s,h);unfold za1;simp only[e4,bnd,e3,ok];rfl
theorem zmU{t:List Nat}(hp:plT t=true):D.vls w (t.map λc=>D.str [c])=t.map λc=>D.str [c]:=by
 rw[zau,YM];refine Wz λc hc=>?_;show D.str (vt w [c])=_
 rw[zbp (by simp only[plT,X8,List.all_nil,Xk];exact Zl.mp hp c hc)]
theorem znw{d:D}{xs:List D}(e:wkS d=some xs):zaP (.d (D.vl w d)) h=some (⟨(D.vls w xs).map dI,none⟩,h)/\zdH (D.vl w d)=some (D.vls w xs):=by
 cases d with
 |tup ys=>cases e;exact⟨rfl,rfl⟩|lst ys=>cases e;exact⟨rfl,rfl⟩
 | str t=>
  change (if _ then _ else _)=some _ at e
  split at e
  ·rename_i c
   rw[Z9] at c;cases e;rw[zmU c.1];constructor
   ·show (if fit (vt w t).length then ok (⟨((vt w t).map λc=>D.str [c]).map dI,none⟩:Wk) else λ_=>none) h=_
    rw[zbp c.1,if_pos c.2];rfl
   ·show (if fit (vt w t).length then some ((vt w t).map λc=>D.str [c]) else none)=_
    rw[zbp c.1,if_pos c.2]
  ·cases e
 |_=>cases e
include hw hΓ
mutual
theorem zao:∀(e:E) (σ:Env) (ss:SS) (d:D),evS Γs e σ ss=some d->ev Γ e (sE w h.length σ) (sS w h ss)=some (.d (D.vl w d),sS w h ss)
 |.con c,σ,ss,d,q=>by
  change (if plD c then some c else none)=some d at q
  split at q
  ·rename_i p;cases q;show some (R.d c,_)=_;rw[zpj c p]
  ·cases q
 |.glo c,σ,ss,d,q=>by
  change (if plD c then some c else none)=some d at q
  split at q
  ·rename_i p;cases q;show some (R.d c,_)=_;rw[zpj c p]
  ·cases q
 | .var i,σ,ss,d,q=>by
  change (match σ[i]? with | some (some r)=>(match r with | .d x=>some x | .loc _=>none) | _=>none)=some d at q
  split at q
  ·rename_i r er
   cases r with|d x=>cases q;show(match (sE w h.length σ)[i]? with | some (some r)=>some (r,sS w h ss) | _=>none)=_;rw[zh8,er];rfl|loc k=>cases q
  ·cases q
 |.bin o a b,σ,ss,d,q=>by obtain⟨x,e1,q⟩:=bind_some q;obtain⟨y,e2,q⟩:=bind_some q;exact zkb (zem (λe=>zao a σ ss x e) e1) (zem (λe=>zao b σ ss y e) e2) (zjk hw q)
 | .neg a,σ,ss,d,q=>by
  obtain⟨x,e1,q⟩:=bind_some q
  cases x with|int i=>cases q;show bnd (ev Γ a _) _ _=_;simp only[bnd,zao a σ ss _ e1];rfl|_=>cases q
 |.cmp o a b,σ,ss,d,q=>by obtain⟨x,e1,q⟩:=bind_some q;obtain⟨y,e2,q⟩:=bind_some q;exact zkb (.of (zao a σ ss x e1)) (.of (zao b σ ss y e2)) (zn0 hw q)
 | .and a b,σ,ss,d,q=>by
  obtain⟨x,e1,q⟩:=bind_some q;show bnd (ev Γ a _) _ _=_
  cases x with
  |bl c=>
   simp only[bnd,zao a σ ss _ e1]
   cases c with|true=>exact zao b σ ss d q|false=>cases q;rfl
  |_=>cases q
 | .or a b,σ,ss,d,q=>by
  obtain⟨x,e1,q⟩:=bind_some q;show bnd (ev Γ a _) _ _=_
  cases x with
  |bl c=>
   simp only[bnd,zao a σ ss _ e1]
   cases c with|true=>cases q;rfl|false=>exact zao b σ ss d q
  |_=>cases q
 |.ife c a b,σ,ss,d,q=>by
  obtain⟨t,e1,q⟩:=bind_some q;show bnd (tv Γ c _) _ _=_;simp only[bnd,tvS_ok c σ ss t e1]
  cases t with|true=>exact zao a σ ss d q|false=>exact zao b σ ss d q
 |.tup es,σ,ss,d,q=>by obtain⟨ds,e1,rfl⟩:=ZW.mp q;show bnd (evs Γ es _) _ _=_;simp only[bnd,evSs_ok es σ ss ds e1,zob,ok];rfl
 | .lst m l,σ,ss,d,q=>by
  cases m with|true=>cases q|false=>obtain⟨xs,e1,rfl⟩:=ZW.mp q;show bnd (evL Γ l _) _ _=_;simp only[bnd,evLS_ok l σ ss xs e1];rfl
 |.idx a b,σ,ss,d,q=>by obtain⟨x,e1,q⟩:=bind_some q;obtain⟨y,e2,q⟩:=bind_some q;exact zkb (.of (zao a σ ss x e1)) (.of (zao b σ ss y e2)) (zoi hw q)|.sli a b c,σ,ss,d,q=>by obtain⟨x,e1,q⟩:=bind_some q;obtain⟨y,e2,q⟩:=bind_some q;obtain⟨z,e3,q⟩:=bind_some q;show bnd (ev Γ a _) _ _=_;simp only[bnd,zao a σ ss _ e1,zao b σ ss _ e2,zao c σ ss _ e3,rd,ok,znR hw q,opt]|.call f es,σ,ss,d,q=>by obtain⟨ds,e1,q⟩:=bind_some q;show bnd (evs Γ es _) _ _=_;simp only[bnd,evSs_ok es σ ss ds e1];exact hΓ f ds d q _
 | .bi b es,σ,ss,d,q=>by
  obtain⟨ds,e1,q⟩:=bind_some q;obtain⟨rs,k1,k2⟩:=evRs_ok es σ ss ds e1;show bnd (evs Γ es _) _ _=_;simp only[bnd,k1,k2]
  match ds,q with| [x],q=>have k:=zqP hw (w:=w) q;rw[show biD b (D.vls w [x])=some (D.vl w d) from k];rfl
 | .tm m o es,σ,ss,d,q=>by
  obtain⟨x,e0,q⟩:=bind_some q;obtain⟨ds,e1,q⟩:=bind_some q;obtain⟨rs,k1,k2⟩:=evRs_ok es σ ss ds e1;show bnd (ev Γ o _) _ _=_;simp only[bnd,zao o σ ss _ e0,k1,k2,rd,ok]
  match ds,q with| [y],q=>have k:=zql hw (w:=w) q;rw[show tmD m (D.vl w x) (D.vls w [y])=some (D.vl w d) from k];rfl
 | .lm m o a,σ,ss,d,q=>by
  cases m;obtain⟨x,e1,q⟩:=bind_some q;obtain⟨y,e2,q⟩:=bind_some q;show bnd (ev Γ o _) _ _=_;simp only[bnd,zao o σ ss _ e1,zao a σ ss _ e2,rd,ok]
  cases x with
  | tup xs=>
   change (if decide (y.dep<=60) then(ccnt y xs).map λn:Nat=>D.int (n:Int) else none)=some d at q
   split at q
   ·rename_i c
    obtain⟨n,e3,rfl⟩:=ZW.mp q
    have k:lmD .countT (D.vl w (D.tup xs)) (D.vl w y)=some (D.int n):=by show(if decide ((D.vl w y).dep<=60) then some (D.int ((D.vls w xs).countP λz=>z.eqb (D.vl w y))) else none)=_;rw[zed,if_pos c,zjm hw xs n e3]
    rw[k];rfl
   ·cases q
  |_=>cases q
 |.lset e,σ,ss,d,q=>by obtain⟨x,e1,q⟩:=bind_some q;show bnd (ev Γ e _) _ _=_;simp only[bnd,zao e σ ss _ e1,rd,ok,zo5 hw q,opt]|.not _,_,_,_,q=>by cases q|.isi _ _,_,_,_,q=>by cases q|.me _ _ _,_,_,_,q=>by cases q|.lstO _ _ _ _,_,_,_,q=>by cases q|.dnew,_,_,_,q=>by cases q|.din _ _ _,_,_,_,q=>by cases q|.stuck,_,_,_,q=>by cases q
theorem evSs_ok:∀(es:List E) (σ:Env) (ss:SS) (ds:List D),evSs Γs es σ ss=some ds->evs Γ es (sE w h.length σ) (sS w h ss)=some ((D.vls w ds).map R.d,sS w h ss)| [],σ,ss,ds,q=>by cases q;rfl|e::es,σ,ss,ds,q=>by obtain⟨x,e1,q⟩:=bind_some q;obtain⟨xs,e2,q⟩:=bind_some q;cases q;show bnd (ev Γ e _) _ _=_;simp only[bnd,zao e σ ss _ e1,evSs_ok es σ ss _ e2];rfl
theorem evRs_ok:∀(es:List E) (σ:Env) (ss:SS) (ds:List D),evRs Γs es σ ss=some ds->∃rs,evs Γ es (sE w h.length σ) (sS w h ss)=some (rs,sS w h ss)/\rds rs (sS w h ss)=some (D.vls w ds,sS w h ss)
 | [],σ,ss,ds,q=>by cases q;exact⟨[],rfl,rfl⟩
 | e::es,σ,ss,ds,q=>by
  obtain⟨x,e1,q⟩:=bind_some q;obtain⟨xs,e2,q⟩:=bind_some q;cases q;obtain⟨r,a1,a2⟩:=zem (λe'=>zao e σ ss x e') e1;obtain⟨rs,b1,b2⟩:=evRs_ok es σ ss xs e2;refine⟨r::rs,?_,?_⟩
  ·show bnd (ev Γ e _) _ _=_
   simp only[bnd,a1,b1];rfl
  ·show bnd (rd r) _ _=_
   simp only[bnd,a2,b2];rfl
theorem tvS_ok:∀(c:T) (σ:Env) (ss:SS) (t:Bool),tvS Γs c σ ss=some t->tv Γ c (sE w h.length σ) (sS w h ss)=some (t,sS w h ss)
 |.val e,σ,ss,t,q=>by obtain⟨x,e1,q⟩:=bind_some q;show bnd (ev Γ e _) _ _=_;simp only[bnd,zao e σ ss _ e1,rd,ok,znU hw q,opt]
 |.and a b,σ,ss,t,q=>by
  obtain⟨x,e1,q⟩:=bind_some q;show bnd (tv Γ a _) _ _=_;simp only[bnd,tvS_ok a σ ss _ e1]
  cases x with|true=>exact tvS_ok b σ ss t q|false=>cases q;rfl
 |.or a b,σ,ss,t,q=>by
  obtain⟨x,e1,q⟩:=bind_some q;show bnd (tv Γ a _) _ _=_;simp only[bnd,tvS_ok a σ ss _ e1]
  cases x with|true=>cases q;rfl|false=>exact tvS_ok b σ ss t q
 |.not a,σ,ss,t,q=>by obtain⟨x,e1,q⟩:=bind_some q;cases q;show bnd (tv Γ a _) _ _=_;simp only[bnd,tvS_ok a σ ss _ e1];rfl
theorem evLS_ok:∀(l:L) (σ:Env) (ss:SS) (xs:List D),evLS Γs l σ ss=some xs->evL Γ l (sE w h.length σ) (sS w h ss)=some (D.vls w xs,sS w h ss)
 |.disp es,σ,ss,xs,q=>by show bnd (evs Γ es _) _ _=_;simp only[bnd,evSs_ok es σ ss _ q,zob]
 | .comp tg it c el,σ,ss,xs,q=>by
  cases tg with
  |tup _=>cases q
  | name i=>
   obtain⟨ys,e1,q⟩:=bind_some q;have q:(if c.isEmpty=true then mapS (λx=>evS Γs el ((σ.set i none).set i (some (.d x))) ss) ys else none)=some xs:=q
   split at q
   ·rename_i hc
    have hc:c=[]:=VW.mp hc;subst hc;show bnd (evI Γ it _) _ _=_;simp only[bnd,evIS_ok it σ ss ys e1];refine zkv (λx y e=>?_) ys xs q;have k:=zao el ((σ.set i none).set i (some (.d x))) ss y e;rw[<-zf3,<-zf3] at k;show bnd (ev Γ el (((sE w h.length σ).set i none).set i (some (R.d (D.vl w x))))) _ (sS w h ss)=_;unfold bnd;rw[show ev Γ el (((sE w h.length σ).set i none).set i (some (R.d (D.vl w x)))) (sS w h ss)=_ from k];rfl
   ·cases q
 |.of e,σ,ss,xs,q=>by obtain⟨x,e1,q⟩:=bind_some q;show bnd (ev Γ e _) _ _=_;simp only[bnd,zao e σ ss _ e1,rd,ok,(znw (h:=h) q).2,opt]|.spl a b,σ,ss,xs,q=>by obtain⟨x,e1,q⟩:=bind_some q;obtain⟨y,e2,q⟩:=bind_some q;show bnd (ev Γ a _) _ _=_;simp only[bnd,zao a σ ss _ e1,zao b σ ss _ e2,rd,ok,zpo hw q,opt]
 | .cat a b,σ,ss,xs,q=>by
  obtain⟨x,e1,q⟩:=bind_some q;obtain⟨y,e2,q⟩:=bind_some q;obtain⟨r1,a1,a2⟩:=zem (λe=>zao a σ ss x e) e1;obtain⟨r2,b1,b2⟩:=zem (λe=>zao b σ ss y e) e2;show bnd (ev Γ a _) _ _=_;simp only[bnd,a1,a2,b1,b2]
  cases x with
  | lst u=>
   cases y with
   | lst v=>
    change (if fit (u.length+v.length) then some (u++v) else none)=some xs at q
    split at q
    ·rename_i c
     cases q;show opt (if fit ((D.vls w u).length+(D.vls w v).length) then some (D.vls w u++D.vls w v) else none) _=_;rw[zap,zap,if_pos c,<-za0];rfl
    ·cases q
   |_=>cases q
  |_=>cases q
theorem evIS_ok:∀(i:I) (σ:Env) (ss:SS) (xs:List D),evIS Γs i σ ss=some xs->evI Γ i (sE w h.length σ) (sS w h ss)=some (⟨(D.vls w xs).map dI,none⟩,sS w h ss)|.seq e,σ,ss,xs,q=>by obtain⟨x,e1,q⟩:=bind_some q;show bnd (ev Γ e _) _ _=_;simp only[bnd,zao e σ ss _ e1];exact(znw q).1|.rng _,_,_,_,q=>by cases q|.enk _ _,_,_,_,q=>by cases q
end
end
end IT
namespace IT
inductive ResS where|ret (d:D)|nx (σ:Env) (ss:SS)
def mtS(m:Me)(i:Nat)(ds:List D)(σ:Env)(ss:SS):Option ResS:=match σ[i]? with
 | some (some r)=>match r with
  | .loc k=>match ss[k]? with
   | some xs=>match ds with
    | [d]=>match m with
     |.append=>if decide (xs.length<big) then some (.nx σ (ss.set k (xs++[d]))) else none
     |.extend=>match d with
      |.lst ys=>if fit (xs.length+ys.length) then some (.nx σ (ss.set k (xs++ys))) else none|_=>none
    |_=>none
   |none=>none
  |.d _=>none
 |_=>none
def varE(e:E):Option Nat:=match e with|.var a=>some a|_=>none
def lstE(e:E):Option (Bool×L):=match e with|.lst m l=>some (m,l)|_=>none
def dspE(l:L):Option (List E):=match l with|.disp es=>some es|_=>none
def zqy(es:List E):Option (Nat×Nat):=match es with
 | []=>none
 |x::r=>match r with
  | []=>none
  |y::t=>if t.isEmpty then(varE x).bind λa=>(varE y).bind λb=>some (a,b) else none
def twoV(e:E):Option (Nat×Nat):=(lstE e).bind λp=>if p.1 then none else(dspE p.2).bind zqy
def lstS(e:E):Option L:=(lstE e).bind λp=>if p.1 then some p.2 else none
def meE0(e:E):Option (Me×E×List E):=match e with|.me m o es=>some (m,o,es)|_=>none
def meE(e:E):Option (Me×Nat×List E):=(meE0 e).bind λp=>(varE p.2.1).bind λi=>some (p.1,i,p.2.2)
def varS(σ:Env)(i:Nat):Option Nat:=match σ[i]? with
 |some (some r)=>match r with
  |.loc k=>some k|.d _=>none
 |_=>none
mutual
noncomputable def exS(Γ:zcw):S->Env->SS->Option ResS
 | .asg tg e,σ,ss=>match tg with
  |.name i=>match lstS e with
   |some l=>(evLS Γ l σ ss).map λxs=>.nx (σ.set i (some (.loc ss.length))) (ss++[xs])
   |none=>(evS Γ e σ ss).map λd=>.nx (σ.set i (some (.d d))) ss
  |.tup _=>none
 |.unp is e,σ,ss=>(evS Γ e σ ss).bind λd=>match d with
  |.lst xs=>(zdu is xs σ).map λσ'=>.nx σ' ss
  |_=>none
 |.exp e,σ,ss=>match meE e with
  |some (m,i,es)=>(evSs Γ es σ ss).bind λds=>mtS m i ds σ ss
  |none=>none
 |.ife c a b,σ,ss=>(tvS Γ c σ ss).bind λt=>if t then exSs Γ a σ ss else exSs Γ b σ ss
 | .ret e,σ,ss=>match twoV e with
  | some (a,b)=>match varS σ a with
   | some k=>match varS σ b with
    | some j=>if k==j then none else match ss[k]? with
     |some xs=>match ss[j]? with
      |some ys=>some (.ret (.lst [.lst xs,.lst ys]))|none=>none
     |none=>none
    |none=>none
   |none=>none
  |none=>(vrS σ ss e (evS Γ e σ ss)).map .ret
 |_,_,_=>none
noncomputable def exSs(Γ:zcw):List S->Env->SS->Option ResS
 | [],σ,ss=>some (.nx σ ss)
 |s::r,σ,ss=>match exS Γ s σ ss with
  |some (.nx σ' ss')=>exSs Γ r σ' ss'|some (.ret d)=>some (.ret d)|none=>none
end
inductive GvS(w:Nat->List Nat)(h:Sto)(d:D):R->Sto->Prop where|d (t:Sto):GvS w h d (.d (D.vl w d)) (h++t)|l (t:Sto) (k:Nat) (xs:List D):d=.lst xs->t[k]?=some (sO w xs)->GvS w h d (.loc (h.length+k)) (h++t)
def ExOk(w:Nat->List Nat)(h:Sto)(m:M (Fl×Env))(ss:SS):ResS->Prop|.nx σ' ss'=>m (sS w h ss)=some ((.nx,sE w h.length σ'),sS w h ss')|.ret d=>∃r σ' h',m (sS w h ss)=some ((.ret r,σ'),h')/\GvS w h d r h'
section
variable {w:Nat->List Nat}(hw:Ws w){Γs:zcw}{Γ:Calls}(hΓ:zgP w Γs Γ){h:Sto}
theorem zqg{ss:SS}{xs:List D}:sS w h ss++[Ob.lst (D.vls w xs)]=sS w h (ss++[xs]):=by unfold sS;rw[Zp,Zn];rfl
theorem zqc{ss:SS}:(sS w h ss).length=h.length+ss.length:=by unfold sS;rw[ZZ,Z1]
theorem zmW{ss:SS}{k:Nat}{xs:List D}:(sS w h ss).set (h.length+k) (Ob.lst (D.vls w xs))=sS w h (ss.set k xs):=by unfold sS;rw[YB _ _ (Xq _ _),Y0,VP];rfl
theorem zkm{n:Nat}:∀(is:List Nat) (xs:List D) (σ σ':Env),zdu is xs σ=some σ'->zdu is (D.vls w xs) (sE w n σ)=some (sE w n σ')
 | [],xs,σ,σ',e=>by
  cases xs with|nil=>cases e;rfl|cons _ _=>cases e
 | i::is,xs,σ,σ',e=>by
  cases xs with|nil=>cases e|cons x xs=>show zdu is (D.vls w xs) ((sE w n σ).set i (some (.d (D.vl w x))))=_;have k:=zkm (n:=n) is xs (σ.set i (some (.d x))) σ' e;rw[<-zf3] at k;exact k
theorem zhb{σ:Env}{i k:Nat}{s:Sto}(e:varS σ i=some k):ev Γ (.var i) (sE w h.length σ) s=some (.loc (h.length+k),s):=by
 unfold varS at e
 split at e
 ·rename_i r er
  cases r with|d x=>cases e|loc j=>cases e;show(match (sE w h.length σ)[i]? with | some (some r)=>some (r,s) | _=>none)=_;rw[zh8,er];rfl
 ·cases e
theorem zhh{e:E}{a:Nat}(h:varE e=some a):e=.var a:=by
 cases e with|var b=>cases h;rfl|_=>cases h
theorem zkO{e:E}{p:Bool×L}(h:lstE e=some p):e=.lst p.1 p.2:=by
 cases e with|lst m l=>cases h;rfl|_=>cases h
theorem zo0{e:E}{a b:Nat}(h:twoV e=some (a,b)):e=.lst false (.disp [.var a,.var b]):=by
 obtain⟨⟨m,l⟩,e1,h⟩:=bind_some h
 have:=zkO e1
 subst this
 cases m with
 |true=>cases h
 | false=>
  have h:(dspE l).bind zqy=some (a,b):=h;obtain⟨es,e2,h⟩:=bind_some h
  cases l with
  | disp ds=>
   have e2:ds=es:=ZR e2;subst e2
   cases ds with
   |nil=>cases h
   | cons x r=>
    cases r with
    |nil=>cases h
    | cons y t=>
     cases t with|nil=>have h:(varE x).bind (λa=>(varE y).bind λb=>some (a,b))=some (a,b):=h;obtain⟨c,e3,h⟩:=bind_some h;obtain⟨d,e4,h⟩:=bind_some h;cases h;rw[zhh e3,zhh e4]|cons _ _=>cases h
  |_=>exact zad e2
theorem zn2{e:E}{l:L}(h:lstS e=some l):e=.lst true l:=by
 obtain⟨⟨m,l⟩,e1,h⟩:=bind_some h
 have:=zkO e1
 subst this
 cases m with|true=>cases h;rfl|false=>cases h
theorem zqG{e:E}{m:Me}{i:Nat}{es:List E}(h:meE e=some (m,i,es)):e=.me m (.var i) es:=by
 obtain⟨⟨m',o,es'⟩,e1,h⟩:=bind_some h;obtain⟨j,e2,h⟩:=bind_some h;cases h
 cases e with|me _ _ _=>cases e1;have e3:=zhh (show varE o=some i from e2);subst e3;rfl|_=>cases e1
theorem znb{l:Nat}{xs:List D}{s:Sto}(e:s[l]?=some (.lst xs)):fz (.loc l) s=some (.lst xs,s.set l (.fro xs)):=by show(match s[l]? with | some o=>if o.isL then some (D.lst o.items,s.set l (.fro o.items)) else none | none=>none)=_;rw[e];rfl
include hw hΓ
theorem zq8{m:Me}{i:Nat}{es:List E}{ds:List D}{σ:Env}{ss:SS}{r:ResS}(e1:evSs Γs es σ ss=some ds)(q:mtS m i ds σ ss=some r):ExOk w h (ex Γ (.exp (.me m (.var i) es)) (sE w h.length σ)) ss r:=by
 unfold mtS at q
 split at q
 case h_2=>cases q
 rename_i r0 er
 cases r0 with
 |d x=>cases q
 | loc k=>
  simp only at q
  split at q
  case h_2=>cases q
  rename_i xs exs0
  split at q
  case h_2=>cases q
  rename_i d
  have v1:ev Γ (.var i) (sE w h.length σ) (sS w h ss)=some (.loc (h.length+k),sS w h ss):=zhb (by unfold varS;rw[er])
  have g1:(sS w h ss)[h.length+k]?=some (Ob.lst (D.vls w xs)):=by rw[zhT,exs0];rfl
  have v2:zcX (.loc (h.length+k)) (sS w h ss)=some ((),sS w h ss):=by show(match (sS w h ss)[h.length+k]? with | some o=>if o.isL then some ((),sS w h ss) else none | none=>none)=_;rw[g1];rfl
  have v3:=evSs_ok hw hΓ (h:=h) es σ ss [d] e1
  have key:∀s',meth m (.loc (h.length+k)) [.d (D.vl w d)] (sS w h ss)=some (.d .non,s')->ex Γ (.exp (.me m (.var i) es)) (sE w h.length σ) (sS w h ss)=some ((Fl.nx,sE w h.length σ),s'):=by intro s' k';show bnd (bnd (ev Γ (.var i) _) _) _ _=_;simp only[bnd,v1,v2,v3];rw[show meth m (.loc (h.length+k)) ((D.vls w [d]).map R.d) (sS w h ss)=_ from k'];rfl
  cases m with
  | append=>
   simp only at q
   split at q
   ·rename_i c
    cases q;refine key _ ?_;show(match (sS w h ss)[h.length+k]? with | some (.lst xs)=>if decide (xs.length<big) then some (R.d .non,(sS w h ss).set (h.length+k) (.lst (xs++[D.vl w d]))) else none | _=>none)=_;rw[g1];simp only
    rw[zap,if_pos c,show D.vls w xs++[D.vl w d]=D.vls w (xs++[d]) by rw[za0];rfl,zmW]
   ·cases q
  | extend=>
   simp only at q
   split at q
   case h_2=>cases q
   rename_i ys
   split at q
   ·rename_i c
    cases q;refine key _ ?_;show(match (sS w h ss)[h.length+k]? with | some (.lst xs)=>if fit (xs.length+(D.vls w ys).length) then some (R.d .non,(sS w h ss).set (h.length+k) (.lst (xs++D.vls w ys))) else none | _=>none)=_;rw[g1];simp only;rw[zap,zap,if_pos c,<-za0,zmW]
   ·cases q
mutual
theorem zpS:∀(s:S) (σ:Env) (ss:SS) (r:ResS),exS Γs s σ ss=some r->ExOk w h (ex Γ s (sE w h.length σ)) ss r
 | .asg tg e,σ,ss,r,q=>by
  cases tg with
  |tup _=>cases q
  | name i=>
   change (match lstS e with | some l=>(evLS Γs l σ ss).map λxs=>ResS.nx (σ.set i (some (.loc ss.length))) (ss++[xs]) | none=>(evS Γs e σ ss).map λd=>ResS.nx (σ.set i (some (.d d))) ss)=some r at q
   cases el:lstS e with
   |some l=>
    rw[el] at q;obtain⟨xs,e1,rfl⟩:=ZW.mp q
    have:=zn2 el
    subst this;show bnd (bnd (evL Γ l _) _) _ _=_;simp only[bnd,evLS_ok hw hΓ l σ ss xs e1];show some ((Fl.nx,(sE w h.length σ).set i (some (.loc (sS w h ss).length))),sS w h ss++[Ob.lst (D.vls w xs)])=_;rw[zqc,zqg,<-zf3];rfl
   |none=>rw[el] at q;obtain⟨d,e1,rfl⟩:=ZW.mp q;show bnd (ev Γ e _) _ _=_;simp only[bnd,zao hw hΓ e σ ss d e1];show some ((Fl.nx,(sE w h.length σ).set i (some (.d (D.vl w d)))),sS w h ss)=_;rw[<-zf3];rfl
 | .unp is e,σ,ss,r,q=>by
  obtain⟨d,e1,q⟩:=bind_some q
  cases d with|lst xs=>obtain⟨σ',e2,rfl⟩:=ZW.mp q;show bnd (ev Γ e _) _ _=_;have k:=zkm (w:=w) (n:=h.length) is xs σ σ' e2;simp only[bnd,zao hw hΓ e σ ss _ e1,rd,ok];rw[show lsOf (D.vl w (.lst xs))=some (D.vls w xs) from rfl];simp only[opt,k]|_=>cases q
 | .exp e,σ,ss,r,q=>by
  change (match meE e with | some (m,i,es)=>(evSs Γs es σ ss).bind λds=>mtS m i ds σ ss | none=>none)=some r at q
  cases em:meE e with
  |none=>rw[em] at q;cases q
  |some p=>
   obtain⟨m,i,es⟩:=p;rw[em] at q;obtain⟨ds,e1,q⟩:=bind_some q
   have:=zqG em
   subst this;exact zq8 hw hΓ e1 q
 | .ife c a b,σ,ss,r,q=>by
  obtain⟨t,e1,q⟩:=bind_some q
  have k:ex Γ (.ife c a b) (sE w h.length σ) (sS w h ss)=(if t then exs Γ a (sE w h.length σ) else exs Γ b (sE w h.length σ)) (sS w h ss):=by show bnd (tv Γ c _) _ _=_;simp only[bnd,tvS_ok hw hΓ c σ ss t e1]
  cases t with
  |true=>
   have:=exSs_ok a σ ss r q
   cases r with|nx _ _=>exact k.trans this|ret d=>obtain⟨r,σ',h',e2,g⟩:=this;exact⟨r,σ',h',k.trans e2,g⟩
  |false=>
   have:=exSs_ok b σ ss r q
   cases r with|nx _ _=>exact k.trans this|ret d=>obtain⟨r,σ',h',e2,g⟩:=this;exact⟨r,σ',h',k.trans e2,g⟩
 | .ret e, σ,ss,r,q=>by
  change (match twoV e with
   | some (a,b)=>(match varS σ a with
    | some k=>(match varS σ b with
     | some j=>if k==j then none else(match ss[k]? with
      |some xs=>(match ss[j]? with
       |some ys=>some (ResS.ret (.lst [.lst xs,.lst ys]))
       |none=>none)
      |none=>none)
     |none=>none)
    |none=>none)
   |none=>(vrS σ ss e (evS Γs e σ ss)).map ResS.ret)=some r at q
  cases et:twoV e with
  | none=>
   rw[et] at q;obtain⟨d,e1,rfl⟩:=ZW.mp q;obtain⟨x,k1,k2⟩:=zem (h:=h) (λe'=>zao hw hΓ e σ ss d e') e1;refine⟨x,sE w h.length σ,sS w h ss,?_,?_⟩
   ·show bnd (ev Γ e _) _ _=_
    simp only[bnd,k1];rfl
   ·unfold vrS at e1
    split at e1
    ·rename_i i
     split at e1
     case h_2=>cases e1
     rename_i r0 er
     have v1:ev Γ (.var i) (sE w h.length σ) (sS w h ss)=some (sR w h.length r0,sS w h ss):=by show(match (sE w h.length σ)[i]? with | some (some r)=>some (r,sS w h ss) | _=>none)=_;rw[zh8,er];rfl
     rw[v1] at k1;cases k1
     cases r0 with
     |d y=>cases e1;exact .d _
     |loc k=>
      obtain⟨xs,e2,e3⟩:=ZW.mp e1
      exact .l _ k xs e3.symm (by rw[Zs,e2];rfl)
    ·have v1:=zao hw hΓ (h:=h) e σ ss d e1
     rw[v1] at k1;cases k1;exact .d _
  | some p =>
   obtain⟨a,b⟩:=p;rw[et] at q;simp only at q
   have:=zo0 et
   subst this
   cases ea:varS σ a with
   |none=>rw[ea] at q;cases q
   | some k=>
    rw[ea] at q;simp only at q
    cases eb:varS σ b with
    |none=>rw[eb] at q;cases q
    | some j=>
     rw[eb] at q;simp only at q
     split at q
     ·cases q
     rename_i hkj
     cases ek:ss[k]? with
     |none=>rw[ek] at q;cases q
     | some xs=>
      rw[ek] at q;simp only at q
      cases ej:ss[j]? with
      |none=>rw[ej] at q;cases q
      | some ys=>
       rw[ej] at q;cases q
       have g1:(sS w h ss)[h.length+k]?=some (Ob.lst (D.vls w xs)):=by rw[zhT,ek];rfl
       have g2:((sS w h ss).set (h.length+k) (.fro (D.vls w xs)))[h.length+j]?=some (Ob.lst (D.vls w ys)):=by
        have hkj':k≠j:=by simpa using hkj
        rw[Zv (by omega),zhT,ej];rfl
       refine⟨R.d (D.vl w (.lst [.lst xs,.lst ys])),sE w h.length σ,((sS w h ss).set (h.length+k) (.fro (D.vls w xs))).set (h.length+j) (.fro (D.vls w ys)),?_,?_⟩
       ·show bnd (bnd (bnd (evs Γ [.var a,.var b] _) _) _) _ _=_
        have v:evs Γ [.var a,.var b] (sE w h.length σ) (sS w h ss)=some ([.loc (h.length+k),.loc (h.length+j)],sS w h ss):=by
         have v2:evs Γ [.var b] (sE w h.length σ) (sS w h ss)=some ([.loc (h.length+j)],sS w h ss):=by show bnd (ev Γ (.var b) _) _ _=_;simp only[bnd,zhb eb];rfl
         show bnd (ev Γ (.var a) _) _ _=_;simp only[bnd,zhb ea,v2];rfl
        have f:fzs [.loc (h.length+k),.loc (h.length+j)] (sS w h ss)=some ([D.lst (D.vls w xs),D.lst (D.vls w ys)],((sS w h ss).set (h.length+k) (.fro (D.vls w xs))).set (h.length+j) (.fro (D.vls w ys))):=by
         have f2:fzs [.loc (h.length+j)] ((sS w h ss).set (h.length+k) (.fro (D.vls w xs)))=some ([D.lst (D.vls w ys)],((sS w h ss).set (h.length+k) (.fro (D.vls w xs))).set (h.length+j) (.fro (D.vls w ys))):=by show bnd (fz (.loc (h.length+j))) _ _=_;simp only[bnd,znb g2];rfl
         show bnd (fz (.loc (h.length+k))) _ _=_;simp only[bnd,znb g1,f2];rfl
        simp only[bnd,v,f];rfl
       ·have e:((sS w h ss).set (h.length+k) (.fro (D.vls w xs))).set (h.length+j) (.fro (D.vls w ys))=h++(((ss.map (sO w)).set k (.fro (D.vls w xs))).set j (.fro (D.vls w ys))):=by
         unfold sS;rw[YB _ _ (Xq _ _),Y0,YB _ _ (Xq _ _),Y0]
        rw[e];exact .d _
 |.setI _ _ _,_,_,_,q=>by cases q|.for _ _ _,_,_,_,q=>by cases q|.brk,_,_,_,q=>by cases q|.cnt,_,_,_,q=>by cases q|.setD _ _ _,_,_,_,q=>by cases q|.raiN _ _,_,_,_,q=>by cases q|.tryb _ _ _ _ _,_,_,_,q=>by cases q|.stuck,_,_,_,q=>by cases q
theorem exSs_ok:∀(s:List S) (σ:Env) (ss:SS) (r:ResS),exSs Γs s σ ss=some r->ExOk w h (exs Γ s (sE w h.length σ)) ss r
 | [],σ,ss,r,q=>by cases q;rfl
 | s :: rest,σ,ss,r,q=>by
  change (match exS Γs s σ ss with | some (.nx σ' ss')=>exSs Γs rest σ' ss' | some (.ret d)=>some (.ret d) | none=>none)=some r at q
  cases e:exS Γs s σ ss with
  |none=>rw[e] at q;cases q
  | some r1=>
   rw[e] at q;have k:=zpS s σ ss r1 e
   cases r1 with
   | nx σ' ss'=>
    have k:ex Γ s (sE w h.length σ) (sS w h ss)=some ((.nx,sE w h.length σ'),sS w h ss'):=k
    have k2:exs Γ (s::rest) (sE w h.length σ) (sS w h ss)=exs Γ rest (sE w h.length σ') (sS w h ss'):=by show bnd (ex Γ s _) _ _=_;simp only[bnd,k]
    have:=exSs_ok rest σ' ss' r q
    cases r with|nx _ _=>exact k2.trans this|ret d=>obtain⟨r,σ',h',e2,g⟩:=this;exact⟨r,σ',h',k2.trans e2,g⟩
   |ret d=>cases q;obtain⟨r,σ',h',e2,g⟩:=k;refine⟨r,σ',h',?_,g⟩;show bnd (ex Γ s _) _ _=_;simp only[bnd,e2];rfl
end
end
def zk8(P:List F)(pr:List D->Option D):Nat->zcw
 |0,_,_=>none
 | n+1,f,ds=>if f==0 then pr ds else match P[f]? with
  |some F=>if F.dfl.isEmpty&&!F.all&&!F.keep&&decide (ds.length=F.np) then(match exSs (zk8 P pr n) F.body ((ds.map λd=>some (R.d d))++Z0 (F.ns-F.np) none) [] with
   |some (.ret d)=>some d
   |_=>none) else none
  |none=>none
theorem zrV{w:Nat->List Nat}{h h':Sto}{d:D}{r:R}(g:GvS w h d r h'):fin h false false r h'=some (.d (D.vl w d),h):=by
 cases g with
 |d t=>unfold fin;rw[if_neg (by simp),zbm,if_pos rfl];unfold fin0;simp
 | l t k xs e1 e2=>
  unfold fin;rw[if_neg (by simp),zbm,if_pos rfl]
  have e3:(h++t)[h.length+k]?=some (sO w xs):=by rw[Zw (Xq _ _),Y0];exact e2
  subst e1
  show (if h.length+k<h.length then _ else match (h++t)[h.length+k]? with
   |some (.lst xs)=>if false then some (R.loc h.length,(h++t).take h.length++[Ob.lst xs]) else some (R.d (.lst xs),(h++t).take h.length)|some (.fro xs)=>some (R.d (.lst xs),(h++t).take h.length)
   |_=>none)=_
  rw[if_neg (by omega),e3];simp[sO,D.vl]
theorem zhC{w:Nat->List Nat}(hw:Ws w){P:List F}{pr:List D->Option D}(hp:∀ds d,pr ds=some d->∀n h,zaf P (n+1) 0 ((D.vls w ds).map R.d) h=some (.d (D.vl w d),h)):∀n m,n<=m->zgP w (zk8 P pr n) (zaf P m)
 |0,m,_,f,ds,d,q,h=>by cases q
 | n + 1,m+1,hm,f,ds,d,q,h=>by
  change (if f==0 then pr ds else match P[f]? with
   |some F=>if F.dfl.isEmpty&&!F.all&&!F.keep&&decide (ds.length=F.np) then(match exSs (zk8 P pr n) F.body ((ds.map λd=>some (R.d d))++Z0 (F.ns-F.np) none) [] with
    |some (.ret d)=>some d
    |_=>none) else none
   |none=>none)=some d at q
  split at q
  ·rename_i e
   have e:=ZP e;subst e;exact hp ds d q m h
  ·cases eF:P[f]? with
   |none=>rw[eF] at q;cases q
   | some F=>
    rw[eF] at q;simp only at q
    split at q
    case isFalse=>cases q
    rename_i c;simp only[Z9,ZJ,decide_eq_true_eq,VW] at c;obtain⟨⟨⟨c1,c2⟩,c3⟩,c4⟩:=c
    cases ee:exSs (zk8 P pr n) F.body ((ds.map λd=>some (R.d d))++Z0 (F.ns-F.np) none) [] with
    |none=>rw[ee] at q;cases q
    | some r=>
     rw[ee] at q
     cases r with
     |nx _ _=>cases q
     | ret d'=>
      cases q;obtain⟨r,σ',h',k1,k2⟩:=exSs_ok hw (zhC hw hp n m (Nat.le_of_succ_le_succ hm)) (h:=h) F.body _ [] _ ee
      have es:sS w h []=h:=by unfold sS;simp
      have eσ:sE w h.length ((ds.map λd=>some (R.d d))++Z0 (F.ns-F.np) none)=(((D.vls w ds).map R.d).map some)++Z0 (F.ns-F.np) none:=by unfold sE;rw[Zp,YM,Wf,zau,YM,YM];rfl
      rw[es,eσ] at k1;rw[zaC,eF];simp only
      have ef:zar F.np F.dfl ((D.vls w ds).map R.d)=(D.vls w ds).map R.d:=by
       rw[c1];unfold zar
       split
       ·rfl
       ·simp
      rw[ef,if_pos (by rw[Z1,zap];exact c4),k1]
      simp only;rw[c2,c3];exact zrV k2
end IT
namespace K02
open IT
variable {Q:R->Sto->Prop}
abbrev eV(i:Nat):E:=.var i
abbrev eJ(i:Int):E:=.con (.int i)
abbrev eS(x:List Nat):E:=.con (.str x)
abbrev eX(a:Nat)(i:Int):E:=.idx (.var a) (.con (.int i))
/- is_word (0): 0 text,1 ?1?sign -/
def zdC:List S:=[
 .ife (.or (.val (.cmp .lt (.bi .len [(eV 0)]) (eJ 1))) (.val (.cmp .gt (.bi .len [(eV 0)]) (.glo (.int 8))))) [.ret (.con (.bl false))] [],
 .ret (.bi .all [(.lst false (.comp (.name 1) (.seq (eV 0)) [] (.cmp .isin (eV 1) (.glo (.str [97,98,99,100,101,102,103,104,105,106,107,108,109,110,111,112,113,114,115,116,117,118,119,120,121,122])))))])]
/- is_kind (1): 0 text -/
def zf9:List S:=[
 .ret (.and (.call 0 [(eV 0)]) (.cmp .notin (eV 0) (.glo (.tup [(.str [114,101,97,100]),(.str [119,114,105,116,101]),(.str [100,114,111,112])]))))]
/- are_states (2): 0 words,1 ?1?word -/
def zcP:List S:=[
 .ife (.or (.val (.cmp .lt (.bi .len [(eV 0)]) (eJ 1))) (.val (.cmp .gt (.bi .len [(eV 0)]) (.glo (.int 8))))) [.ret (.con (.bl false))] [],
 .ret (.and (.bi .all [(.lst false (.comp (.name 1) (.seq (eV 0)) [] (.call 0 [(eV 1)])))]) (.cmp .eq (.lset (eV 0)) (.bi .len [(eV 0)])))]
/- are_hands (3): 0 pairs,1 ?1?pair -/
def zde:List S:=[
 .ife (.not (.val (.bi .all [(.lst false (.comp (.name 1) (.seq (eV 0)) [] (.and (.cmp .eq (.bi .len [(eV 1)]) (eJ 2)) (.cmp .isin (eX 1 1) (.glo (.tup [(.str [110,111,110,101]),(.str [114,101,97,100]),(.str [119,114,105,116,101])]))))))]))) [.ret (.con (.bl false))] [],
 .ret (.call 2 [(.call 4 [(eV 0)])])]
/- states_of (4): 0 hands,1 ?1?pair -/
def zdN:List S:=[
 .ret (.bi .tuple [(.lst false (.comp (.name 1) (.seq (eV 0)) [] (eX 1 0)))])]
/- is_row (5): 0 row,1 hand_states,2 house_states -/
def zhL:List S:=[
 .ife (.val (.cmp .eq (eX 0 0) (eS [104,97,110,100]))) [.ret (.and (.cmp .eq (.bi .len [(eV 0)]) (eJ 5)) (.call 6 [(eV 0),(eV 1)]))] [],
 .ife (.val (.cmp .eq (eX 0 0) (eS [104,111,117,115,101]))) [.ret (.and (.cmp .eq (.bi .len [(eV 0)]) (eJ 6)) (.call 7 [(eV 0),(eV 2)]))] [],
 .ret (.con (.bl false))]
/- is_hand_row (6): 0 row,1 states,2 acts -/
def zcs:List S:=[
 .ife (.or (.val (.cmp .notin (eX 0 1) (eV 1))) (.or (.val (.cmp .notin (eX 0 3) (eV 1))) (.not (.val (.call 0 [(eX 0 2)]))))) [.ret (.con (.bl false))] [],
 .asg (.name 2) (eX 0 4),
 .ife (.and (.val (.cmp .isin (eX 0 2) (.glo (.tup [(.str [114,101,97,100]),(.str [119,114,105,116,101]),(.str [100,114,111,112])])))) (.val (.cmp .isin (.tup [(eS [107,101,101,112])]) (eV 2)))) [.ret (.con (.bl false))] [],
 .ife (.val (.cmp .gt (.bin .add (.lm .countT (eV 2) (.tup [(eS [116,101,108,108])])) (.lm .countT (eV 2) (.tup [(eS [112,117,116])]))) (eJ 1))) [.ret (.con (.bl false))] [],
 .ret (.call 8 [(eV 2),(.glo (.tup [(.str [107,101,101,112]),(.str [108,111,115,101]),(.str [116,101,108,108]),(.str [112,117,116])])),(.glo (.tup [(.str [115,101,110,100])]))])]
/- is_house_row (7): 0 row,1 states -/
def zbR:List S:=[
 .ife (.or (.val (.cmp .notin (eX 0 1) (eV 1))) (.val (.cmp .notin (eX 0 4) (eV 1)))) [.ret (.con (.bl false))] [],
 .ife (.or (.not (.val (.call 1 [(eX 0 2)]))) (.val (.cmp .notin (eX 0 3) (.glo (.tup [(.str [97,110,121]),(.str [108,97,115,116]),(.str [109,111,114,101])]))))) [.ret (.con (.bl false))] [],
 .ife (.val (.cmp .eq (eX 0 5) (.glo (.tup [(.tup [(.str [119,97,105,116])])])))) [.ret (.cmp .eq (eX 0 3) (eS [97,110,121]))] [],
 .ret (.call 8 [(eX 0 5),(.glo (.tup [(.str [107,101,101,112]),(.str [111,119,110]),(.str [115,104,97,114,101]),(.str [102,111,114,103,101,116]),(.str [99,108,101,97,114]),(.str [115,116,97,121])])),(.glo (.tup [(.str [115,101,110,100]),(.str [111,119,110,101,114]),(.str [111,116,104,101,114,115])]))])]
/- are_acts (8): 0 acts,1 plain,2 sends,3 ?1?act -/
def zew:List S:=[
 .ret (.and (.cmp .le (.bi .len [(eV 0)]) (.glo (.int 6))) (.bi .all [(.lst false (.comp (.name 3) (.seq (eV 0)) [] (.call 9 [(eV 3),(eV 1),(eV 2)])))]))]
/- is_act (9): 0 act,1 plain,2 sends -/
def zhS:List S:=[
 .ife (.val (.cmp .eq (.bi .len [(eV 0)]) (eJ 1))) [.ret (.cmp .isin (eX 0 0) (eV 1))] [],
 .ret (.and (.cmp .eq (.bi .len [(eV 0)]) (eJ 3)) (.and (.cmp .isin (eX 0 0) (eV 2)) (.and (.call 1 [(eX 0 1)]) (.cmp .isin (eX 0 2) (.glo (.tup [(.str [98,97,114,101]),(.str [118,97,108,117,101])]))))))]
/- place_of (10): 0 row -/
def zeo:List S:=[
 .ret (.ife (.val (.cmp .eq (eX 0 0) (eS [104,97,110,100]))) (.sli (eV 0) (.con .non) (eJ 3)) (.sli (eV 0) (.con .non) (eJ 4)))]
/- rival_places (11): 0 row,1 whens,2 ?1?when -/
def zbL:List S:=[
 .ife (.val (.cmp .eq (eX 0 0) (eS [104,97,110,100]))) [.ret (.lst false (.disp [(.sli (eV 0) (.con .non) (eJ 3))]))] [],
 .asg (.name 1) (.ife (.val (.cmp .eq (eX 0 3) (eS [97,110,121]))) (.glo (.tup [(.str [97,110,121]),(.str [108,97,115,116]),(.str [109,111,114,101])])) (.tup [(eS [97,110,121]),(eX 0 3)])),
 .ret (.lst false (.comp (.name 2) (.seq (eV 1)) [] (.bin .add (.sli (eV 0) (.con .non) (eJ 3)) (.tup [(eV 2)]))))]
/- table_text (12): 0 table,1 pairs,2 lines,3 ?1?pair,4 ?2?row -/
def zcS:List S:=[
 .asg (.name 1) (.lst false (.comp (.name 3) (.seq (eX 0 0)) [] (.tm .join (eS [32]) [(eV 3)]))),
 .asg (.name 2) (.lst true (.disp [(.bin .add (.glo (.str [104,97,110,100,115,32])) (.tm .join (eS [44,32]) [(eV 1)])),(.bin .add (.glo (.str [104,111,117,115,101,115,32])) (.tm .join (eS [44,32]) [(eX 0 1)]))])),
 .exp (.me .extend (eV 2) [(.lst false (.comp (.name 4) (.seq (eX 0 2)) [] (.call 13 [(eV 4)])))]),
 .ret (.tm .join (eS [10]) [(eV 2)])]
/- row_text (13): 0 row,1 head,2 acts,3 ?1?act -/
def zek:List S:=[
 .asg (.name 1) (.tm .join (eS [32]) [(.bin .add (.sli (eV 0) (.con .non) (.neg (eJ 2))) (.tup [(.glo (.str [45,62])),(.idx (eV 0) (.neg (eJ 2)))]))]),
 .asg (.name 2) (.lst false (.comp (.name 3) (.seq (.idx (eV 0) (.neg (eJ 1)))) [] (.tm .join (eS [32]) [(eV 3)]))),
 .ife (.not (.val (eV 2))) [.ret (eV 1)] [],
 .ret (.bin .add (.bin .add (eV 1) (eS [58,32])) (.tm .join (eS [44,32]) [(eV 2)]))]
/- read_table (14): 0 text,1 lines,2 hands,3 houses -/
def zav:List S:=[
 .ife (.not (.val (.isi .str (eV 0)))) [.raiN 0 (eJ 0)] [],
 .asg (.name 1) (.lst false (.spl (eV 0) (eS [10]))),
 .asg (.name 2) (.call 15 [(eX 1 0)]),
 .ife (.not (.val (.call 3 [(eV 2)]))) [.raiN 0 (eJ 0)] [],
 .asg (.name 3) (.ife (.val (.cmp .gt (.bi .len [(eV 1)]) (eJ 1))) (.call 16 [(eX 1 1)]) (.tup [])),
 .ife (.not (.val (.call 2 [(eV 3)]))) [.raiN 0 (eJ 1)] [],
 .ret (.tup [(eV 2),(eV 3),(.call 19 [(eV 1),(.call 4 [(eV 2)]),(eV 3)])])]
/- read_hands (15): 0 line,1 ?1?part -/
def zcT:List S:=[
 .ret (.bi .tuple [(.lst false (.comp (.name 1) (.seq (.call 17 [(.glo (.str [104,97,110,100,115,32])),(eV 0)])) [] (.call 18 [(eV 1)])))])]
/- read_houses (16): 0 line -/
def zcj:List S:=[
 .ret (.bi .tuple [(.call 17 [(.glo (.str [104,111,117,115,101,115,32])),(eV 0)])])]
/- parts_behind (17): 0 heading,1 line -/
def zbJ:List S:=[
 .ife (.not (.val (.tm .starts (eV 1) [(eV 0)]))) [.ret (.lst false (.disp []))] [],
 .ret (.lst false (.spl (.sli (eV 1) (.bi .len [(eV 0)]) (.con .non)) (eS [44,32])))]
/- words_of (18): 0 part -/
def zea:List S:=[
 .ret (.bi .tuple [(.lst false (.spl (eV 0) (eS [32])))])]
/- read_rows (19): 0 lines,1 hand_states,2 house_states,3 rows,4 taken,5 number,6 line,7 row,8 ?1?place -/
def zbe:List S:=[
 .asg (.name 3) (.lst true (.disp [])),
 .asg (.name 4) .dnew,
 .for (.tup [(.name 5),(.name 6)]) (.enk 2 (.sli (eV 0) (eJ 2) (.con .non))) [.asg (.name 7) (.call 20 [(eV 6)]),.ife (.or (.val (.cmp .isN (eV 7) (.con .non))) (.not (.val (.call 5 [(eV 7),(eV 1),(eV 2)])))) [.raiN 0 (eV 5)] [],.ife (.val (.bi .any [(.lst false (.comp (.name 8) (.seq (.call 11 [(eV 7)])) [] (.din false (eV 8) (eV 4))))])) [.raiN 0 (eV 5)] [],.setD (eV 4) (.call 10 [(eV 7)]) (.con (.bl true)),.exp (.me .append (eV 3) [(eV 7)])],
 .ret (.bi .tuple [(eV 3)])]
/- read_row (20): 0 line,1 halves,2 words,3 acts,4 ?1?part -/
def zd8:List S:=[
 .asg (.name 1) (.tm .parti (eV 0) [(eS [58,32])]),
 .asg (.name 2) (.call 18 [(eX 1 0)]),
 .ife (.or (.val (.cmp .lt (.bi .len [(eV 2)]) (eJ 2))) (.val (.cmp .ne (.idx (eV 2) (.neg (eJ 2))) (.glo (.str [45,62]))))) [.ret (.con .non)] [],
 .asg (.name 3) (.ife (.val (eX 1 1)) (.lst false (.comp (.name 4) (.seq (.lst false (.spl (eX 1 2) (eS [44,32])))) [] (.call 18 [(eV 4)]))) (.lst false (.disp []))),
 .ret (.bin .add (.sli (eV 2) (.con .non) (.neg (eJ 2))) (.tup [(.idx (eV 2) (.neg (eJ 1))),(.bi .tuple [(eV 3)])]))]
/- _law_draw (21): 0 _law_cell -/
def zff:List S:=[
 .ret (.lst true (.disp [(.bin .mul (.bin .fdiv (eV 0) (eJ 2)) (.bin .sub (eJ 1) (.bin .mod (eV 0) (eJ 2)))),(eV 0)]))]
/- _law_next (22): 0 _law_draw_here,1 _law_size,2 _law_digit,3 _law_number -/
def zfu:List S:=[
 .setI (eV 0) (eJ 1) (.bin .mod (.bin .add (.bin .mul (eX 0 1) (eJ 48271)) (eJ 11)) (eJ 2147483647)),
 .ife (.val (.cmp .gt (eX 0 0) (eJ 0))) [.asg (.name 2) (.bin .mod (eX 0 0) (eV 1)),.setI (eV 0) (eJ 0) (.bin .fdiv (eX 0 0) (eV 1)),.ret (eV 2)] [],
 .asg (.name 3) (.bin .mod (.bin .mul (eX 0 1) (.bin .add (.bin .fdiv (eX 0 1) (eJ 1009)) (eJ 69621))) (eJ 2147483647)),
 .ret (.bin .mod (.bin .mod (.bin .mul (eV 3) (.bin .add (.bin .fdiv (eV 3) (eJ 757)) (eJ 16807))) (eJ 2147483629)) (eV 1))]
/- _law_words (23): 0 _law_draw_here,1 _law_ends,2 _law_words_here,3 _law_end,4 _law_word,5 _law_k -/
def zdo:List S:=[
 .asg (.name 2) (.lst true (.disp [])),
 .for (.name 3) (.seq (eV 1)) [.asg (.name 4) (eS []),.for (.name 5) (.rng (.call 22 [(eV 0),(eJ 7)])) [.asg (.name 4) (.bin .add (eV 4) (.idx (eS [97,98,99,100,101,102,103,104,105,106,107,108,109,110,111,112,113,114,115,116,117,118,119,120,121,122]) (.call 22 [(eV 0),(eJ 26)])))],.exp (.me .append (eV 2) [(.bin .add (eV 4) (eV 3))])],
 .ret (eV 2)]
/- _law_rows (24): 0 _law_words_here,1 _law_one,2 _law_two,3 _law_three,4 _law_home,5 _law_out,6 _law_far,7 _law_get,8 _law_give,9 _law_rows_here,10 _law_tail -/
def zhV:List S:=[
 .unp [1,2,3,4,5,6,7,8] (eV 0),
 .asg (.name 9) (.lst true (.disp [(.bin .add (.bin .add (.bin .add (.bin .add (.bin .add (.bin .add (eS [104,97,110,100,115,32]) (eV 1)) (eS [32,110,111,110,101,44,32])) (eV 2)) (eS [32,114,101,97,100,44,32])) (eV 3)) (eS [32,119,114,105,116,101]))])),
 .asg (.name 9) (.lst true (.cat (eV 9) (.lst false (.disp [(.bin .add (.bin .add (.bin .add (.bin .add (.bin .add (eS [104,111,117,115,101,115,32]) (eV 4)) (eS [44,32])) (eV 5)) (eS [44,32])) (eV 6))])))),
 .exp (.me .append (eV 9) [(.bin .add (.bin .add (.bin .add (.bin .add (.bin .add (.bin .add (eS [104,97,110,100,32]) (eV 1)) (eS [32,119,114,105,116,101,32,45,62,32])) (eV 2)) (eS [58,32,115,101,110,100,32])) (eV 7)) (eS [32,98,97,114,101]))]),
 .asg (.name 10) (.bin .add (.bin .add (eS [58,32,107,101,101,112,44,32,112,117,116,44,32,115,101,110,100,32]) (eV 7)) (eS [32,118,97,108,117,101])),
 .exp (.me .append (eV 9) [(.bin .add (.bin .add (.bin .add (.bin .add (.bin .add (.bin .add (eS [104,97,110,100,32]) (eV 2)) (eS [32])) (eV 8)) (eS [32,45,62,32])) (eV 3)) (eV 10))]),
 .exp (.me .append (eV 9) [(.bin .add (.bin .add (.bin .add (.bin .add (eS [104,97,110,100,32]) (eV 3)) (eS [32,114,101,97,100,32,45,62,32])) (eV 3)) (eS [58,32,116,101,108,108]))]),
 .asg (.name 10) (.bin .add (.bin .add (eS [58,32,111,119,110,44,32,115,101,110,100,32]) (eV 8)) (eS [32,118,97,108,117,101])),
 .exp (.me .append (eV 9) [(.bin .add (.bin .add (.bin .add (.bin .add (.bin .add (.bin .add (eS [104,111,117,115,101,32]) (eV 4)) (eS [32])) (eV 7)) (eS [32,108,97,115,116,32,45,62,32])) (eV 5)) (eV 10))]),
 .asg (.name 10) (.bin .add (.bin .add (eS [58,32,111,116,104,101,114,115,32]) (eV 8)) (eS [32,98,97,114,101,44,32,115,116,97,121])),
 .exp (.me .append (eV 9) [(.bin .add (.bin .add (.bin .add (.bin .add (.bin .add (.bin .add (eS [104,111,117,115,101,32]) (eV 4)) (eS [32])) (eV 7)) (eS [32,109,111,114,101,32,45,62,32])) (eV 6)) (eV 10))]),
 .exp (.me .append (eV 9) [(.bin .add (.bin .add (.bin .add (.bin .add (.bin .add (.bin .add (eS [104,111,117,115,101,32]) (eV 5)) (eS [32])) (eV 7)) (eS [32,97,110,121,32,45,62,32])) (eV 5)) (eS [58,32,119,97,105,116]))]),
 .exp (.me .append (eV 9) [(.bin .add (.bin .add (.bin .add (.bin .add (.bin .add (eS [104,111,117,115,101,32]) (eV 5)) (eS [32])) (eV 8)) (eS [32,97,110,121,32,45,62,32])) (eV 4))]),
 .ret (eV 9)]
/- _law_bad_heads (25): 0 _law_words_here,1 _law_one,2 _law_two,3 _law_three,4 _law_home,5 _law_out,6 _law_far,7 _law_get,8 _law_give,9 _law_hands,10 _law_houses,11 ?1?_law_letter -/
def zb6:List S:=[
 .unp [1,2,3,4,5,6,7,8] (eV 0),
 .asg (.name 9) (.lst true (.disp [(eS []),(eS [104,97,110,100,115]),(eS [104,97,110,100,115,32]),(.bin .add (.bin .add (eS [104,97,110,100,32]) (eV 1)) (eS [32,110,111,110,101])),(.bin .add (eS [104,97,110,100,115,32]) (eV 1))])),
 .asg (.name 9) (.lst true (.cat (eV 9) (.lst false (.disp [(.bin .add (.bin .add (eS [104,97,110,100,115,32]) (eV 1)) (eS [32,97,108,108])),(.bin .add (eS [104,97,110,100,115,32,110,111,110,101,32]) (.sli (eV 1) (.con .non) (eJ 0)))])))),
 .asg (.name 9) (.lst true (.cat (eV 9) (.lst false (.disp [(.bin .add (.bin .add (.bin .add (.bin .add (eS [104,97,110,100,115,32]) (eV 1)) (eS [32,110,111,110,101,44])) (eV 2)) (eS [32,114,101,97,100]))])))),
 .asg (.name 9) (.lst true (.cat (eV 9) (.lst false (.disp [(.bin .add (.bin .add (.bin .add (.bin .add (eS [104,97,110,100,115,32]) (eV 1)) (eS [32,110,111,110,101,44,32])) (eV 1)) (eS [32,114,101,97,100])),(eS [104,97,110,100,115,32,65,32,110,111,110,101])])))),
 .asg (.name 9) (.lst true (.cat (eV 9) (.lst false (.disp [(eS [104,97,110,100,115,32,97,98,99,100,101,102,103,104,105,32,110,111,110,101]),(.bin .add (.bin .add (eS [104,97,110,100,115,32,32]) (eV 1)) (eS [32,110,111,110,101]))])))),
 .asg (.name 9) (.lst true (.cat (eV 9) (.lst false (.disp [(.bin .add (.bin .add (eS [104,97,110,100,115,32]) (eV 1)) (eS [32,110,111,110,101,32])),(.bin .add (.bin .add (eS [104,97,110,100,115,32]) (eV 1)) (eS [32,110,111,110,101,44,32]))])))),
 .exp (.me .append (eV 9) [(.bin .add (eS [104,97,110,100,115,32]) (.tm .join (eS [44,32]) [(.lst false (.comp (.name 11) (.seq (eS [97,98,99,100,101,102,103,104,105])) [] (.bin .add (eV 11) (eS [32,110,111,110,101]))))]))]),
 .asg (.name 10) (.lst true (.disp [(eS []),(eS [104,111,117,115,101,115]),(eS [104,111,117,115,101,115,32]),(.bin .add (eS [104,111,117,115,101,32]) (eV 4)),(.bin .add (.bin .add (.bin .add (eS [104,111,117,115,101,115,32]) (eV 4)) (eS [44])) (eV 5))])),
 .asg (.name 10) (.lst true (.cat (eV 10) (.lst false (.disp [(.bin .add (.bin .add (.bin .add (eS [104,111,117,115,101,115,32]) (eV 4)) (eS [44,32])) (eV 4))])))),
 .asg (.name 10) (.lst true (.cat (eV 10) (.lst false (.disp [(.bin .add (.bin .add (eS [104,111,117,115,101,115,32]) (eV 4)) (eS [44,32])),(eS [104,111,117,115,101,115,32,72,111,109,101]),(.bin .add (.bin .add (.bin .add (eS [104,111,117,115,101,115,32]) (eV 4)) (eS [32])) (eV 5))])))),
 .asg (.name 10) (.lst true (.cat (eV 10) (.lst false (.disp [(eS [104,111,117,115,101,115,32,97,49]),(.bin .add (eS [32,104,111,117,115,101,115,32]) (eV 4))])))),
 .exp (.me .append (eV 10) [(.bin .add (eS [104,111,117,115,101,115,32]) (.tm .join (eS [44,32]) [(.lst false (.of (eS [97,98,99,100,101,102,103,104,105])))]))]),
 .ret (.lst false (.disp [(eV 9),(eV 10)]))]
/- _law_bad_hands (26): 0 _law_words_here,1 _law_one,2 _law_two,3 _law_three,4 _law_home,5 _law_out,6 _law_far,7 _law_get,8 _law_give,9 _law_head,10 _law_tail,11 _law_some -/
def zcq:List S:=[
 .unp [1,2,3,4,5,6,7,8] (eV 0),
 .asg (.name 9) (.bin .add (.bin .add (eS [104,97,110,100,32]) (eV 1)) (eS [32])),
 .asg (.name 10) (.bin .add (eS [32,45,62,32]) (eV 2)),
 .asg (.name 11) (.lst true (.disp [(eS []),(eS [104,97,110,100]),(eV 9),(.bin .add (eV 9) (eV 7)),(.bin .add (.bin .add (eV 9) (eV 7)) (eS [32,45,62])),(.bin .add (.bin .add (.bin .add (eV 9) (eV 7)) (eS [45,62,32])) (eV 2))])),
 .asg (.name 11) (.lst true (.cat (eV 11) (.lst false (.disp [(.bin .add (.bin .add (eV 9) (eV 7)) (eS [32,45,62,32])),(.bin .add (eS [104,97,110,100,115]) (eV 10))])))),
 .asg (.name 11) (.lst true (.cat (eV 11) (.lst false (.disp [(.bin .add (.bin .add (.bin .add (.bin .add (eV 9) (eV 7)) (eS [32,45,62,32])) (eV 4)) (eS [110,105,110,101,108,101,116,116,101])),(.bin .add (.bin .add (eS [104,97,110,100,32,122,122,122,122,122,122,122,122,122,32]) (eV 7)) (eV 10))])))),
 .asg (.name 11) (.lst true (.cat (eV 11) (.lst false (.disp [(.bin .add (.bin .add (eV 9) (eS [71,101,116])) (eV 10)),(.bin .add (.bin .add (eV 9) (eS [97,49])) (eV 10))])))),
 .asg (.name 11) (.lst true (.cat (eV 11) (.lst false (.disp [(.bin .add (.bin .add (eV 9) (eS [97,98,99,100,101,102,103,104,105])) (eV 10)),(.bin .add (.bin .add (.bin .add (eV 9) (eV 7)) (eV 10)) (eS [58])),(.bin .add (.bin .add (.bin .add (eV 9) (eV 7)) (eV 10)) (eS [58,32]))])))),
 .asg (.name 11) (.lst true (.cat (eV 11) (.lst false (.disp [(.bin .add (.bin .add (.bin .add (eV 9) (eV 7)) (eV 10)) (eS [58,116,101,108,108]))])))),
 .asg (.name 11) (.lst true (.cat (eV 11) (.lst false (.disp [(.bin .add (.bin .add (.bin .add (eV 9) (eV 7)) (eV 10)) (eS [58,32,116,101,108,108,44,112,117,116])),(.bin .add (.bin .add (.bin .add (eV 9) (eV 7)) (eV 10)) (eS [58,32,116,101,108,108,44,32]))])))),
 .asg (.name 11) (.lst true (.cat (eV 11) (.lst false (.disp [(.bin .add (.bin .add (.bin .add (eV 9) (eV 7)) (eV 10)) (eS [58,32,119,97,105,116]))])))),
 .asg (.name 11) (.lst true (.cat (eV 11) (.lst false (.disp [(.bin .add (.bin .add (.bin .add (eV 9) (eV 7)) (eV 10)) (eS [58,32,111,119,110])),(.bin .add (.bin .add (.bin .add (eV 9) (eV 7)) (eV 10)) (eS [58,32,115,116,97,121]))])))),
 .asg (.name 11) (.lst true (.cat (eV 11) (.lst false (.disp [(.bin .add (.bin .add (.bin .add (.bin .add (eV 9) (eV 7)) (eV 10)) (eS [58,32,115,101,110,100,32])) (eV 7))])))),
 .asg (.name 11) (.lst true (.cat (eV 11) (.lst false (.disp [(.bin .add (.bin .add (.bin .add (.bin .add (.bin .add (eV 9) (eV 7)) (eV 10)) (eS [58,32,115,101,110,100,32])) (eV 7)) (eS [32,97,108,108]))])))),
 .asg (.name 11) (.lst true (.cat (eV 11) (.lst false (.disp [(.bin .add (.bin .add (.bin .add (eV 9) (eV 7)) (eV 10)) (eS [58,32,115,101,110,100,32,114,101,97,100,32,98,97,114,101])),(.bin .add (.bin .add (.bin .add (eV 9) (eV 7)) (eV 10)) (eS [32]))])))),
 .asg (.name 11) (.lst true (.cat (eV 11) (.lst false (.disp [(.bin .add (.bin .add (.bin .add (.bin .add (.bin .add (eV 9) (eV 7)) (eV 10)) (eS [58,32,111,119,110,101,114,32])) (eV 7)) (eS [32,98,97,114,101]))])))),
 .asg (.name 11) (.lst true (.cat (eV 11) (.lst false (.disp [(.bin .add (.bin .add (.bin .add (eV 9) (eV 7)) (eV 10)) (eS [58,32,116,101,108,108,32,110,111,119])),(.bin .add (.bin .add (.bin .add (eV 9) (eV 7)) (eV 10)) (eS [58,32,84,101,108,108]))])))),
 .asg (.name 11) (.lst true (.cat (eV 11) (.lst false (.disp [(.bin .add (.bin .add (.bin .add (eV 9) (eS [114,101,97,100])) (eV 10)) (eS [58,32,107,101,101,112])),(.bin .add (.bin .add (.bin .add (eV 9) (eS [100,114,111,112])) (eV 10)) (eS [58,32,108,111,115,101,44,32,107,101,101,112]))])))),
 .asg (.name 11) (.lst true (.cat (eV 11) (.lst false (.disp [(.bin .add (.bin .add (.bin .add (eV 9) (eV 7)) (eS [32,97,110,121])) (eV 10))])))),
 .asg (.name 11) (.lst true (.cat (eV 11) (.lst false (.disp [(.bin .add (.bin .add (.bin .add (eV 9) (eV 7)) (eV 10)) (eS [58,32,116,101,108,108,44,32,112,117,116])),(.bin .add (.bin .add (.bin .add (eV 9) (eV 7)) (eV 10)) (eS [58,32,112,117,116,44,32,108,111,115,101,44,32,112,117,116]))])))),
 .exp (.me .append (eV 11) [(.bin .add (.bin .add (.bin .add (.bin .add (eV 9) (eV 7)) (eV 10)) (eS [58,32])) (.tm .join (eS [44,32]) [(.bin .mul (.lst false (.disp [(eS [108,111,115,101])])) (eJ 7))]))]),
 .asg (.name 11) (.lst true (.cat (eV 11) (.lst false (.disp [(.bin .add (.bin .add (.bin .add (eS [32]) (eV 9)) (eV 7)) (eV 10)),(.bin .add (.bin .add (.bin .add (.bin .add (eS [104,97,110,100,32,32]) (eV 1)) (eS [32])) (eV 7)) (eV 10))])))),
 .ret (.bin .add (eV 11) (.lst false (.disp [(.bin .add (.bin .add (.bin .add (.bin .add (.bin .add (eV 9) (eV 7)) (eV 10)) (eS [58,32,115,101,110,100,32,32])) (eV 7)) (eS [32,98,97,114,101]))])))]
/- _law_bad_houses (27): 0 _law_words_here,1 _law_one,2 _law_two,3 _law_three,4 _law_home,5 _law_out,6 _law_far,7 _law_get,8 _law_give,9 _law_head,10 _law_tail,11 _law_some -/
def zbQ:List S:=[
 .unp [1,2,3,4,5,6,7,8] (eV 0),
 .asg (.name 9) (.bin .add (.bin .add (.bin .add (.bin .add (eS [104,111,117,115,101,32]) (eV 6)) (eS [32])) (eV 7)) (eS [32])),
 .asg (.name 10) (.bin .add (eS [32,45,62,32]) (eV 5)),
 .asg (.name 11) (.lst false (.disp [(.bin .add (.bin .add (.bin .add (.bin .add (eS [104,111,117,115,101,32]) (eV 6)) (eS [32])) (eV 7)) (eV 10)),(.bin .add (.bin .add (eV 9) (eS [97,108,108])) (eV 10)),(.bin .add (eV 9) (eS [97,110,121]))])),
 .asg (.name 11) (.bin .add (eV 11) (.lst false (.disp [(.bin .add (eV 9) (eS [97,110,121,32,45,62,32])),(.bin .add (.bin .add (.bin .add (eV 9) (eS [97,110,121])) (eV 10)) (eS [58,32,116,101,108,108]))]))),
 .asg (.name 11) (.bin .add (eV 11) (.lst false (.disp [(.bin .add (.bin .add (.bin .add (eV 9) (eS [97,110,121])) (eV 10)) (eS [58,32,112,117,116])),(.bin .add (.bin .add (.bin .add (eV 9) (eS [97,110,121])) (eV 10)) (eS [58,32,108,111,115,101]))]))),
 .asg (.name 11) (.bin .add (eV 11) (.lst false (.disp [(.bin .add (.bin .add (.bin .add (eV 9) (eS [108,97,115,116])) (eV 10)) (eS [58,32,119,97,105,116])),(.bin .add (eV 9) (eS [97,110,121,32,45,62,32,122,122,122,122,58,32,119,97,105,116]))]))),
 .asg (.name 11) (.bin .add (eV 11) (.lst false (.disp [(.bin .add (.bin .add (.bin .add (eV 9) (eS [109,111,114,101])) (eV 10)) (eS [58,32,119,97,105,116])),(.bin .add (.bin .add (.bin .add (eV 9) (eS [97,110,121])) (eV 10)) (eS [58,32,119,97,105,116,44,32,115,116,97,121]))]))),
 .asg (.name 11) (.bin .add (eV 11) (.lst false (.disp [(.bin .add (.bin .add (.bin .add (eV 9) (eS [97,110,121])) (eV 10)) (eS [58,32,111,119,110,44,32,119,97,105,116]))]))),
 .asg (.name 11) (.bin .add (eV 11) (.lst false (.disp [(.bin .add (.bin .add (.bin .add (eS [104,111,117,115,101,32]) (eV 6)) (eS [32,114,101,97,100,32,97,110,121])) (eV 10)),(.bin .add (.bin .add (.bin .add (eS [104,111,117,115,101,32]) (eV 6)) (eS [32,100,114,111,112,32,108,97,115,116])) (eV 10))]))),
 .asg (.name 11) (.bin .add (eV 11) (.lst false (.disp [(.bin .add (.bin .add (.bin .add (eS [104,111,117,115,101,32,70,97,114,32]) (eV 7)) (eS [32,97,110,121])) (eV 10))]))),
 .asg (.name 11) (.bin .add (eV 11) (.lst false (.disp [(.bin .add (eV 9) (eS [97,110,121,32,45,62,32,122,122,122,122,122,122,122,122,122])),(.bin .add (.bin .add (.bin .add (.bin .add (eV 9) (eS [97,110,121])) (eV 10)) (eS [58,32,115,101,110,100,32])) (eV 7))]))),
 .asg (.name 11) (.bin .add (eV 11) (.lst false (.disp [(.bin .add (.bin .add (.bin .add (eV 9) (eS [97,110,121])) (eV 10)) (eS [58,32,111,119,110,44,115,104,97,114,101]))]))),
 .asg (.name 11) (.bin .add (eV 11) (.lst false (.disp [(.bin .add (.bin .add (.bin .add (.bin .add (.bin .add (eV 9) (eS [97,110,121])) (eV 10)) (eS [58,32,111,116,104,101,114,115,32])) (eV 7)) (eS [32,66,97,114,101]))]))),
 .asg (.name 11) (.bin .add (eV 11) (.lst false (.disp [(.bin .add (.bin .add (.bin .add (.bin .add (eV 9) (eS [97,110,121])) (eV 10)) (eS [58,32])) (.tm .join (eS [44,32]) [(.bin .mul (.lst false (.disp [(eS [111,119,110])])) (eJ 7))]))]))),
 .asg (.name 11) (.bin .add (eV 11) (.lst false (.disp [(.bin .add (.bin .add (.bin .add (eV 9) (eS [97,110,121])) (eV 10)) (eS [58,32,115,101,110,100,32,114,101,97,100,32,98,97,114,101])),(.bin .add (.bin .add (.bin .add (eV 9) (eS [97,110,121])) (eV 10)) (eS [58,32,111,119,110,101,114,32,100,114,111,112,32,98,97,114,101]))]))),
 .asg (.name 11) (.bin .add (eV 11) (.lst false (.disp [(.bin .add (.bin .add (.bin .add (eV 9) (eS [97,110,121])) (eV 10)) (eS [58,32,111,116,104,101,114,115,32,110,105,110,101,108,101,116,116,101,32,98,97,114,101])),(.bin .add (.bin .add (.bin .add (eS [104,111,117,115,101,32]) (eV 6)) (eS [32,110,105,110,101,108,101,116,116,101,32,97,110,121])) (eV 10))]))),
 .asg (.name 11) (.bin .add (eV 11) (.lst false (.disp [(.bin .add (.bin .add (.bin .add (eS [104,111,117,115,101,32,110,105,110,101,108,101,116,116,101,32]) (eV 7)) (eS [32,97,110,121])) (eV 10))]))),
 .ret (.bin .add (eV 11) (.lst false (.disp [(.bin .add (.bin .add (.bin .add (eV 9) (eS [97,110,121])) (eV 10)) (eS [58,32,107,101,101,112,32,105,116])),(.bin .add (eS [104,111,109,101]) (eV 10))])))]
/- _law_twice (28): 0 _law_words_here,1 _law_at,2 _law_one,3 _law_two,4 _law_three,5 _law_home,6 _law_out,7 _law_far,8 _law_get,9 _law_give,10 _law_some -/
def zgb:List S:=[
 .unp [2,3,4,5,6,7,8,9] (eV 0),
 .asg (.name 10) (.lst false (.disp [(.bin .add (.bin .add (eS [104,97,110,100,115,32]) (eV 2)) (eS [32,110,111,110,101])),(.bin .add (.bin .add (eS [104,97,110,100,115,32]) (eV 3)) (eS [32,114,101,97,100,44,32,122,122,32,110,111,110,101])),(.bin .add (eS [104,111,117,115,101,115,32]) (eV 5)),(.bin .add (eS [104,111,117,115,101,115,32,122,122,44,32]) (eV 6))])),
 .ife (.val (.cmp .gt (eV 1) (eJ 2))) [.asg (.name 10) (.bin .add (eV 10) (.lst false (.disp [(.bin .add (.bin .add (.bin .add (eS [104,97,110,100,32]) (eV 2)) (eS [32,119,114,105,116,101,32,45,62,32])) (eV 2))]))),.asg (.name 10) (.bin .add (eV 10) (.lst false (.disp [(.bin .add (.bin .add (.bin .add (.bin .add (eS [104,97,110,100,32]) (eV 2)) (eS [32,119,114,105,116,101,32,45,62,32])) (eV 3)) (eS [58,32,116,101,108,108]))])))] [],
 .ife (.val (.cmp .gt (eV 1) (eJ 5))) [.asg (.name 10) (.bin .add (eV 10) (.lst false (.disp [(.bin .add (.bin .add (.bin .add (.bin .add (.bin .add (eS [104,111,117,115,101,32]) (eV 5)) (eS [32])) (eV 8)) (eS [32,108,97,115,116,32,45,62,32])) (eV 7))]))),.asg (.name 10) (.bin .add (eV 10) (.lst false (.disp [(.bin .add (.bin .add (.bin .add (.bin .add (.bin .add (eS [104,111,117,115,101,32]) (eV 5)) (eS [32])) (eV 8)) (eS [32,97,110,121,32,45,62,32])) (eV 5))])))] [],
 .ife (.val (.cmp .gt (eV 1) (eJ 7))) [.asg (.name 10) (.bin .add (eV 10) (.lst false (.disp [(.bin .add (.bin .add (.bin .add (.bin .add (.bin .add (eS [104,111,117,115,101,32]) (eV 6)) (eS [32])) (eV 8)) (eS [32,109,111,114,101,32,45,62,32])) (eV 7))]))),.asg (.name 10) (.bin .add (eV 10) (.lst false (.disp [(.bin .add (.bin .add (.bin .add (.bin .add (.bin .add (eS [104,111,117,115,101,32]) (eV 6)) (eS [32])) (eV 8)) (eS [32,97,110,121,32,45,62,32])) (eV 6))])))] [],
 .ret (eV 10)]
/- _law_bad (29): 0 _law_words_here,1 _law_at,2 _law_draw_here,3 _law_some -/
def zeO:List S:=[
 .ife (.val (.cmp .lt (eV 1) (eJ 2))) [.asg (.name 3) (.idx (.call 25 [(eV 0)]) (eV 1)),.asg (.name 3) (.lst true (.cat (eV 3) (.lst false (.disp [(.bin .add (.bin .add (.bin .add (eS [104,97,110,100,32]) (eX 0 0)) (eS [32,119,114,105,116,101,32,45,62,32])) (eX 0 1)),(.bin .add (.bin .add (.bin .add (eS [104,111,117,115,101,32]) (eX 0 3)) (eS [32,122,122,32,97,110,121,32,45,62,32])) (eX 0 3))])))),.exp (.me .append (eV 3) [(.idx (.lst false (.disp [(.bin .add (eS [104,111,117,115,101,115,32]) (eX 0 3)),(.bin .add (.bin .add (eS [104,97,110,100,115,32]) (eX 0 0)) (eS [32,110,111,110,101]))])) (eV 1))])] [.asg (.name 3) (.lst true (.cat (.bin .add (.call 26 [(eV 0)]) (.call 27 [(eV 0)])) (.bin .mul (.call 28 [(eV 0),(eV 1)]) (eJ 4))))],
 .ret (.idx (eV 3) (.call 22 [(eV 2),(.bi .len [(eV 3)])]))]
/- _law_refused (30): 0 _law_text,1 _law_number,2 e,3 _law_other -/
def zbc:List S:=[
 .tryb (.call 14 [(eV 0)]) 0 2 3 1,
 .ret (.con (.bl false))]
/- _law_exchanged (31): 0 _law_rows_here,1 _law_k,2 _law_turned -/
def zbf:List S:=[
 .for (.name 1) (.rng (eJ 8)) [.asg (.name 2) (.bin .add (.bin .add (.sli (eV 0) (.con .non) (eV 1)) (.lst false (.disp [(.idx (eV 0) (.bin .add (eV 1) (eJ 1))),(.idx (eV 0) (eV 1))]))) (.sli (eV 0) (.bin .add (eV 1) (eJ 2)) (.con .non))),.ife (.val (.cmp .lt (eV 1) (eJ 2))) [.ife (.not (.val (.call 30 [(.tm .join (eS [10]) [(eV 2)]),(eV 1)]))) [.ret (.con (.bl false))] []] [.ife (.val (.cmp .ne (.call 12 [(.call 14 [(.tm .join (eS [10]) [(eV 2)])])]) (.tm .join (eS [10]) [(eV 2)]))) [.ret (.con (.bl false))] []]],
 .ret (.con (.bl true))]
/- law (32): 0 _law_script,1 _law_cell,2 _law_draw_here,3 _law_at,4 _law_words_here,5 _law_rows_here,6 _law_worse,7 _law_later -/
def znH:List S:=[
 .for (.name 1) (.seq (.bin .add (.sli (eV 0) (.con .non) (eJ 20)) (.lst false (.disp [(.bi .sum [(eV 0)])])))) [.asg (.name 2) (.call 21 [(eV 1)]),.asg (.name 3) (.call 22 [(eV 2),(eJ 9)]),.asg (.name 4) (.call 23 [(eV 2),(.lst false (.of (eS [97,98,99,100,101,102,103,104])))]),.asg (.name 5) (.call 24 [(eV 4)]),.ife (.val (.cmp .ne (.call 12 [(.call 14 [(.tm .join (eS [10]) [(eV 5)])])]) (.tm .join (eS [10]) [(eV 5)]))) [.ret (.con (.bl false))] [],.asg (.name 6) (.lst true (.of (eV 5))),.setI (eV 6) (eV 3) (.call 29 [(eV 4),(eV 3),(eV 2)]),.asg (.name 7) (.call 22 [(eV 2),(eJ 9)]),.ife (.val (.cmp .gt (eV 7) (eV 3))) [.setI (eV 6) (eV 7) (.call 29 [(eV 4),(eV 7),(eV 2)])] [],.ife (.or (.not (.val (.call 30 [(.tm .join (eS [10]) [(eV 6)]),(eV 3)]))) (.not (.val (.call 30 [(eX 5 0),(eJ 1)])))) [.ret (.con (.bl false))] [],.ife (.or (.not (.val (.call 30 [(.idx (.lst false (.disp [(.con .non),(eJ 7),(eV 5),(eS [])])) (.bin .mod (eV 1) (eJ 4))),(eJ 0)]))) (.not (.val (.call 31 [(eV 5)])))) [.ret (.con (.bl false))] [],.ife (.not (.val (.call 30 [(.tm .join (eS [10]) [(.bin .add (eV 5) (.lst false (.disp [(eS [])])))]),(eJ 9)]))) [.ret (.con (.bl false))] []],
 .ret (.con (.bl true))]
def P:List F:=[⟨1,2,zdC,false,[],false,false⟩,⟨1,1,zf9,false,[],false,false⟩,⟨1,2,zcP,false,[],false,false⟩,⟨1,2,zde,false,[],false,false⟩,⟨1,2,zdN,false,[],false,false⟩,⟨3,3,zhL,false,[],false,false⟩,⟨2,3,zcs,false,[],false,false⟩,⟨2,2,zbR,false,[],false,false⟩,⟨3,4,zew,false,[],false,false⟩,⟨3,3,zhS,false,[],false,false⟩,⟨1,1,zeo,false,[],false,false⟩,⟨1,3,zbL,false,[],false,false⟩,⟨1,5,zcS,false,[],false,false⟩,⟨1,4,zek,false,[],false,false⟩,⟨1,4,zav,false,[],false,false⟩,⟨1,2,zcT,false,[],false,false⟩,⟨1,1,zcj,false,[],false,false⟩,⟨2,2,zbJ,false,[],false,false⟩,⟨1,1,zea,false,[],false,false⟩,⟨3,9,zbe,false,[],false,false⟩,⟨1,5,zd8,false,[],false,false⟩,⟨1,1,zff,true,[],false,false⟩,⟨2,4,zfu,false,[],false,false⟩,⟨2,6,zdo,false,[],false,false⟩,⟨1,11,zhV,false,[],false,false⟩,⟨1,12,zb6,false,[],false,false⟩,⟨1,12,zcq,false,[],false,false⟩,⟨1,12,zbQ,false,[],false,false⟩,⟨2,11,zgb,false,[],false,false⟩,⟨3,4,zeO,false,[],false,false⟩,⟨2,4,zbc,false,[],false,false⟩,⟨1,3,zbf,false,[],false,false⟩,⟨1,8,znH,false,[],false,false⟩]
variable {Q:R->Sto->Prop}
abbrev W:=List Nat
theorem zpt{c:Nat}{y r:W}(h:c∉r):(c::y).isPrefixOf r=false:=by
 cases r with
 |nil=>rfl
 |cons d r=>
  have:(c==d)=false:=by simp;rintro rfl;exact h Zq
  simp[Xb,this]
theorem fnd_none{c:Nat}{y:W}:∀{x:W},c∉x->fnd (c::y) x=none| [],_=>rfl|d::x,h=>by rw[fnd,zpt h,fnd_none λq=>h (Zx _ q)];rfl
theorem zm6{c:Nat}{y r:W}:∀{x:W},c∉x->fnd (c::y) (x++((c::y)++r))=some x.length
 | [],_=>by
  show fnd (c::y) (c::(y++r))=some 0
  have:(c::y).isPrefixOf (c::(y++r))=true:=by rw[Zj];exact⟨r,rfl⟩
  rw[fnd,this];rfl
 |d::x,h=>by
  have hd:(c==d)=false:=by simp;rintro rfl;exact h Zq
  have e:(c::y).isPrefixOf (d::(x++((c::y)++r)))=false:=by simp[Xb,hd]
  show fnd (c::y) (d::(x++((c::y)++r)))=_;rw[fnd,e,zm6 λq=>h (Zx _ q)];rfl
theorem zeU{z x:W}{y:W}{l:List W}:catS z (x::y::l)=x++(z++catS z (y::l)):=by simp[catS]
theorem zkY{c:Nat}{y:W}:∀(l:List W) (x:W) (n:Nat),(∀w∈x::l,c∉w)->l.length<=n->splS (c::y) n (catS (c::y) (x::l))=x::l
 | [],x,n,h,_=>by
  have e:catS (c::y) [x]=x:=by simp[catS]
  rw[e]
  cases n with|zero=>rfl|succ n=>rw[splS,fnd_none (h x Zq)]
 | x'::l,x,n,h,hn=>by
  cases n with|zero=>simp at hn|succ n=>rw[zeU,splS,zm6 (h x Zq)];simp only;rw[List.take_left,<-Zn,show x.length+(c::y).length=(x++(c::y)).length by simp,Wg,zkY l x' n (λw hw=>h w (Zx _ hw)) (by simpa using hn)]
theorem cat_len{z:W}:∀(l:List W) (x:W),l.length<=(catS z (x::l)).length+0\/z=[]
 | [],x=>.inl (by simp)
 | y :: l,x=>by
  rcases cat_len (z:=z) l y with h | h
  ·by_cases hz:z=[]
   ·exact .inr hz
   ·refine .inl ?_
    rw[zeU,ZZ,ZZ,Zz]
    have:0<z.length:=X2.mpr hz
    omega
  ·exact .inr h
theorem zev{n:Nat}(h:n<=16777216):fit n=true:=by unfold fit big;exact decide_eq_true h
theorem zjy{α β:Type}{g:α->β}:∀xs:List α,xs.filterMap (λx=>some (g x))=xs.map g| []=>rfl|x::xs=>by rw[Yr,ZL,zjy xs]
theorem zdI{α:Type}{l:Option Nat}{f:Ite->M (Option D)}{dD:α->D}{g:α->D}{h:Sto}{xs:List α}{Q:List D->Sto->Prop}(e:∀x∈xs,Ok (f (dI (dD x)) h) λo h1=>o=some (g x)/\h1=h)(s:zaE l h h=true)(q:Q (xs.map g) h):Ok (za1 l f ((xs.map dD).map dI) h) Q:=by rw[YM];refine zgO (d:=dI∘dD) (g:=λx=>some (g x)) e s ?_;rw[zjy];exact q
theorem znj{α:Type}{f:α->Nat}{B:Nat}:∀l:List α,(∀x∈l,f x<=B)->(l.map f).sum<=l.length*B
 | [],_=>by simp
 |x::l,h=>by
  rw[ZL,Xj,Zz,Nat.succ_mul]
  have:=znj l λy hy=>h y (Zx _ hy)
  have:=h x Zq
  omega
theorem zki{z:W}{B:Nat}:∀l:List W,(∀x∈l,x.length<=B)->(catS z l).length<=l.length*(B+z.length)
 | [],_=>by simp[catS]
 | [x],h=>by
  have:=h x Zq
  simp[catS];omega
 |x::y::l,h=>by
  have ih:=zki (z:=z) (y::l) λw hw=>h w (Zx _ hw)
  have:=h x Zq
  rw[zeU,ZZ,ZZ,Zz,Nat.succ_mul];omega
theorem zsQ{z:W}{l:List W}(B:Nat)(hl:∀x∈l,x.length<=B)(hb:l.length*(B+z.length)<=16777216):tmD .join (.str z) [.lst (l.map D.str)]=some (.str (catS z l)):=zmd (zis l) (zev (Zc (znj l λx hx=>Nat.add_le_add_right (hl x hx) _) hb))
theorem splJ{c:Nat}{y x:W}{l:List W}(h:∀w∈x::l,c∉w)(hb:(catS (c::y) (x::l)).length<=1000000):splD (.str (catS (c::y) (x::l))) (.str (c::y))=some ((x::l).map D.str):=by
 have hl:l.length<=(catS (c::y) (x::l)).length:=by
  rcases cat_len (z:=c::y) l x with h | h
  ·simpa using h
  ·cases h
 have e:=zkY (y:=y) l x _ h hl
 rw[zlN (by simp) (zev (by omega)) (by rw[e];exact zev (by rw[Zz];omega)),e]
theorem len1{h:Sto}{o:Ob}:(h++[o]).length=h.length+1:=by simp
theorem zr4{h t:Sto}{xs ys:List D}:objs (h++.lst xs::t) (h++.lst ys::t)=true:=by
 have:=zl8 (h:=h++.lst xs::t) (l:=h.length) (xs:=xs) (ys:=ys) zaq
 rwa [zba] at this
theorem f1{k:Bool}{x:D}{xs ys:List D}{h t:Sto}{Q:R->Sto->Prop}(q:Q (.d x) (h++.lst ys::t)):Ok (fin (h++.lst xs::t) false k (.d x) (h++.lst ys::t)) Q:=fd zr4 (by rw[Y7 (by simp)];exact q)
theorem md(x:Int){m:Int}(h:0<m):0<=x%m/\x%m<m:=⟨Int.emod_nonneg _ (by omega),Int.emod_lt_of_pos _ h⟩
theorem bmul(x:Int){c:Int}(h1:-(2^64)<c)(h2:c<2^64):bop .mul (.int x) (.int c)=some (.int (x*c)):=zov (by rw[zme h1 h2];simp)
theorem bfd{a z:Int}(z0:0<z)(z1:z<wide):bop .fdiv (.int a) (.int z)=some (.int (a / z)):=by show(if(decide (0<z)&&decide (z<wide))=true then some (D.int (a / z)) else none)=_;rw[if_pos (by simp[z0,z1])]
abbrev dr(a b:Int):Ob:=.lst [.int a,.int b]
theorem zbx(n:Nat){h t:Sto}{a b z:Int}(z0:0<z)(wz:z<wide)(k:∀r a' b',0<=r->r<z->Q (.d (.int r)) (h++dr a' b'::t)):Ok (zaf P (n+1) 22 [.loc h.length,.d (.int z)] (h++dr a b::t)) Q:=by
 refine cl (F:=⟨2,4,zfu,false,[],false,false⟩) rfl rfl rfl ?_;refine st zaq ?_;refine st (bmul _ (by decide) (by decide)) ?_;refine st zaq ?_;ac_rfl;rw[zba];have m:=md (b*48271+11) (m:=2147483647) (by decide);generalize (b*48271+11)%2147483647=y at m⊢;refine st zaq ?_;refine br (λc=>?_) (λc=>?_)
 ·ac_rfl
  refine st zaq ?_;refine st (zkA z0) ?_;refine st zaq ?_;refine st (bfd z0 wz) ?_;ac_rfl;refine st zaq ?_;ac_rfl;rw[zba];have m2:=md a z0;exact f1 (k _ _ _ m2.1 m2.2)
 ·ac_rfl
  refine st zaq ?_;refine st zaq ?_;refine st (bmul _ (by omega) (by omega)) ?_;ac_rfl;have m2:=md (y*(y / 1009+69621)) (m:=2147483647) (by decide);generalize y*(y / 1009+69621)%2147483647=w at m2⊢;refine st (bmul _ (by omega) (by omega)) ?_;refine st (zkA z0) ?_;have m3:=md (w*(w / 757+16807)%2147483629) z0;exact f1 (k _ _ _ m3.1 m3.2)
theorem zjF(n:Nat){h:Sto}{c:Int}(k:∀a b,Q (.loc h.length) (h++[dr a b])):Ok (zaf P (n+1) 21 [.d (.int c)] h) Q:=by refine cl (F:=⟨1,1,zff,true,[],false,false⟩) rfl rfl rfl ?_;have m:=md c (m:=2) (by decide);refine st (bmul _ (by omega) (by omega)) ?_;exact zmR (k _ _)
theorem zrg{l:List W}{i:Int}(h0:0<=i)(h1:i<l.length):∃w∈l,idxD (.lst (l.map D.str)) (.int i)=some (.str w):=by
 obtain⟨x,hx,e⟩:=zkM (xs:=l.map D.str) h0 (by rw[Z1];exact h1)
 obtain⟨w,hw,rfl⟩:=XM.mp hx;exact⟨w,hw,e⟩
theorem zc2{h t:Sto}{x y o:Ob}:(h++x::(t++[o]))[(h++y::t).length]?=some o:=by
 have:h++x::(t++[o])=(h++x::t)++[o]:=by simp
 rw[this,show(h++y::t).length=(h++x::t).length by simp];exact zaq
theorem zmS{h t:Sto}{x y o o':Ob}:(h++x::(t++[o])).set (h++y::t).length o'=h++x::(t++[o']):=by
 have:h++x::(t++[o])=(h++x::t)++[o]:=by simp
 rw[this,show(h++y::t).length=(h++x::t).length by simp,zba];simp
theorem f4{k:Bool}{x:D}{xs ys:List D}{h t u:Sto}{Q:R->Sto->Prop}(q:Q (.d x) (h++.lst ys::t)):Ok (fin (h++.lst xs::t) false k (.d x) (h++.lst ys::(t++u))) Q:=by
 have e:=zcg (h:=h++.lst xs::t) (t:=u) (l:=h.length) (xs:=xs) (ys:=ys) zaq;rw[zba] at e
 have e2:h++Ob.lst ys::(t++u)=(h++Ob.lst ys::t)++u:=by simp
 rw[e2];refine fd e ?_;rw[List.take_left' (by simp)];exact q
variable {Q:R->Sto->Prop}
theorem ofE{α:Type}{m:M α}{h h1:Sto}{a:α}{Q:α->Sto->Prop}(e:m h=some (a,h1))(k:Q a h1):Ok (m h) Q:=⟨a,h1,e,k⟩
theorem zg1(c:Nat):∀l:W,(fnd [c] l).isSome=l.contains c
 | []=>rfl
 | d::l=>by
  have e:[c].isPrefixOf (d::l)=(c==d):=by simp[Xb]
  rw[fnd,e,Wi,<-zg1 c l]
  cases h:(c==d) with
  |true=>rfl
  |false=>
   simp only[ZM,if_false,WL]
   cases fnd [c] l<;>rfl
abbrev abc:W:=[97,98,99,100,101,102,103,104,105,106,107,108,109,110,111,112,113,114,115,116,117,118,119,120,121,122]
theorem zjj(c:Nat):(fnd [c] abc).isSome=low' c:=by rw[zg1,YW,Y4,show abc=(Zk 26).map (·+97) from rfl,XM];simp only[List.mem_range,low',Z9,decide_eq_true_eq];exact⟨λ⟨i,h1,h2⟩=>by omega,λh=>⟨c-97,by omega,by omega⟩⟩
theorem zbT{α:Type}{f:α->Bool}:∀l:List α,zas (l.map λx=>D.bl (f x))=some (l.map f)| []=>rfl|x::l=>by rw[ZL,zas,zbT l];rfl
theorem zrG{α:Type}{f:α->Bool}{l:List α}:biD .all [.lst (l.map λx=>D.bl (f x))]=some (.bl (l.all f)):=by show(match zas (l.map λx=>D.bl (f x)) with | some bs=>some (D.bl (bs.all id)) | none=>none)=_;rw[zbT];simp[List.all_map]
theorem znm{α:Type}{f:α->Bool}{l:List α}:biD .any [.lst (l.map λx=>D.bl (f x))]=some (.bl (l.any f)):=by show(match zas (l.map λx=>D.bl (f x)) with | some bs=>some (D.bl (bs.any id)) | none=>none)=_;rw[zbT];simp[VQ]
theorem lenS{t:W}(h:fit t.length=true):biD .len [.str t]=some (.int t.length):=if_pos h
def isWd(t:W):Bool:=decide (1<=t.length)&&decide (t.length<=8)&&t.all low'
theorem zpm(n:Nat){h:Sto}{t:W}(hf:fit t.length=true):zaf P (n+1) 0 [.d (.str t)] h=some (.d (.bl (isWd t)),h):=by
 refine Ok.eq (cl (F:=⟨1,2,zdC,false,[],false,false⟩) rfl rfl rfl ?_);refine st (lenS hf) ?_;refine br (λc=>?_) (λc=>?_)
 ·have c:=of_decide_eq_true c
  refine f0 ⟨?_,rfl⟩
  rw[show isWd t=false from by unfold isWd;rw[show decide (1<=t.length)=false from decide_eq_false (by omega)];rfl]
 ·have c:=of_decide_eq_false c
  refine st (lenS hf) ?_;refine br (λc2=>?_) (λc2=>?_)
  ·have c2:=of_decide_eq_true c2
   refine f0 ⟨?_,rfl⟩
   rw[show isWd t=false from by unfold isWd;rw[show decide (t.length<=8)=false from decide_eq_false (by omega),XY];rfl]
  ·have c2:=of_decide_eq_false c2
   refine bt hf ?_;refine ask (zdI (dD:=λc=>D.str [c]) (g:=λc=>D.bl (low' c)) (λc hc=>?_) zaA ?_)
   ·refine gc ?_
    exact⟨by rw[zjj],rfl⟩
   ·refine st zrG ?_
    refine f0 ⟨?_,rfl⟩;unfold isWd;rw[show decide (1<=t.length)=true from decide_eq_true (by omega),show decide (t.length<=8)=true from decide_eq_true (by omega)];rfl
def zod(t:W):Option Bool:=if !fit (7*t.length) then none else if t.isEmpty then some false else if t.any λc=>decide (c<1000)&&!low' c then some false else if decide (mx t<=8) then some true else if decide (8<t.length) then some false else none
def prW(ds:List D):Option D:=match ds with| [.str t]=>(zod t).map D.bl|_=>none
theorem zjD{w:Nat->W}(hw:Ws w):∀t:W,(vt w t).all low'=!(t.any λc=>decide (c<1000)&&!low' c)
 | []=>rfl
 | c::t=>by
  rw[vt,List.all_append,zjD hw t,V6,Bool.not_or]
  congr 1
  unfold vc
  split
  ·rename_i h
   rw[show decide (c<1000)=true from decide_eq_true h];simp
  ·rename_i h
   rw[show decide (c<1000)=false from decide_eq_false h];simp only[Yv,Bool.not_false];rw[Zl];intro d hd
   have:=hw.low _ d hd
   simp only[low',Z9,decide_eq_true_eq];exact this
theorem zmQ{w:Nat->W}(hw:Ws w){t:W}{b:Bool}(h:zod t=some b):fit (vt w t).length=true/\isWd (vt w t)=b:=by
 unfold zod at h
 split at h
 ·cases h
 ·rename_i hf
  have hf:fit (7*t.length)=true:=by simpa using hf
  refine⟨zf0 hw hf (ZX _),?_⟩;have l:=zbt hw t
  split at h
  ·rename_i e
   cases h
   have:=VW.mp e
   subst this;rfl
  ·rename_i e
   have ne:1<=t.length:=by
    cases t with|nil=>exact absurd rfl e|cons _ _=>simp
   split at h
   ·rename_i e2
    cases h;unfold isWd;rw[zjD hw,e2,V7,XY]
   ·rename_i e2
    have e2:(t.any λc=>decide (c<1000)&&!low' c)=false:=by simpa using e2
    split at h
    ·rename_i e3
     have e3:=of_decide_eq_true e3;cases h;unfold isWd;rw[zjD hw,e2,show decide (1<=(vt w t).length)=true from decide_eq_true (by omega),show decide ((vt w t).length<=8)=true from decide_eq_true (by omega)];rfl
    ·split at h
     ·rename_i e3
      have e3:=of_decide_eq_true e3;cases h;unfold isWd;rw[show decide ((vt w t).length<=8)=false from decide_eq_false (by omega),XY,Yv]
     ·cases h
theorem zr7{w:Nat->W}(hw:Ws w)(ds:List D)(d:D)(h:prW ds=some d)(n:Nat)(g:Sto):zaf P (n+1) 0 ((D.vls w ds).map R.d) g=some (.d (D.vl w d),g):=by
 unfold prW at h
 split at h
 ·rename_i t
  obtain⟨b,e,rfl⟩:=ZW.mp h;obtain⟨k1,k2⟩:=zmQ hw e;have k:=zpm n (h:=g) k1;rw[k2] at k;exact k
 ·cases h
def cS:zcw:=zk8 P prW 6
theorem sy{w:Nat->W}(hw:Ws w){n f:Nat}{ds:List D}{d:D}(hn:6<=n)(q:cS f ds=some d)(h:Sto):zaf P n f ((D.vls w ds).map R.d) h=some (.d (D.vl w d),h):=zhC hw (zr7 hw) 6 n hn f ds d q h
variable {Q:R->Sto->Prop}
mutual
theorem zeA{w:Nat->W}(hw:Ws w):∀(x y:D) (b:Bool),ceq x y=some b->D.same (D.vl w x) (D.vl w y)=b
 |.str a,y,b,h=>by
  cases y with|str c=>exact zla hw h|_=>cases h
 |.tup a,y,b,h=>by
  cases y with|tup c=>exact ceqs_same hw a c b h|_=>cases h
 |.lst a,y,b,h=>by
  cases y with|lst c=>exact ceqs_same hw a c b h|_=>cases h
 |.int a,y,b,h=>by
  cases y with|int c=>cases h;rfl|_=>cases h
 |.bl _,_,_,h=>by cases h|.non,_,_,h=>by cases h
theorem ceqs_same{w:Nat->W}(hw:Ws w):∀(x y:List D) (b:Bool),ceqs x y=some b->D.sames (D.vls w x) (D.vls w y)=b
 | [],y,b,h=>by
  cases y with|nil=>cases h;rfl|cons _ _=>cases h;rfl
 | a :: r,y,b,h=>by
  cases y with
  |nil=>cases h;rfl
  | cons c t=>
   show(D.same (D.vl w a) (D.vl w c)&&D.sames (D.vls w r) (D.vls w t))=b;change (match ceq a c with | some true=>ceqs r t | some false=>some false | none=>none)=some b at h
   cases e:ceq a c with
   |none=>rw[e] at h;cases h
   |some z=>
    rw[e] at h;rw[zeA hw a c z e]
    cases z with|true=>rw[Yl];exact ceqs_same hw r t b h|false=>cases h;rfl
end
def tkD(w:Nat->W)(tk:List D):List (D×D):=tk.map λp=>(D.vl w p,D.bl true)
theorem zmV{w:Nat->W}(hw:Ws w){a:D}:∀(tk:List D) (b:Bool),cany a tk=some b->(dGet (D.vl w a) (tkD w tk)).isSome=b
 | [],b,h=>by cases h;rfl
 | p::tk,b,h=>by
  change (match ceq p a with | some true=>some true | some false=>cany a tk | none=>none)=some b at h;show(if(D.vl w p).same (D.vl w a) then some (D.bl true) else dGet (D.vl w a) (tkD w tk)).isSome=b
  cases e:ceq p a with
  |none=>rw[e] at h;cases h
  |some z=>
   rw[e] at h;rw[zeA hw p a z e]
   cases z with|true=>cases h;rfl|false=>exact zmV hw tk b h
theorem zns{w:Nat->W}(hw:Ws w){a:D}:∀tk:List D,cany a tk=some false->dPut (D.vl w a) (.bl true) (tkD w tk)=tkD w (tk++[a])
 | [],h=>rfl
 | p :: tk,h=>by
  change (match ceq p a with | some true=>some true | some false=>cany a tk | none=>none)=some false at h;show(if(D.vl w p).same (D.vl w a) then(D.vl w p,D.bl true)::tkD w tk else(D.vl w p,D.bl true)::dPut (D.vl w a) (.bl true) (tkD w tk))=_
  cases e:ceq p a with
  |none=>rw[e] at h;cases h
  | some z=>
   rw[e] at h;rw[zeA hw p a z e]
   cases z with|true=>cases h|false=>rw[if_neg (by simp),zns hw tk h];rfl
mutual
theorem zsj{w:Nat->W}:∀d:D,D.hk (D.vl w d)=D.hk d|.str t=>rfl|.tup xs=>hks_vl xs|.lst xs=>rfl|.non=>rfl|.bl _=>rfl|.int _=>rfl
theorem hks_vl{w:Nat->W}:∀xs:List D,D.hks (D.vls w xs)=D.hks xs| []=>rfl|x::r=>by show(D.hk (D.vl w x)&&D.hks (D.vls w r))=(D.hk x&&D.hks r);rw[zsj x,hks_vl r]
end
theorem zng{w:Nat->W}{d:D}(h:za7 d=true):za7 (D.vl w d)=true:=by
 cases d with|tup xs=>show(D.hks (D.vls w xs)&&decide (D.deps (D.vls w xs)<=6))=true;rw[hks_vl,deps_vl];exact h|_=>cases h
inductive Rw1 where|bad|ok (row pl:D)
def anyS(tk:List D):List D->Option Bool
 | []=>some false
 |a::r=>if za7 a then match cany a tk with
  |some b=>(anyS tk r).map λc=>b||c
  |none=>none else none
def rowS(hs ho:D)(tk:List D)(l:W):Option Rw1:=(cS 20 [.str l]).bind λrow=>if zgw row then some .bad else
 (cS 5 [row,hs,ho]).bind λb=>match b with
  | .bl t=>if t then(cS 11 [row]).bind λrv=>match rv with
    |.lst rs=>(anyS tk rs).bind λu=>if u then some .bad else(cS 10 [row]).bind λpl=>match cany pl tk with
     |some v=>if v||!za7 pl then none else some (.ok row pl)
     |none=>none
    |_=>none
   else some .bad
  |_=>none
theorem zhd{w:Nat->W}(hw:Ws w){tk:List D}:∀{rs:List D} {b:Bool},anyS tk rs=some b->(∀a∈rs,za7 (D.vl w a)=true)/\rs.any (λa=>(dGet (D.vl w a) (tkD w tk)).isSome)=b
 | [],b,h=>by cases h;exact⟨λa ha=>(by cases ha),rfl⟩
 | a::r,b,h=>by
  change (if za7 a then(match cany a tk with | some b=>(anyS tk r).map λc=>b||c | none=>none) else none)=some b at h
  split at h
  case isFalse=>cases h
  rename_i hk
  cases e:cany a tk with
  |none=>rw[e] at h;cases h
  |some z=>
   rw[e] at h;obtain⟨c,e2,rfl⟩:=ZW.mp h;obtain⟨k1,k2⟩:=zhd hw e2;refine⟨λx hx=>?_,by rw[V6,k2,zmV hw tk z e]⟩
   rcases ZE.mp hx with rfl | hx
   ·exact zng hk
   ·exact k1 x hx
def tgR:Tg:=.tup [.name 5,.name 6]
def rB:List S:=[.asg (.name 7) (.call 20 [(.var 6)]),.ife (.or (.val (.cmp .isN (.var 7) (.con .non))) (.not (.val (.call 5 [(.var 7),(.var 1),(.var 2)])))) [.raiN 0 (.var 5)] [],.ife (.val (.bi .any [(.lst false (.comp (.name 8) (.seq (.call 11 [(.var 7)])) [] (.din false (.var 8) (.var 4))))])) [.raiN 0 (.var 5)] [],.setD (.var 4) (.call 10 [(.var 7)]) (.con (.bl true)),.exp (.me .append (.var 3) [(.var 7)])]
section
variable {w:Nat->W}(hw:Ws w){n:Nat}(hn:6<=n){h:Sto}{ls:D}{hs ho:D}
def sg(w:Nat->W)(h:Sto)(ls hs ho:D)(v5 v6 v7:Option R):Env:=[some (.d ls),some (.d (D.vl w hs)),some (.d (D.vl w ho)),some (.loc h.length),some (.loc (h.length+1)),v5,v6,v7,none]
def stR(w:Nat->W)(h:Sto)(acc tk:List D):Sto:=h++[Ob.lst (D.vls w acc),Ob.dic (tkD w tk)]
theorem zik{d:D}:zgw (D.vl w d)=zgw d:=by cases d<;>rfl
theorem zdJ{k:Int}(hk:0<=k/\k<1000){g:Sto}:raN 0 (.d (.int k)) g=some (.d (.tup [.int 0,.int k]),g):=by show(if k.natAbs<2^200 then ok (R.d (.tup [.int ((0:Nat):Int),.int k])) else λ_=>none) g=_;rw[if_pos (ZF (show k.natAbs<1000 by omega) (by decide))];rfl
theorem zgX{Γ:Calls}{σ:Env}{h:Sto}{Q:R->Sto->Prop}{c:T}{cl:Nat}{e:E}{b r:List S}(k:wC Γ c σ h λt h1=>t=true/\wE Γ e σ h1 λv h2=>Ok (raN cl v h2) Q):Ok (exXs Γ (.ife c [.raiN cl e] b::r) σ h) Q:=by
 have k:=(qC Γ c σ h _).mpr k;obtain⟨t,h1,e1,rfl,q⟩:=k;have q:=(qE Γ e σ h1 _).mpr q;obtain⟨v,h2,e2,q⟩:=q;refine zih ?_ ?_
 ·show bnd (tv Γ c σ) _ h=none
  simp only[bnd,e1];rfl
 ·show Ok (bnd (tv Γ c σ) _ h) Q
  simp only[bnd,e1];show Ok (exXs Γ [.raiN cl e] σ h1) Q;refine zih rfl ?_;show Ok (bnd (ev Γ e σ) _ h1) Q;simp only[bnd,e2];exact q
include hw hn
theorem zka{acc tk:List D}{l:W}{row pl:D}{k:Int}{v5 v6 v7:Option R}(q:rowS hs ho tk l=some (.ok row pl))(h1:acc.length<1000)(h2:tk.length<1000):
  Ok (bnd (zan tgR (.en k (.d (.str (vt w l)))) (sg w h ls hs ho v5 v6 v7)) (λσ'=>exs (zaf P n) rB σ') (stR w h acc tk)) λp g=>p.1=.nx/\(∃v5 v6 v7,p.2=sg w h ls hs ho v5 v6 v7)/\g=stR w h (acc++[row]) (tk++[pl]):=by
 unfold rowS at q;obtain⟨r0,e1,q⟩:=bind_some q
 split at q
 ·cases q
 rename_i nn
 have nn:zgw r0=false:=by simpa using nn
 obtain⟨b,e2,q⟩:=bind_some q
 split at q
 case h_2=>cases q
 rename_i t
 split at q
 case isFalse=>cases q
 rename_i ht;have ht:t=true:=ht;subst ht;obtain⟨rv,e3,q⟩:=bind_some q
 split at q
 case h_2=>cases q
 rename_i rs;obtain⟨u,e4,q⟩:=bind_some q
 split at q
 ·cases q
 rename_i hu
 have hu:u=false:=by simpa using hu
 subst hu;obtain⟨p0,e5,q⟩:=bind_some q
 split at q
 case h_2=>cases q
 rename_i v e6
 split at q
 ·cases q
 rename_i hv;simp only[Za,ZJ,not_or,WS,Bool.not_eq_false] at hv;obtain⟨hv,hk⟩:=hv;subst hv;cases q;obtain⟨a1,a2⟩:=zhd hw e4;unfold stR;refine gb ?_;refine ask (ofE (sy hw hn e1 _) ?_)
 refine bf (by rw[zik];exact nn) ?_
 refine ask (ofE (sy hw hn (ds:=[row,hs,ho]) e2 _) ?_);refine ask (ofE (sy hw hn (ds:=[row]) e3 _) ?_);ac_rfl;rw[zau];refine ask (zdI (dD:=D.vl w) (g:=λa=>D.bl ((dGet (D.vl w a) (tkD w tk)).isSome)) (λa ha=>?_) zaA ?_)
 ·refine gc ?_
  refine st zbG ?_;refine bt (a1 a ha) ?_;exact⟨rfl,rfl⟩
 refine st znm ?_;refine bf a2 ?_;refine ask (ofE (sy hw hn (ds:=[row]) e5 _) ?_);refine bt (zng hk) ?_;refine st zbG ?_
 refine⟨by unfold big;simp[tkD];omega,?_⟩
 rw[zfd,zns hw _ e6];refine st zaq ?_;refine st zaq ?_
 refine⟨by rw[zap];unfold big;omega,?_⟩
 rw[zba];refine⟨rfl,⟨_,_,_,rfl⟩,?_⟩;rw[za0];rfl
theorem zlR{acc tk:List D}{l:W}{k:Int}{v5 v6 v7:Option R}(q:rowS hs ho tk l=some .bad)(hk:0<=k/\k<1000):
  Ok (bnd (zan tgR (.en k (.d (.str (vt w l)))) (sg w h ls hs ho v5 v6 v7)) (λσ'=>exXs (zaf P n) rB σ') (stR w h acc tk)) λr g=>r=.d (.tup [.int 0,.int k])/\g=stR w h acc tk:=by
 unfold rowS at q;obtain⟨r0,e1,q⟩:=bind_some q;unfold stR;refine gbX ?_;refine x_nx ?_;refine ask (ofE (sy hw hn e1 _) ?_)
 split at q
 ·rename_i nn
  refine zgX ?_
  refine bt (by rw[zik];exact nn) ?_
  exact⟨rfl,ofE (zdJ hk) ⟨rfl,rfl⟩⟩
 rename_i nn
 have nn:zgw r0=false:=by simpa using nn
 obtain⟨b,e2,q⟩:=bind_some q
 split at q
 case h_2=>cases q
 rename_i t
 split at q
 ·rename_i ht
  have ht:t=true:=ht;subst ht;obtain⟨rv,e3,q⟩:=bind_some q
  split at q
  case h_2=>cases q
  rename_i rs;obtain⟨u,e4,q⟩:=bind_some q
  split at q
  ·rename_i hu
   have hu:u=true:=hu;subst hu;obtain⟨a1,a2⟩:=zhd hw e4;refine x_nx ?_
   refine bf (by rw[zik];exact nn) ?_
   refine ask (ofE (sy hw hn (ds:=[r0,hs,ho]) e2 _) ?_);refine zgX ?_;refine ask (ofE (sy hw hn (ds:=[r0]) e3 _) ?_);ac_rfl;rw[zau];refine ask (zdI (dD:=D.vl w) (g:=λa=>D.bl ((dGet (D.vl w a) (tkD w tk)).isSome)) (λa ha=>?_) zaA ?_)
   ·refine gc ?_
    refine st zbG ?_;refine bt (a1 a ha) ?_;exact⟨rfl,rfl⟩
   refine st znm ?_;exact⟨a2,ofE (zdJ hk) ⟨rfl,rfl⟩⟩
  ·obtain ⟨p0,e5,q⟩:=bind_some q
   split at q
   ·split at q<;>cases q
   ·cases q
 ·rename_i ht
  have ht:t=false:=by simpa using ht
  subst ht;refine zgX ?_
  refine bf (by rw[zik];exact nn) ?_
  refine ask (ofE (sy hw hn (ds:=[r0,hs,ho]) e2 _) ?_);exact⟨rfl,ofE (zdJ hk) ⟨rfl,rfl⟩⟩
end
variable {Q:R->Sto->Prop}
inductive Rs1 where|bad (k:Int)|ok (rows:List D)
def runS(hs ho:D):Int->List D->List D->List W->Option Rs1
 |_,acc,_,[]=>some (.ok acc)
 |k,acc,tk,l::r=>match rowS hs ho tk l with
  |some .bad=>some (.bad k)|some (.ok row pl)=>runS hs ho (k+1) (acc++[row]) (tk++[pl]) r|none=>none
def enuL:Int->List D->List Ite|_,[]=>[]|k,x::r=>.en k (.d x)::enuL (k+1) r
theorem znh:∀(xs:List D) (k:Int),zaz k (xs.map dI)=some (enuL k xs)| [],_=>rfl|x::xs,k=>by show(match zaz (k+1) (xs.map dI) with | some l=>some (Ite.en k (.d x)::l) | none=>none)=_;rw[znh xs (k+1)];rfl
theorem zrn{k:Nat}{xs:List D}{h:Sto}{Q:Wk->Sto->Prop}(hk:k<1000)(q:Q ⟨enuL k xs,none⟩ h):Ok (zhp k (.d (.lst xs)) h) Q:=by unfold zhp;rw[if_pos (by simp[isLs,hk])];rw[propext ok_bnd,propext zhA];simp only[znh];exact ok_ok.mpr q
theorem cut2{α:Type}{a b:α}{l:List α}:cut (a::b::l) (some 2) none=l:=by
 unfold cut
 have e1:sIx (a::b::l).length 0 (some 2)=2:=by simp[sIx]
 have e2:sIx (a::b::l).length (a::b::l).length none=(a::b::l).length:=rfl;rw[e1,e2];simp
section
variable {w:Nat->W}(hw:Ws w){n:Nat}(hn:6<=n){h:Sto}{ll:D}{hs ho:D}
include hw hn
theorem zkX:∀(ls:List W) (k:Int) (acc tk rows:List D) (v5 v6 v7:Option R),runS hs ho k acc tk ls=some (.ok rows)->acc.length+ls.length<1000->tk.length+ls.length<1000 →
  Ok (loop none (λx σ=>bnd (zan tgR x σ) λσ'=>exs (zaf P n) rB σ') (enuL k (ls.map λl=>D.str (vt w l))) (sg w h ll hs ho v5 v6 v7) (stR w h acc tk)) λp g=>p.1=.nx/\(∃v5 v6 v7,p.2=sg w h ll hs ho v5 v6 v7)/\∃tk',g=stR w h rows tk'
 | [],k,acc,tk,rows,v5,v6,v7,q,_,_=>by cases q;exact⟨_,_,rfl,rfl,⟨_,_,_,rfl⟩,tk,rfl⟩
 | l :: ls,k,acc,tk,rows,v5,v6,v7,q,h1,h2=>by
  change (match rowS hs ho tk l with | some .bad=>some (.bad k) | some (.ok row pl)=>runS hs ho (k+1) (acc++[row]) (tk++[pl]) ls | none=>none)=some (Rs1.ok rows) at q;simp only[Zz] at h1 h2
  cases e:rowS hs ho tk l with
  |none=>rw[e] at q;cases q
  | some r=>
   rw[e] at q
   cases r with
   |bad=>cases q
   |ok row pl=>
    obtain⟨⟨fl,σ1⟩,g,e1,rfl,⟨u5,u6,u7,rfl⟩,rfl⟩:=zka hw hn (h:=h) (ls:=ll) (k:=k) (v5:=v5) (v6:=v6) (v7:=v7) (acc:=acc) e (by omega) (by omega)
    have ih:=zkX ls (k+1) (acc++[row]) (tk++[pl]) rows u5 u6 u7 q (by rw[ZZ,Y5];omega) (by rw[ZZ,Y5];omega)
    show Ok (loop none _ (.en k (.d (.str (vt w l)))::enuL (k+1) (ls.map λl=>D.str (vt w l))) _ _) _;unfold loop;simp only[e1];exact ih
theorem zh1{rest:List W}:∀(ls:List W) (k m:Int) (acc tk:List D) (v5 v6 v7:Option R),runS hs ho k acc tk ls=some (.bad m)->acc.length+ls.length<1000->tk.length+ls.length<1000->0<=k->k+ls.length<1000 →
  Ok (zb9 none (λx σ=>bnd (zan tgR x σ) λσ'=>exs (zaf P n) rB σ') (λx σ=>bnd (zan tgR x σ) λσ'=>exXs (zaf P n) rB σ') (enuL k ((ls.map (vt w)++rest).map D.str)) (sg w h ll hs ho v5 v6 v7) (stR w h acc tk)) λr g=>r=.d (.tup [.int 0,.int m])/\∃acc' tk',g=stR w h acc' tk'
 | [],k,m,acc,tk,v5,v6,v7,q,_,_,_,_=>by cases q
 | l :: ls,k,m,acc,tk,v5,v6,v7,q,h1,h2,k0,k1=>by
  change (match rowS hs ho tk l with | some .bad=>some (.bad k) | some (.ok row pl)=>runS hs ho (k+1) (acc++[row]) (tk++[pl]) ls | none=>none)=some (Rs1.bad m) at q;simp only[Zz] at h1 h2 k1;show Ok (zb9 none _ _ (.en k (.d (.str (vt w l)))::enuL (k+1) ((ls.map (vt w)++rest).map D.str)) _ _) _
  cases e:rowS hs ho tk l with
  |none=>rw[e] at q;cases q
  | some r=>
   rw[e] at q
   cases r with
   |bad=>cases q;have b:=zlR hw hn (h:=h) (ls:=ll) (k:=k) (v5:=v5) (v6:=v6) (v7:=v7) (acc:=acc) e ⟨k0,by omega⟩;have e0:=znM b;unfold zb9;simp only[e0];exact b.mono λr g z=>⟨z.1,acc,tk,z.2⟩
   |ok row pl=>
    obtain⟨⟨fl,σ1⟩,g,e1,rfl,⟨u5,u6,u7,rfl⟩,rfl⟩:=zka hw hn (h:=h) (ls:=ll) (k:=k) (v5:=v5) (v6:=v6) (v7:=v7) (acc:=acc) e (by omega) (by omega)
    have ih:=zh1 (rest:=rest) ls (k+1) m (acc++[row]) (tk++[pl]) u5 u6 u7 q (by rw[ZZ,Y5];omega) (by rw[ZZ,Y5];omega) (by omega) (by omega)
    unfold zb9;simp only[e1];exact ih
theorem zpn{a b:W}{ls:List W}{rows:List D}(q:runS hs ho 2 [] [] ls=some (.ok rows))(hl:ls.length<100):
  zaf P (n+1) 19 [.d (.lst ((a::b::ls.map (vt w)).map D.str)),.d (D.vl w hs),.d (D.vl w ho)] h=some (.d (.tup (D.vls w rows)),h):=by
 refine Ok.eq (cl (F:=⟨3,9,zbe,false,[],false,false⟩) rfl rfl rfl ?_);ac_rfl;rw[ZL,ZL,cut2,YM];refine zrn (by decide) ?_
 have k:=zkX hw hn (h:=h) (ll:=.lst (.str a::.str b::ls.map (D.str∘vt w))) ls 2 [] [] rows none none none q (by simp;omega) (by simp;omega)
 have es:((h++[Ob.lst []])++[Ob.dic []])=stR w h [] []:=by unfold stR;rw[Zn];rfl
 have el:(h++[Ob.lst []]).length=h.length+1:=by simp
 rw[es,el];refine ask (k.mono ?_)
 rintro p g ⟨h1,⟨u5,u6,u7,h2⟩,tk',rfl⟩
 rw[h1,h2];refine st zaq ?_;exact fa ⟨rfl,rfl⟩
theorem zlT{a b:W}{ls rest:List W}{m:Int}(q:runS hs ho 2 [] [] ls=some (.bad m))(hl:ls.length<100):
  Ok (zaf P (n+1) (xof 19) [.d (.lst ((a::b::(ls.map (vt w)++rest)).map D.str)),.d (D.vl w hs),.d (D.vl w ho)] h) λr g=>r=.d (.tup [.int 0,.int m])/\g=h:=by
 refine clX (F:=⟨3,9,zbe,false,[],false,false⟩) (by decide) rfl rfl rfl ?_;refine x_nx ?_;refine x_nx ?_;refine zso ?_;ac_rfl;rw[ZL,ZL,cut2];refine zrn (by decide) ?_
 have k:=zh1 hw hn (h:=h) (rest:=rest) (ll:=.lst (.str a::.str b::(ls.map (vt w)++rest).map D.str)) ls 2 m [] [] none none none q (by simp;omega) (by simp;omega) (by omega) (by omega)
 have es:((h++[Ob.lst []])++[Ob.dic []])=stR w h [] []:=by unfold stR;rw[Zn];rfl
 have el:(h++[Ob.lst []]).length=h.length+1:=by simp
 rw[es,el];refine k.mono ?_
 rintro r g ⟨rfl,acc',tk',rfl⟩
 show Ok (finX h false false (.d (.tup [.int 0,.int m])) _) _
 have:fin h false false (.d (.int 0)) (stR w h acc' tk')=some (.d (.int 0),h):=Ok.eq (fa ⟨rfl,rfl⟩)
 simp only[finX,this];exact⟨_,_,rfl,rfl,rfl⟩
end
variable {Q:R->Sto->Prop}
def zb3(l:W):Option (Option D):=(cS 15 [.str l]).bind λhands=>(cS 3 [hands]).bind λb=>match b with|.bl t=>some (if t then some hands else none)|_=>none
def zbA(l:W):Option (Option D):=(cS 16 [.str l]).bind λho=>(cS 2 [ho]).bind λb=>match b with|.bl t=>some (if t then some ho else none)|_=>none
theorem zcd{l:W}{o:Option D}(h:zb3 l=some o):∃d b,cS 15 [.str l]=some d/\cS 3 [d]=some (.bl b)/\o=if b then some d else none:=by
 obtain⟨d,e1,h⟩:=bind_some h;obtain⟨b,e2,h⟩:=bind_some h
 cases b with|bl t=>cases h;exact⟨d,t,e1,e2,rfl⟩|_=>cases h
theorem zc6{l:W}{o:Option D}(h:zbA l=some o):∃d b,cS 16 [.str l]=some d/\cS 2 [d]=some (.bl b)/\o=if b then some d else none:=by
 obtain⟨d,e1,h⟩:=bind_some h;obtain⟨b,e2,h⟩:=bind_some h
 cases b with|bl t=>cases h;exact⟨d,t,e1,e2,rfl⟩|_=>cases h
structure Lns(L:List W):Prop where
 no:∀x∈L,10∉x
 len:∀x∈L,x.length<=1000
 cnt:L.length<=12
theorem Lns.spl{x:W}{l:List W}(t:Lns (x::l)):splD (.str (catS [10] (x::l))) (.str [10])=some ((x::l).map D.str):=by refine splJ (y:=[]) t.no ?_;have h1:=zki (z:=[10]) (x::l) t.len;have h2:=t.cnt;have h3:(x::l).length*(1000+([10]:W).length)<=12*(1000+1):=WX h2 (ZX _);omega
theorem Lns.join{l:List W}(t:Lns l):tmD .join (.str [10]) [.lst (l.map D.str)]=some (.str (catS [10] l)):=by refine zsQ 1000 t.len ?_;have h3:l.length*(1000+([10]:W).length)<=12*(1000+1):=WX t.cnt (ZX _);omega
theorem idx0{x:D}{l:List D}:idxD (.lst (x::l)) (.int 0)=some x:=by
 show at' (x::l) 0=_;unfold at'
 have:ixn (x::l).length 0=some 0:=by unfold ixn;rw[if_pos (by decide),if_pos (by simp)];rfl
 rw[this];rfl
theorem idx1{x y:D}{l:List D}:idxD (.lst (x::y::l)) (.int 1)=some y:=by
 show at' (x::y::l) 1=_;unfold at'
 have:ixn (x::y::l).length 1=some 1:=by
  unfold ixn
  rw[if_pos (by decide),if_pos (by simp;omega)]
  rfl
 rw[this];rfl
theorem zrl{Γ:Calls}{σ:Env}{h:Sto}{Q:R->Sto->Prop}{a b:E}{f:Nat}{es:List E}{r:List S}(k:wE Γ a σ h λ_ h1=>wE Γ b σ h1 λ_ h2=>wEs Γ es σ h2 λrs h3=>Γ f rs h3=none/\Ok (Γ (xof f) rs h3) Q):Ok (exXs Γ (.ret (.tup [a,b,.call f es])::r) σ h) Q:=by
 obtain⟨v1,h1,e1,k⟩:=(qE Γ a σ h _).mpr k;obtain⟨v2,h2,e2,k⟩:=(qE Γ b σ h1 _).mpr k;obtain⟨rs,h3,e3,k1,k2⟩:=(qEs Γ es σ h2 _).mpr k;refine zih ?_ ?_
 ·have e4:ev Γ (.call f es) σ h2=none:=by
   show bnd (evs Γ es σ) _ h2=none;simp only[bnd,e3,k1]
  have e5:evs Γ [a,b,.call f es] σ h=none:=by simp only[evs,bnd,e1,e2,e4]
  show bnd (bnd (evs Γ [a,b,.call f es] σ) _) _ h=none;simp only[bnd,e5]
 ·show Ok (bnd (ev Γ a σ) (λ_=>bnd (ev Γ b σ) λ_=>evC Γ (.call f es) σ) h) Q
  simp only[bnd,e1,e2,evC,e3];exact k2
section
variable {w:Nat->W}(hw:Ws w){n:Nat}(hn:7<=n){h:Sto}
include hw hn
theorem zma{l0 l1:W}{ls:List W}{hands houses hs:D}{rows:List D}(q0:zb3 l0=some (some hands))(q1:zbA l1=some (some houses))(q2:cS 4 [hands]=some hs)(q3:runS hs houses 2 [] [] ls=some (.ok rows))(t:Lns ((l0::l1::ls).map (vt w))):
  zaf P (n+1) 14 [.d (.str (catS [10] ((l0::l1::ls).map (vt w))))] h=some (.d (D.vl w (.tup [hands,houses,.tup rows])),h):=by
 obtain⟨d0,b0,a1,a2,a3⟩:=zcd q0;obtain⟨d1,b1,c1,c2,c3⟩:=zc6 q1
 have hb0:b0=true:=by cases b0;cases a3;rfl
 have hb1:b1=true:=by cases b1;cases c3;rfl
 subst hb0 hb1;cases a3;cases c3
 have hl:ls.length<100:=by have:=t.cnt;simp at this;omega
 obtain⟨m,rfl⟩:∃m,n=m+1:=⟨n-1,by omega⟩;refine Ok.eq (cl (F:=⟨1,4,zav,false,[],false,false⟩) rfl rfl rfl ?_);refine st t.spl ?_;refine st idx0 ?_;refine ask (ofE (sy hw (by omega) a1 _) ?_);refine ask (ofE (sy hw (by omega) (ds:=[hands]) a2 _) ?_)
 refine bt (decide_eq_true (by simp;omega)) ?_
 refine st idx1 ?_;refine ask (ofE (sy hw (by omega) c1 _) ?_);refine ask (ofE (sy hw (by omega) (ds:=[houses]) c2 _) ?_);refine ask (ofE (sy hw (by omega) (ds:=[hands]) q2 _) ?_);refine ask (ofE (zpn hw (by omega) q3 hl) ?_);exact f0 ⟨rfl,rfl⟩
def Rai(n:Nat)(h:Sto)(d:D)(k:Int):Prop:=Ok (zaf P (n+1) (xof 14) [.d d] h) λr g=>r=.d (.tup [.int 0,.int k])/\g=h
omit hw hn in
theorem fx{k:Int}:Ok (finX h false false (.d (.tup [.int 0,.int k])) h) λr g=>r=.d (.tup [.int 0,.int k])/\g=h:=by
 have:fin h false false (.d (.int 0)) h=some (.d (.int 0),h):=Ok.eq (f0 ⟨rfl,rfl⟩)
 simp only[finX,this];exact⟨_,_,rfl,rfl,rfl⟩
omit hw hn in
theorem zgL{d:D}(hd:isiD .str d=false):Rai n h d 0:=by
 refine clX (F:=⟨1,4,zav,false,[],false,false⟩) (by decide) rfl rfl rfl ?_;refine zgX ?_
 refine⟨by rw[hd];rfl,?_⟩
 refine ofE (zdJ (by decide)) ?_;exact fx
theorem zfm{l0:W}{rest:List W}(q0:zb3 l0=some none)(t:Lns (vt w l0::rest)):Rai n h (.str (catS [10] (vt w l0::rest))) 0:=by
 obtain⟨d0,b0,a1,a2,a3⟩:=zcd q0
 have hb0:b0=false:=by cases b0;rfl;cases a3
 subst hb0;refine clX (F:=⟨1,4,zav,false,[],false,false⟩) (by decide) rfl rfl rfl ?_;refine x_nx ?_;refine x_nx ?_;refine st t.spl ?_;refine x_nx ?_;refine st idx0 ?_;refine ask (ofE (sy hw (by omega) a1 _) ?_);refine zgX ?_;refine ask (ofE (sy hw (by omega) (ds:=[d0]) a2 _) ?_);exact⟨rfl,ofE (zdJ (by decide)) fx⟩
theorem zoD{l0:W}{hands:D}(q0:zb3 l0=some (some hands))(q:cS 2 [.tup []]=some (.bl false))(t:Lns [vt w l0]):Rai n h (.str (catS [10] [vt w l0])) 1:=by
 obtain⟨d0,b0,a1,a2,a3⟩:=zcd q0
 have hb0:b0=true:=by cases b0;cases a3;rfl
 subst hb0;cases a3;refine clX (F:=⟨1,4,zav,false,[],false,false⟩) (by decide) rfl rfl rfl ?_;refine x_nx ?_;refine x_nx ?_;refine st t.spl ?_;refine x_nx ?_;refine ask (ofE (sy hw (by omega) a1 _) ?_);refine x_nx ?_;refine ask (ofE (sy hw (by omega) (ds:=[hands]) a2 _) ?_);refine x_nx ?_;refine zgX ?_;refine ask (ofE (sy hw (by omega) (ds:=[.tup []]) q _) ?_);exact⟨rfl,ofE (zdJ (by decide)) fx⟩
theorem zgA{l0 l1:W}{rest:List W}{hands:D}(q0:zb3 l0=some (some hands))(q1:zbA l1=some none)(t:Lns (vt w l0::vt w l1::rest)):Rai n h (.str (catS [10] (vt w l0::vt w l1::rest))) 1:=by
 obtain⟨d0,b0,a1,a2,a3⟩:=zcd q0
 have hb0:b0=true:=by cases b0;cases a3;rfl
 subst hb0;cases a3;obtain⟨d1,b1,c1,c2,c3⟩:=zc6 q1
 have hb1:b1=false:=by cases b1;rfl;cases c3
 subst hb1;refine clX (F:=⟨1,4,zav,false,[],false,false⟩) (by decide) rfl rfl rfl ?_;refine x_nx ?_;refine x_nx ?_;refine st t.spl ?_;refine x_nx ?_;refine st idx0 ?_;refine ask (ofE (sy hw (by omega) a1 _) ?_);refine x_nx ?_;refine ask (ofE (sy hw (by omega) (ds:=[hands]) a2 _) ?_);refine x_nx ?_
 refine bt (decide_eq_true (by simp;omega)) ?_
 refine st idx1 ?_;refine ask (ofE (sy hw (by omega) c1 _) ?_);refine zgX ?_;refine ask (ofE (sy hw (by omega) (ds:=[d1]) c2 _) ?_);exact⟨rfl,ofE (zdJ (by decide)) fx⟩
theorem zjG{l0 l1:W}{ls rest:List W}{hands houses hs:D}{m:Int}(q0:zb3 l0=some (some hands))(q1:zbA l1=some (some houses))(q2:cS 4 [hands]=some hs)(q3:runS hs houses 2 [] [] ls=some (.bad m))(t:Lns (vt w l0::vt w l1::(ls.map (vt w)++rest))):
  Rai n h (.str (catS [10] (vt w l0::vt w l1::(ls.map (vt w)++rest)))) m:=by
 obtain⟨d0,b0,a1,a2,a3⟩:=zcd q0;obtain⟨d1,b1,c1,c2,c3⟩:=zc6 q1
 have hb0:b0=true:=by cases b0;cases a3;rfl
 have hb1:b1=true:=by cases b1;cases c3;rfl
 subst hb0 hb1;cases a3;cases c3
 have hl:ls.length<100:=by have:=t.cnt;simp at this;omega
 obtain⟨k,rfl⟩:∃k,n=k+1:=⟨n-1,by omega⟩;refine clX (F:=⟨1,4,zav,false,[],false,false⟩) (by decide) rfl rfl rfl ?_;refine x_nx ?_;refine x_nx ?_;refine st t.spl ?_;refine x_nx ?_;refine st idx0 ?_;refine ask (ofE (sy hw (by omega) a1 _) ?_);refine x_nx ?_;refine ask (ofE (sy hw (by omega) (ds:=[hands]) a2 _) ?_);refine x_nx ?_
 refine bt (decide_eq_true (by simp;omega)) ?_
 refine st idx1 ?_;refine ask (ofE (sy hw (by omega) c1 _) ?_);refine x_nx ?_;refine ask (ofE (sy hw (by omega) (ds:=[houses]) c2 _) ?_);refine zrl ?_;refine ask (ofE (sy hw (by omega) (ds:=[hands]) q2 _) ?_);obtain⟨r,g,e,rfl,rfl⟩:=zlT hw (n:=k) (by omega) (h:=h) (a:=vt w l0) (b:=vt w l1) (rest:=rest) q3 hl;refine⟨zio (by decide) (by decide) e,?_⟩;exact ofE e fx
end
theorem za6{m:Nat}{h:Sto}{t:D}{k j:Int}(R0:Rai m h t j):zaf P (m+2) 30 [.d t,.d (.int k)] h=some (.d (.bl (j==k)),h):=by
 obtain⟨r,g,e2,rfl,rfl⟩:=R0;have e1:=zio (by decide) (by decide) e2
 show (match exs (zaf P (m+1)) zbc [some (.d t),some (.d (.int k)),none,none] g with
    |some ((.ret r,_),h1)=>fin g false false r h1|some ((.nx,_),h1)=>fin g false false (.d .non) h1
    |_=>none)=_
 have a1:ev (zaf P (m+1)) (.call 14 [.var 0]) [some (.d t),some (.d (.int k)),none,none] g=none:=by
  show bnd (evs _ [.var 0] _) _ g=none
  have:evs (zaf P (m+1)) [.var 0] [some (.d t),some (.d (.int k)),none,none] g=some ([.d t],g):=rfl
  simp only[bnd,this,e1]
 have a2:evC (zaf P (m+1)) (.call 14 [.var 0]) [some (.d t),some (.d (.int k)),none,none] g=some (.d (.tup [.int 0,.int j]),g):=by
  show bnd (evs (zaf P (m+1)) [.var 0] [some (.d t),some (.d (.int k)),none,none]) (λrs=>zaf P (m+1) (xof 14) rs) g=_
  have:evs (zaf P (m+1)) [.var 0] [some (.d t),some (.d (.int k)),none,none] g=some ([.d t],g):=rfl
  simp only[bnd,this,e2]
 have a3:tryN 0 1 (ev (zaf P (m+1)) (.call 14 [.var 0])) (evC (zaf P (m+1)) (.call 14 [.var 0])) [some (.d t),some (.d (.int k)),none,none] g=some ((.ret (.d (.bl (j==k))),[some (.d t),some (.d (.int k)),none,none]),g):=by simp only[tryN,a1,a2];rfl
 have a4:exs (zaf P (m+1)) zbc [some (.d t),some (.d (.int k)),none,none] g=some ((.ret (.d (.bl (j==k))),[some (.d t),some (.d (.int k)),none,none]),g):=by show bnd (tryN 0 1 (ev (zaf P (m+1)) (.call 14 [.var 0])) (evC (zaf P (m+1)) (.call 14 [.var 0])) [some (.d t),some (.d (.int k)),none,none]) _ g=_;simp only[bnd,a3];rfl
 rw[a4];exact Ok.eq (f0 ⟨rfl,rfl⟩)
variable {Q:R->Sto->Prop}
def eqO(o:Option D)(d:D):Bool:=match o with|some x=>x.same d|none=>false
theorem zcR{o:Option D}{d:D}(h:eqO o d=true):o=some d:=by
 cases o with|none=>cases h|some x=>rw[D.same_eq x d h]
def wsS:D:=.lst [.str [1000],.str [1001],.str [1002],.str [1003],.str [1004],.str [1005],.str [1006],.str [1007]]
def txS(d:D):List W:=match d with|.lst xs=>(txts xs).getD []|_=>[]
def valO(o:Option D):D:=o.getD .non
def rwS:List W:=txS (valO (cS 24 [wsS]))
def hdS(k:Int):List W:=txS (valO (cidx (valO (cS 25 [wsS])) (.int k)))
def bhS:List W:=txS (valO (cS 26 [wsS]))
def boS:List W:=txS (valO (cS 27 [wsS]))
def twS(a:Nat):List W:=txS (valO (cS 28 [wsS,.int a]))
def x1:W:=[104,97,110,100,32,1000,32,119,114,105,116,101,32,45,62,32,1001]
def x2:W:=[104,111,117,115,101,32,1003,32,122,122,32,97,110,121,32,45,62,32,1003]
def x3(a:Nat):W:=if a=0 then[104,111,117,115,101,115,32,1003] else[104,97,110,100,115,32,1000,32,110,111,110,101]
def badS(a:Nat):List W:=if a<2 then hdS a++[x1,x2]++[x3 a] else bhS++boS++twS a
def hdV:D:=valO ((zb3 (rwS.getD 0 [])).getD none)
def hoV:D:=valO ((zbA (rwS.getD 1 [])).getD none)
def hsV:D:=valO (cS 4 [hdV])
def lnB(l:W):Bool:=!l.contains 10&&decide (7*l.length<=1000)
def isB0(o:Option (Option D)):Bool:=match o with|some none=>true|_=>false
def isB1(o:Option (Option D))(d:D):Bool:=match o with|some (some x)=>x.same d|_=>false
def isR(o:Option Rs1)(k:Int):Bool:=match o with|some (.bad m)=>m==k|_=>false
def okW(hd ho hs:D)(rl ls:List W):Bool:=match runS hs ho 2 [] [] ls with|some (.ok rows)=>eqO (cS 12 [.tup [hd,ho,.tup rows]]) (.str (catS [10] (rl.getD 0 []::rl.getD 1 []::ls)))|_=>false
def swp(k:Nat)(l:List W):List W:=l.take k++[l.getD (k+1) [],l.getD k []]++l.drop (k+2)
def ck1(hd ho hs:D)(rl:List W):Bool:=eqO (cS 24 [wsS]) (.lst (rl.map D.str))&&decide (rl.length=9)&&rl.all lnB&&isB1 (zb3 (rl.getD 0 [])) hd&&isB1 (zbA (rl.getD 1 [])) ho&&eqO (cS 4 [hd]) hs&&eqO (cS 2 [.tup []]) (.bl false)
def ck2(hd ho hs:D)(rl:List W):Bool:=okW hd ho hs rl (rl.drop 2)&&((Zk 8).drop 2).all λk=>okW hd ho hs rl ((swp k rl).drop 2)
def ck3(ho hs:D)(rl:List W):Bool:=isB0 (zb3 (rl.getD 1 []))&&isB0 (zbA (rl.getD 2 []))&&isB0 (zb3 [])&&isR (runS hs ho 2 [] [] (rl.drop 2++[[]])) 9
def ck4(b0 b1:List W)(h0 h1:List W):Bool:=eqO (cS 25 [wsS]) (.lst [.lst (h0.map D.str),.lst (h1.map D.str)])&&b0.all (λb=>lnB b&&isB0 (zb3 b))&&b1.all (λb=>lnB b&&isB0 (zbA b))
def ck5(bh bo:List W)(tw:Nat->List W):Bool:=eqO (cS 26 [wsS]) (.lst (bh.map D.str))&&eqO (cS 27 [wsS]) (.lst (bo.map D.str))&&((Zk 9).drop 2).all λa=>eqO (cS 28 [wsS,.int a]) (.lst ((tw a).map D.str))
def ck6(ho hs:D)(rl:List W)(bad:Nat->List W):Bool:=((Zk 9).drop 2).all λa=>(bad a).all λb=>lnB b&&isR (runS hs ho 2 [] [] ((rl.drop 2).take (a-2)++[b])) a
def ck7(bh bo h0 h1:List W)(tw:Nat->List W):Bool:=decide (h0.length<=100)&&decide (h1.length<=100)&&decide (bh.length<=100)&&decide (bo.length<=100)&&((Zk 9).drop 2).all λa=>decide ((tw a).length<=100)
theorem zsr:ck7 bhS boS (hdS 0) (hdS 1) twS=true:=by decide +kernel
theorem zp2:ck1 hdV hoV hsV rwS=true:=by decide +kernel
theorem zqa:ck2 hdV hoV hsV rwS=true:=by decide +kernel
theorem zsB:ck3 hoV hsV rwS=true:=by decide +kernel
theorem zn1:ck4 (badS 0) (badS 1) (hdS 0) (hdS 1)=true:=by decide +kernel
theorem zq3:ck5 bhS boS twS=true:=by decide +kernel
theorem zsg:ck6 hoV hsV rwS badS=true:=by decide +kernel
variable {Q:R->Sto->Prop}
structure Wd1(i:Nat)(u:W):Prop where
 form:∃t,u=t++[97+i]
 most:u.length<=7
 low:∀c∈u,97<=c/\c<=122
def Wds(ws:List W):Prop:=∀i u,ws[i]?=some u->Wd1 i u
def ends:List W:=(Zk 8).map λi=>[97+i]
theorem zpb{i:Nat}{x:W}(e:ends[i]?=some x):i<8/\x=[97+i]:=by unfold ends at e;rw[Zs,ZW] at e;obtain⟨j,e1,rfl⟩:=e;obtain⟨h1,h2⟩:=Z3.mp e1;rw[List.getElem_range] at h2;subst h2;exact⟨by simpa using h1,rfl⟩
theorem zrc{r:Int}(h0:0<=r)(h1:r<26):∃c,idxD (.str abc) (.int r)=some (.str [c])/\97<=c/\c<=122:=by
 have hl:r.toNat<abc.length:=by show r.toNat<26;omega
 refine⟨abc[r.toNat],?_,?_⟩
 ·show (if fit abc.length then(match at' abc r with | some c=>some (D.str [c]) | none=>none) else none)=_
  have:at' abc r=some abc[r.toNat]:=by
   unfold at' ixn
   rw[if_pos h0,if_pos (by show r<26;omega)]
   simp only[Z2 hl]
  rw[this,if_pos (by decide)]
 ·have:low' abc[r.toNat]=true:=by rw[<-zjj,zg1];exact Y4.mpr (XV hl)
  simp only[low',Z9,decide_eq_true_eq] at this;exact this
theorem addS{a b:W}(h:a.length+b.length<=16777216):bop .add (.str a) (.str b)=some (.str (a++b)):=if_pos (zev h)
theorem f5{xs ys zs:List D}{h t:Sto}{L:Nat}{Q:R->Sto->Prop}(eL:L=(h++Ob.lst xs::t).length)(q:Q (.d (.lst zs)) (h++.lst ys::t)):Ok (fin (h++.lst xs::t) false false (.loc L) (h++.lst ys::(t++[.lst zs]))) Q:=by
 have e:=zcg (h:=h++.lst xs::t) (t:=[Ob.lst zs]) (l:=h.length) (xs:=xs) (ys:=ys) zaq;rw[zba] at e
 have e2:h++Ob.lst ys::(t++[Ob.lst zs])=(h++Ob.lst ys::t)++[Ob.lst zs]:=by simp
 subst eL;rw[e2];simp only[fin,ZM,if_false,e,if_true,fin0]
 have hl:(h++Ob.lst xs::t).length=(h++Ob.lst ys::t).length:=by simp
 rw[if_neg (by omega),hl,zaq,List.take_left' rfl];exact⟨_,_,rfl,q⟩
theorem ziA(m:Nat){h t:Sto}{a b:Int}(k:∀ws a b,ws.length=8->Wds ws->Q (.d (.lst (ws.map D.str))) (h++dr a b::t)):Ok (zaf P (m+2) 23 [.loc h.length,.d (.lst (ends.map D.str))] (h++dr a b::t)) Q:=by
 refine cl (F:=⟨2,6,zdo,false,[],false,false⟩) rfl rfl rfl ?_;ac_rfl;rw[YM];refine ask (zjo (g:=dI∘D.str) (xs:=ends) (λi σ h'=>∃(ws:List W) (a b:Int) (v3 v4 v5:Option R),ws.length=i/\Wds ws/\h'=h++dr a b::(t++[.lst (ws.map D.str)])/\∃L:Nat,L=(h++dr a b::t).length/\σ=[some (.loc h.length),some (.d (.lst (ends.map D.str))),some (.loc L),v3,v4,v5]) ?_ ?_ ?_)
 ·rintro i x σ h' hx ⟨ws,a1,b1,v3,v4,v5,hl,hd,rfl,L,eL,rfl⟩
  obtain⟨hi,rfl⟩:=zpb hx;refine gb ?_;refine ask (zbx m (by decide) (by decide) λr a2 b2 r0 r1=>?_);refine⟨⟨by omega,by omega⟩,?_⟩;refine ask (zra (λj σ h'=>∃(u:W) (a b:Int) (v5:Option R),u.length=j/\(∀c∈u,97<=c/\c<=122)/\h'=h++dr a b::(t++[.lst (ws.map D.str)])/\σ=[some (.loc h.length),some (.d (.lst (ends.map D.str))),some (.loc L),some (.d (.str [97+i])),some (.d (.str u)),v5]) ?_ ?_ ?_)
  ·rintro j y σ h' hy ⟨u,a3,b3,v5,hu,hlow,rfl,rfl⟩
   have hj:j<r.toNat:=by
    have:=(Z3.mp hy).1
    rw[zcH] at this;exact this
   refine gb ?_;refine ask (zbx m (by decide) (by decide) λq a4 b4 q0 q1=>?_);obtain⟨c,ec,c0,c1⟩:=zrc q0 q1;refine st ec ?_
   refine st (addS (by simp;omega)) ?_
   refine⟨rfl,zaA,u++[c],a4,b4,_,by simp[hu],λd hd=>?_,rfl,rfl⟩
   rcases Zu.mp hd with z | z
   ·exact hlow d z
   ·rw[Zi.mp z];exact⟨c0,c1⟩
  ·rintro σ h' ⟨u,a3,b3,v5,hu,hlow,rfl,rfl⟩
   rw[zcH] at hu
   have eL':L=(h++dr a3 b3::t).length:=by rw[eL];simp
   subst eL';refine st zc2 ?_
   refine st (addS (by simp;omega)) ?_
   refine st zc2 ?_
   refine⟨by unfold big;simp;omega,?_⟩
   rw[zmS];refine⟨rfl,zaA,ws++[u++[97+i]],a3,b3,_,_,_,by simp[hl],?_,by simp,_,rfl,rfl⟩;intro j x e
   by_cases hj:j<ws.length
   ·rw [ZG hj] at e
    exact hd j x e
   ·rw [Zw (by omega)] at e
    have hj2:j-ws.length=0:=by
     rcases Nat.eq_zero_or_pos (j-ws.length) with z | z
     ·exact z
     ·rw[YQ (by simp;omega)] at e;cases e
    rw[hj2] at e;cases e
    have:j=i:=by omega
    subst this
    refine⟨⟨u,rfl⟩,by simp;omega,λc hc=>?_⟩
    rcases Zu.mp hc with z | z
    ·exact hlow c z
    ·rw[Zi.mp z];omega
  ·exact⟨[],a2,b2,v5,rfl,λc hc=>(by cases hc),rfl,rfl⟩
 ·rintro σ h' ⟨ws,a1,b1,v3,v4,v5,hl,hd,rfl,L,eL,rfl⟩
  refine f5 (by rw[eL];simp) (k ws a1 b1 hl hd)
 ·refine ⟨[],a,b,none,none,none,rfl,λi u e=>by simp at e,?_,_,rfl,rfl⟩
  simp
def wOf(ws:List W)(i:Nat):W:=(ws[i]?).getD [97+i%26]
theorem zsa{ws:List W}(hl:ws.length=8)(hd:Wds ws):Ws (wOf ws):=by
 have key:∀i,Wd1 (i%26) (wOf ws i):=by
  intro i;unfold wOf
  cases e:ws[i]? with
  |none=>exact⟨⟨[],rfl⟩,by simp,λc hc=>by simp at hc;omega⟩
  |some u=>
   have hi:i<8:=by have:=(Z3.mp e).1;omega
   have:=hd i u e
   rw[Nat.mod_eq_of_lt (by omega)];exact this
 exact⟨λi=>(key i).form,λi=>(key i).most,λi=>(key i).low⟩
theorem zsA{ws:List W}(hl:ws.length=8):D.lst (ws.map D.str)=D.vl (wOf ws) wsS:=by
 match ws,hl with| [a,b,c,d,e,f,g,h],_=>show D.lst [.str a,.str b,.str c,.str d,.str e,.str f,.str g,.str h]=D.lst [.str (a++[]),.str (b++[]),.str (c++[]),.str (d++[]),.str (e++[]),.str (f++[]),.str (g++[]),.str (h++[])];simp only[Zg]
variable {Q:R->Sto->Prop}
def okL(r0 r1:W)(rs ls:List W):Prop:=ls=rs\/∃k,2<=k/\k<8/\ls=(swp k (r0::r1::rs)).drop 2
structure Fx(bh bo h0' h1':List W)(tw bad':Nat->List W)(r0 r1:W)(rs:List W)(hd ho hs:D):Prop where
 len:rs.length=7
 rows:cS 24 [wsS]=some (.lst ((r0::r1::rs).map D.str))
 ln:∀l∈r0::r1::rs,lnB l=true
 h0:zb3 r0=some (some hd)
 h1:zbA r1=some (some ho)
 h2:cS 4 [hd]=some hs
 e2:cS 2 [.tup []]=some (.bl false)
 good:∀ls,okL r0 r1 rs ls->∃rows,runS hs ho 2 [] [] ls=some (.ok rows)/\cS 12 [.tup [hd,ho,.tup rows]]=some (.str (catS [10] (r0::r1::ls)))
 s0:zb3 r1=some none
 s1:zbA (rs.getD 0 [])=some none
 s2:zb3 []=some none
 s9:runS hs ho 2 [] [] (rs++[[]])=some (.bad 9)
 heads:cS 25 [wsS]=some (.lst [.lst (h0'.map D.str),.lst (h1'.map D.str)])
 b0:∀b∈bad' 0,lnB b=true/\zb3 b=some none
 b1:∀b∈bad' 1,lnB b=true/\zbA b=some none
 ne:bh≠[]
 c26:cS 26 [wsS]=some (.lst (bh.map D.str))
 c27:cS 27 [wsS]=some (.lst (bo.map D.str))
 c28:∀a,2<=a->a<9->cS 28 [wsS,.int (a:Nat)]=some (.lst ((tw a).map D.str))
 bad:∀a,2<=a->a<9->∀b∈bad' a,lnB b=true/\runS hs ho 2 [] [] (rs.take (a-2)++[b])=some (.bad a)
theorem zk3{o:Option (Option D)}(h:isB0 o=true):o=some none:=by
 unfold isB0 at h
 split at h
 ·rfl
 ·cases h
theorem zrj{o:Option (Option D)}{d:D}(h:isB1 o d=true):o=some (some d):=by
 unfold isB1 at h
 split at h
 ·rw[D.same_eq _ _ h]
 ·cases h
theorem r_of{o:Option Rs1}{k:Int}(h:isR o k=true):o=some (.bad k):=by
 unfold isR at h
 split at h
 ·rw[ZP h]
 ·cases h
theorem zc8{n m a:Nat}(h1:n<=a)(h2:a<m):a∈(Zk m).drop n:=by
 rw[List.mem_drop_iff_getElem]
 exact⟨a-n,by simp;omega,by simp;omega⟩
theorem zmB{hd ho hs:D}{rl bh bo h0 h1:List W}{tw bad:Nat->List W}(F1:ck1 hd ho hs rl=true)(F2:ck2 hd ho hs rl=true)(F3:ck3 ho hs rl=true)(F4:ck4 (bad 0) (bad 1) h0 h1=true)(F5:ck5 bh bo tw=true)(F6:ck6 ho hs rl bad=true)(hne:bh≠[]):∃r0 r1 rs,Fx bh bo h0 h1 tw bad r0 r1 rs hd ho hs:=by
 simp only[ck1,ck2,ck3,ck4,ck5,ck6,Z9,decide_eq_true_eq,Zl] at F1 F2 F3 F4 F5 F6;obtain⟨⟨⟨⟨⟨⟨a1,a2⟩,a3⟩,a4⟩,a5⟩,a6⟩,a7⟩:=F1;obtain⟨⟨⟨c1,c2⟩,c3⟩,c4⟩:=F3;obtain⟨g1,g2⟩:=F2
 have ok1:∀ls,okW hd ho hs rl ls=true->∃rows,runS hs ho 2 [] [] ls=some (.ok rows)/\cS 12 [.tup [hd,ho,.tup rows]]=some (.str (catS [10] (rl.getD 0 []::rl.getD 1 []::ls))):=by
  intro ls h;unfold okW at h
  split at h
  ·rename_i rows e
   exact⟨rows,e,zcR h⟩
  ·cases h
 match rl,a2 with
 | r0::r1::rs,a2=>
  refine⟨r0,r1,rs,by simpa using a2,zcR a1,a3,zrj a4,zrj a5,zcR a6,zcR a7,λls hl=>?_,zk3 c1,zk3 c2,zk3 c3,r_of c4,zcR F4.1.1,λb hb=>?_,λb hb=>?_,hne,zcR F5.1.1,zcR F5.1.2,λa h1 h2=>?_,λa h1 h2 b hb=>?_⟩
  ·rcases hl with rfl|⟨k,k1,k2,rfl⟩
   ·exact ok1 _ g1
   ·exact ok1 _ (g2 k (zc8 k1 k2))
  ·exact⟨(F4.1.2 b hb).1,zk3 (F4.1.2 b hb).2⟩
  ·exact⟨(F4.2 b hb).1,zk3 (F4.2 b hb).2⟩
  ·exact zcR (F5.2 a (zc8 h1 h2))
  ·exact⟨(F6 a (zc8 h1 h2) b hb).1,r_of (F6 a (zc8 h1 h2) b hb).2⟩
variable {Q:R->Sto->Prop}
theorem catb{w:Nat->W}(hw:Ws w){x y:W}(h:fit (7*(x.length+y.length))=true):bop .add (.str (vt w x)) (.str (vt w y))=some (.str (vt w (x++y))):=zjk hw (o:=.add) (x:=.str x) (y:=.str y) (if_pos h)
theorem zf7{w:Nat->W}(hw:Ws w){c y:W}(hc:plT c=true)(h:fit (7*(c.length+y.length))=true):bop .add (.str c) (.str (vt w y))=some (.str (vt w (c++y))):=by
 have:=catb hw h
 rwa [zbp hc] at this
theorem ziF{w:Nat->W}(hw:Ws w){x c:W}(hc:plT c=true)(h:fit (7*(x.length+c.length))=true):bop .add (.str (vt w x)) (.str c)=some (.str (vt w (x++c))):=by
 have:=catb hw h
 rwa [zbp hc] at this
theorem zh0{w:Nat->W}(l:List W):D.vls w (l.map D.str)=(l.map (vt w)).map D.str:=by rw[zau,YM,YM];rfl
theorem zqW{w:Nat->W}{l:List W}{i:Int}(h0:0<=i)(h1:i<l.length):∃b∈l,idxD (.lst (D.vls w (l.map D.str))) (.int i)=some (.str (vt w b)):=by
 obtain⟨u,hu,e⟩:=zrg (l:=l.map (vt w)) h0 (by rw[Z1];exact h1)
 obtain⟨b,hb,rfl⟩:=XM.mp hu
 exact⟨b,hb,by rw[zh0];exact e⟩
theorem catL{a b:List D}(h:a.length+b.length<=16777216):catD (.lst a) (.lst b)=some (a++b):=if_pos (zev h)
theorem addL{a b:List D}(h:a.length+b.length<=16777216):bop .add (.lst a) (.lst b)=some (.lst (a++b)):=if_pos (zev h)
theorem pick{w:Nat->W}{m:Nat}{L:Nat}{h t:Sto}{p q p0 q0 p1 q1:Int}{l:List W}{v0 v1:Option R}{Q:R->Sto->Prop}(eL:L=(h++dr p0 q0::t).length)(h1:0<l.length)(h2:l.length<=1000)(k:∀b a' b',b∈l->Q (.d (.str (vt w b))) (h++dr a' b'::t)):
  wSs (zaf P (m+1)) [.ret (.idx (.var 3) (.call 22 [(.var 2),(.bi .len [(.var 3)])]))] [v0,v1,some (.loc h.length),some (.loc L)] (h++dr p q::(t++[.lst (D.vls w (l.map D.str))])) (kF (h++dr p1 q1::t) false false Q):=by
 subst eL;refine st zc2 ?_;ac_rfl;rw[zap,Z1]
 refine ask (zbx m (by omega) (by unfold wide;omega) λr a1 b1 r0 r1=>?_)
 refine st zc2 ?_;obtain⟨b,hb,e⟩:=zqW (w:=w) (l:=l) r0 r1;refine st e ?_;exact f4 (k b _ _ hb)
theorem wnil{Γ:Calls}{σ:Env}{h:Sto}{Q:Fl×Env->Sto->Prop}(k:Q (.nx,σ) h):wSs Γ [] σ h Q:=k
theorem zeH{α:Type}(xs:List α):(Z0 4 xs).flatten.length=4*xs.length:=by simp;omega
theorem mul4{a:List D}(h:a.length<=1000):bop .mul (.lst a) (.int 4)=some (.lst (Z0 4 a).flatten):=by show(if decide (0<=(4:Int))&&decide ((4:Int)<=1000)&&decide (a.length<=1000) then some (D.lst (Z0 (4:Int).toNat a).flatten) else none)=_;rw[if_pos (by simp[h])];rfl
theorem zq6{w:Nat->W}{h t:Sto}{o:Ob}{a b c:List W}:(h++o::t)++[Ob.lst (D.vls w (a.map D.str)++D.vls w (b.map D.str)++(Z0 4 (D.vls w (c.map D.str))).flatten)]=h++o::(t++[Ob.lst (D.vls w ((a++b++(Z0 4 c).flatten).map D.str))]):=by rw[Zp,Zp,za0,za0,Zn,List.map_flatten,Wf,zja];rfl
theorem zqU{w:Nat->W}{h t:Sto}{o:Ob}{l:List W}{a b c:W}:(h++o::t)++[Ob.lst (D.vls w (l.map D.str)++[D.str (vt w a),D.str (vt w b)]++[D.str (vt w c)])]=h++o::(t++[Ob.lst (D.vls w ((l++[a,b]++[c]).map D.str))]):=by rw[Zp,Zp,za0,za0,Zn];rfl
section
variable {w:Nat->W}(hw:Ws w){bh bo h0 h1:List W}{tw bad:Nat->List W}{r0 r1:W}{rs:List W}{hd ho hs:D}(F:Fx bh bo h0 h1 tw bad r0 r1 rs hd ho hs)(F7:ck7 bh bo h0 h1 tw=true)
include hw F F7
theorem zrX(m:Nat)(hm:6<=m){h t:Sto}{p q:Int}{Q:R->Sto->Prop}(a:Nat)(ha:a<2)(k:∀b a' b',b∈(if a=0 then h0 else h1)++[x1,x2]++[x3 a]->Q (.d (.str (vt w b))) (h++dr a' b'::t)):
  Ok (zaf P (m+2) 29 [.d (D.vl w wsS),.d (.int a),.loc h.length] (h++dr p q::t)) Q:=by
 simp only[ck7,Z9,decide_eq_true_eq] at F7;refine cl (F:=⟨3,4,zeO,false,[],false,false⟩) rfl rfl rfl ?_
 rcases(show a=0\/a=1 by omega) with rfl | rfl
 ·ac_rfl
  refine ask (ofE (sy hw (by omega) (ds:=[wsS]) F.heads _) ?_);ac_rfl;refine st (zf7 hw (by decide) (by decide)) ?_;refine st (ziF hw (by decide) (by decide)) ?_;refine st (catb hw (by decide)) ?_;refine st (zf7 hw (by decide) (by decide)) ?_;refine st (ziF hw (by decide) (by decide)) ?_;refine st (catb hw (by decide)) ?_
  refine st (catL (by rw[zap,Z1];simp;omega)) ?_
  refine st zaq ?_;refine st (zf7 hw (by decide) (by decide)) ?_;refine st (zf7 hw (by decide) (by decide)) ?_;refine st (ziF hw (by decide) (by decide)) ?_;refine st zaq ?_
  refine⟨by unfold big;rw[ZZ,zap,Z1];simp;omega,?_⟩
  rw[zba,zqU];refine wnil ?_
  refine pick (w:=w) rfl (by simp) (by simp;omega) λb a' b' hb=>k b a' b' hb
 ·ac_rfl
  refine ask (ofE (sy hw (by omega) (ds:=[wsS]) F.heads _) ?_);ac_rfl;refine st (zf7 hw (by decide) (by decide)) ?_;refine st (ziF hw (by decide) (by decide)) ?_;refine st (catb hw (by decide)) ?_;refine st (zf7 hw (by decide) (by decide)) ?_;refine st (ziF hw (by decide) (by decide)) ?_;refine st (catb hw (by decide)) ?_
  refine st (catL (by rw[zap,Z1];simp;omega)) ?_
  refine st zaq ?_;refine st (zf7 hw (by decide) (by decide)) ?_;refine st (zf7 hw (by decide) (by decide)) ?_;refine st (ziF hw (by decide) (by decide)) ?_;refine st zaq ?_
  refine⟨by unfold big;rw[ZZ,zap,Z1];simp;omega,?_⟩
  rw[zba,zqU];refine wnil ?_
  refine pick (w:=w) rfl (by simp) (by simp;omega) λb a' b' hb=>k b a' b' hb
theorem bad2(m:Nat)(hm:6<=m){h t:Sto}{p q:Int}{Q:R->Sto->Prop}(a:Nat)(ha:2<=a)(ha2:a<9)(k:∀b a' b',b∈bh++bo++tw a->Q (.d (.str (vt w b))) (h++dr a' b'::t)):
  Ok (zaf P (m+2) 29 [.d (D.vl w wsS),.d (.int a),.loc h.length] (h++dr p q::t)) Q:=by
 simp only[ck7,Z9,decide_eq_true_eq,Zl] at F7;obtain⟨⟨⟨_,l1⟩,l2⟩,l3⟩:=F7;have l3:=l3 a (zc8 ha ha2);refine cl (F:=⟨3,4,zeO,false,[],false,false⟩) rfl rfl rfl ?_;refine bf (decide_eq_false (by omega)) ?_;refine ask (ofE (sy hw (by omega) (ds:=[wsS]) F.c26 _) ?_);refine ask (ofE (sy hw (by omega) (ds:=[wsS]) F.c27 _) ?_)
 refine st (addL (by rw[zap,zap,Z1,Z1];omega)) ?_
 refine ask (ofE (sy hw (by omega) (ds:=[wsS,.int (a:Nat)]) (F.c28 a ha ha2) _) ?_)
 refine st (mul4 (by rw[zap,Z1];omega)) ?_
 refine st (catL (by rw[ZZ,zeH,zap,zap,zap,Z1,Z1,Z1];omega)) ?_
 show wSs (zaf P (m+1)) [.ret (.idx (.var 3) (.call 22 [(.var 2),(.bi .len [(.var 3)])]))] [some (.d (D.vl w wsS)),some (.d (.int a)),some (.loc h.length),some (.loc (h++dr p q::t).length)] ((h++dr p q::t)++[Ob.lst (D.vls w (bh.map D.str)++D.vls w (bo.map D.str)++(Z0 4 (D.vls w ((tw a).map D.str))).flatten)]) (kF (h++dr p q::t) false false Q);rw[zq6];refine pick (w:=w) rfl ?_ ?_ λb a' b' hb=>k b a' b' ?_
 ·have:=X2.mpr F.ne
  simp only[ZZ,zeH];omega
 ·simp only[ZZ,zeH]
  omega
 ·rcases Zu.mp hb with hb | hb
  ·exact Zu.mpr (.inl hb)
  ·refine Zu.mpr (.inr ?_)
   obtain⟨l,h1,h2⟩:=VX.mp hb;rw[List.mem_replicate.mp h1 |>.2] at h2;exact h2
end
variable {Q:R->Sto->Prop}
theorem znz{w:Nat->W}(hw:Ws w):∀{t:W} {c:Nat},c∈vt w t->c∈t\/(97<=c/\c<=122)
 | d::t,c,h=>by
  rw[vt] at h
  rcases Zu.mp h with h | h
  ·unfold vc at h
   split at h
   ·exact .inl (by rw[Zi.mp h];exact Zq)
   ·exact .inr (hw.low _ c h)
  ·rcases znz hw h with h | h
   ·exact .inl (Zx _ h)
   ·exact .inr h
theorem znT{w:Nat->W}(hw:Ws w){l:W}(h:lnB l=true):10∉vt w l/\(vt w l).length<=1000:=by
 simp only[lnB,Z9,ZJ,decide_eq_true_eq] at h;refine⟨λq=>?_,?_⟩
 ·rcases znz hw q with q | q
  ·rw [Y4.mpr q] at h
   exact absurd h.1 (by decide)
  ·omega
 ·have:=(zbt hw l).2
  have:=zjU l
  omega
theorem zdj{w:Nat->W}(hw:Ws w){ls rest:List W}(hl:∀l∈ls,lnB l=true)(hr:∀x∈rest,10∉x/\x.length<=1000)(hc:ls.length+rest.length<=12):Lns (ls.map (vt w)++rest):=by
 have key:∀x∈ls.map (vt w)++rest,10∉x/\x.length<=1000:=λx hx=>by
  rcases Zu.mp hx with hx | hx
  ·obtain ⟨l,h1,rfl⟩:=XM.mp hx
   exact znT hw (hl l h1)
  ·exact hr x hx
 exact⟨λx hx=>(key x hx).1,λx hx=>(key x hx).2,by rw[ZZ,Z1];exact hc⟩
theorem zlf{k:Nat}{l:List W}(h:k+2<=l.length):(swp k l).length=l.length:=by unfold swp;simp;omega
theorem zld{k:Nat}{l:List W}(h:k+2<=l.length){x:W}(hx:x∈swp k l):x∈l:=by
 unfold swp at hx
 rcases Zu.mp hx with hx | hx
 ·rcases Zu.mp hx with hx | hx
  ·exact WG hx
  ·simp only[ZE,Yk,or_false] at hx
   rcases hx with rfl | rfl
   ·rw[Zr,Z2 (by omega)];exact XV _
   ·rw[Zr,Z2 (by omega)];exact XV _
 ·exact Xy hx
theorem idxN{L:List W}{i:Nat}(h:i<L.length):idxD (.lst (L.map D.str)) (.int i)=some (.str (L.getD i [])):=by
 show at' (L.map D.str) i=_;unfold at'
 have:ixn (L.map D.str).length (i:Int)=some i:=by
  unfold ixn
  rw[if_pos (by omega),if_pos (by rw[Z1];omega)]
  simp
 rw[this];simp only[Zs,Z2 h,Zr];rfl
theorem zr3{L:List W}{i:Nat}(h:i<=L.length):cut (L.map D.str) (some (i:Int)) none=(L.drop i).map D.str:=by
 rw[ze1]
 congr 1
 unfold cut
 have e1:sIx L.length 0 (some (i:Int))=i:=by show(if(i:Int)<0 then((i:Int)+(L.length:Int)).toNat else min (i:Int).toNat L.length)=_;rw[if_neg (by omega)];simp;omega
 have e2:sIx L.length L.length none=L.length:=rfl;rw[e1,e2,Y7 (by simp)]
theorem zig{α:Type}{xs:List α}{a b:Option Int}:(cut xs a b).length<=xs.length:=by unfold cut;rw[Zm,YU];omega
theorem zjf{w:Nat->W}{l:List W}{i:Nat}:(l.map (vt w)).getD i []=vt w (l.getD i []):=by
 rw[Zr,Zs,Zr]
 cases l[i]?<;>rfl
theorem zir{x:W}:(D.str x).eqb (.str x)=true:=beq_self_eq_true x
section
variable {w:Nat->W}(hw:Ws w){bh bo h0 h1:List W}{tw bad:Nat->List W}{r0 r1:W}{rs:List W}{hd ho hs:D}(F:Fx bh bo h0 h1 tw bad r0 r1 rs hd ho hs)
include hw F
theorem zgF{rest:List W}(hr:∀x∈rest,10∉x/\x.length<=1000)(hc:rest.length<=3):Lns ((r0::r1::rs).map (vt w)++rest):=zdj hw F.ln hr (by have:=F.len;simp;omega)
theorem zkh{n:Nat}(hn:7<=n){h:Sto}{ls:List W}(ok:okL r0 r1 rs ls)(hl:∀l∈ls,lnB l=true)(hc:ls.length=7):∃d,(zaf P (n+1) 14 [.d (.str (catS [10] ((r0::r1::ls).map (vt w))))] h=some (.d d,h))/\zaf P (n+1) 12 [.d d] h=some (.d (.str (catS [10] ((r0::r1::ls).map (vt w)))),h):=by
 obtain⟨rows,e1,e2⟩:=F.good ls ok
 have t:Lns ((r0::r1::ls).map (vt w)):=by
  have:=zdj hw (ls:=r0::r1::ls) (rest:=[]) (λl h=>by
   rcases ZE.mp h with rfl | h
   ·exact F.ln _ Zq
   ·rcases ZE.mp h with rfl | h
    ·exact F.ln _ (Zx _ Zq)
    ·exact hl l h) (λx hx=>by cases hx) (by simp;omega)
  rwa [Zg] at this
 refine⟨_,zma hw hn F.h0 F.h1 F.h2 e1 t,?_⟩;have k:=sy hw (n:=n+1) (by omega) (ds:=[.tup [hd,ho,.tup rows]]) e2 h
 rw[show D.vl w (.str (catS [10] (r0::r1::ls)))=.str (catS [10] ((r0::r1::ls).map (vt w))) from by rw[znp hw (by decide)];rfl] at k
 exact k
theorem znL{h:Sto}:zaf P 11 31 [.d (.lst (((r0::r1::rs).map (vt w)).map D.str))] h=some (.d (.bl true),h):=by
 refine Ok.eq (cl (F:=⟨1,3,zbf,false,[],false,false⟩) rfl rfl rfl ?_)
 have hlen:(r0::r1::rs).length=9:=by have:=F.len;simp;omega
 refine⟨⟨by decide,by decide⟩,?_⟩;refine ask (zra (λi σ h'=>h'=h/\∃v1 v2,σ=[some (.d (.lst (((r0::r1::rs).map (vt w)).map D.str))),v1,v2]) ?_ ?_ ?_)
 ·rintro i x σ h' hx ⟨rfl,v1,v2,rfl⟩
  obtain⟨hi,rfl⟩:=zh4 _ _ _ _ hx;have hi:i<8:=hi;rw[Int.zero_add]
  have ln:Lns ((swp i (r0::r1::rs)).map (vt w)):=by
   have:=zdj hw (ls:=swp i (r0::r1::rs)) (rest:=[]) (λl h=>F.ln l (zld (by omega) h)) (λx hx=>by cases hx) (by rw[zlf (by omega),hlen];simp)
   rwa [Zg] at this
  have et:(List.take i (((r0::r1::rs).map (vt w)).map D.str)++[D.str (((r0::r1::rs).map (vt w)).getD (i+1) []),D.str (((r0::r1::rs).map (vt w)).getD i [])])++(((r0::r1::rs).map (vt w)).drop (i+2)).map D.str=((swp i (r0::r1::rs)).map (vt w)).map D.str:=by unfold swp;rw[zjf,zjf,<-V5,<-V5,<-List.map_drop];simp only[Zp,ZL,Xt]
  refine gb ?_
  refine st (show idxD (.lst (((r0::r1::rs).map (vt w)).map D.str)) (.int ((i:Int)+1))=some (.str (((r0::r1::rs).map (vt w)).getD (i+1) [])) from idxN (i:=i+1) (by rw[Z1];omega)) ?_
  refine st (idxN (i:=i) (by rw[Z1];omega)) ?_
  have hL:(((r0::r1::rs).map (vt w)).map D.str).length=9:=by rw[Z1,Z1];exact hlen
  refine st (addL (by have:=zig (xs:=((r0::r1::rs).map (vt w)).map D.str) (a:=none) (b:=some (i:Int));rw[Zz,Zz,Xc];omega)) ?_
  refine st (addL (by have:=zig (xs:=((r0::r1::rs).map (vt w)).map D.str) (a:=none) (b:=some (i:Int));have:=zig (xs:=((r0::r1::rs).map (vt w)).map D.str) (a:=some ((i:Int)+2)) (b:=none);rw[ZZ,Zz,Zz,Xc];omega)) ?_
  rw[cutN,show((i:Int)+2)=((i+2:Nat):Int) by omega,zr3 (by rw[Z1];omega),et]
  refine br (λc=>?_) (λc=>?_)
  ·have c:=of_decide_eq_true c
   have R0:Rai 8 h' (.str (catS [10] ((swp i (r0::r1::rs)).map (vt w)))) i:=by
    rcases(show i=0\/i=1 by omega) with rfl | rfl
    ·exact zfm hw (by decide) F.s0 (rest:=vt w r0::rs.map (vt w)) ln
    ·exact zgA hw (by decide) F.h0 F.s1 (rest:=vt w r1::(rs.drop 1).map (vt w)) ln
   refine st ln.join ?_;refine ask (ofE (za6 R0) ?_);rw[show((i:Int)==i)=true from beq_self_eq_true _];exact⟨rfl,zaA,rfl,_,_,rfl⟩
  ·have c:=of_decide_eq_false c
   have es:swp i (r0::r1::rs)=r0::r1::(swp i (r0::r1::rs)).drop 2:=by obtain⟨j,rfl⟩:∃j,i=j+2:=⟨i-2,by omega⟩;unfold swp;rfl
   have hc:((swp i (r0::r1::rs)).drop 2).length=7:=by rw[YU,zlf (by omega),hlen]
   obtain⟨d,e1,e2⟩:=zkh hw F (n:=9) (by decide) (h:=h') (.inr ⟨i,by omega,hi,rfl⟩) (λl hl=>F.ln l (zld (by omega) (Xy hl))) hc;rw[<-es] at e1 e2;refine st ln.join ?_;refine ask (ofE e1 ?_);refine ask (ofE e2 ?_);refine st ln.join ?_
   refine bf (by rw[zir];rfl) ?_
   exact⟨rfl,zaA,rfl,_,_,rfl⟩
 ·rintro σ h' ⟨rfl,v1,v2,rfl⟩
  exact f0 ⟨rfl,rfl⟩
 ·exact⟨rfl,_,_,rfl⟩
end
variable {Q:R->Sto->Prop}
section
variable {w:Nat->W}(hw:Ws w){bh bo h0 h1:List W}{tw bad:Nat->List W}{r0 r1:W}{rs:List W}{hd ho hs:D}(F:Fx bh bo h0 h1 tw bad r0 r1 rs hd ho hs)(F7:ck7 bh bo h0 h1 tw=true)
 (hb:∀a b,a<9->b∈(if a<2 then(if a=0 then h0 else h1)++[x1,x2]++[x3 a] else bh++bo++tw a)->b∈bad a)
def rwD(w:Nat->W)(l:List W):D:=.lst ((l.map (vt w)).map D.str)
include hw F
theorem zoW{n:Nat}(hn:6<=n){h:Sto}:zaf P n 24 [.d (D.vl w wsS)] h=some (.d (rwD w (r0::r1::rs)),h):=by have k:=sy hw hn (ds:=[wsS]) F.rows h;rw[show D.vl w (.lst ((r0::r1::rs).map D.str))=rwD w (r0::r1::rs) from congrArg D.lst (zh0 _)] at k;exact k
include F7 hb
theorem zhI(m:Nat)(hm:6<=m){h t:Sto}{p q:Int}(a:Nat)(ha:a<9)(k:∀b a' b',b∈bad a->Q (.d (.str (vt w b))) (h++dr a' b'::t)):
  Ok (zaf P (m+2) 29 [.d (D.vl w wsS),.d (.int a),.loc h.length] (h++dr p q::t)) Q:=by
 by_cases h2:a<2
 ·exact zrX hw F F7 m hm a h2 λb a' b' z=>k b a' b' (hb a b ha (by rw[if_pos h2];exact z))
 ·exact bad2 hw F F7 m hm a (by omega) ha λb a' b' z=>k b a' b' (hb a b ha (by rw[if_neg h2];exact z))
omit F7 hb in
theorem zkR{a:Nat}{b:W}(ha:a<9)(z:b∈bad a):lnB b=true:=by
 by_cases h0:a=0
 ·subst h0;exact(F.b0 b z).1
 ·by_cases h1:a=1
  ·subst h1;exact(F.b1 b z).1
  ·exact(F.bad a (by omega) ha b z).1
omit F7 hb in
theorem zjB{n:Nat}(hn:7<=n){h:Sto}{a:Nat}{b:W}{rest:List W}(ha:a<9)(z:b∈bad a)(hr:∀x∈rest,10∉x/\x.length<=1000)(hl:rest.length=8-a):Rai n h (.str (catS [10] (((r0::r1::rs).take a).map (vt w)++vt w b::rest))) a:=by
 have hlen:=F.len
 have ln:Lns (((r0::r1::rs).take a++[b]).map (vt w)++rest):=zdj hw (λl hl=>by
  rcases Zu.mp hl with hl | hl
  ·exact F.ln l (WG hl)
  ·rw[Zi.mp hl];exact zkR hw F ha z) hr (by rw[ZZ,Zm,Y5];simp;omega)
 have e:((r0::r1::rs).take a++[b]).map (vt w)++rest=((r0::r1::rs).take a).map (vt w)++vt w b::rest:=by rw[Zp,Zn];rfl
 rw[e] at ln
 by_cases h0:a=0
 ·subst h0
  exact zfm hw hn (F.b0 b z).2 ln
 ·by_cases h1:a=1
  ·subst h1
   exact zgA hw hn F.h0 (F.b1 b z).2 ln
  ·obtain ⟨j,rfl⟩:∃j,a=j+2:=⟨a-2,by omega⟩
   have e2:((r0::r1::rs).take (j+2)).map (vt w)++vt w b::rest=vt w r0::vt w r1::((rs.take j++[b]).map (vt w)++rest):=by rw[Zp,Zn];rfl
   rw[e2] at ln⊢;have k:=(F.bad (j+2) (by omega) ha b z).2;rw[Nat.add_sub_cancel] at k;exact zjG hw hn F.h0 F.h1 F.h2 k ln
end
def tlS:List S:=[.ife (.or (.not (.val (.call 30 [(.tm .join (.con (.str [10])) [(.var 6)]),(.var 3)]))) (.not (.val (.call 30 [(.idx (.var 5) (.con (.int 0))),(.con (.int 1))])))) [.ret (.con (.bl false))] [],.ife (.or (.not (.val (.call 30 [(.idx (.lst false (.disp [(.con .non),(.con (.int 7)),(.var 5),(.con (.str []))])) (.bin .mod (.var 1) (.con (.int 4)))),(.con (.int 0))]))) (.not (.val (.call 31 [(.var 5)])))) [.ret (.con (.bl false))] [],.ife (.not (.val (.call 30 [(.tm .join (.con (.str [10])) [(.bin .add (.var 5) (.lst false (.disp [(.con (.str []))])))]),(.con (.int 9))]))) [.ret (.con (.bl false))] []]
section
variable {w:Nat->W}(hw:Ws w){bh bo h0 h1:List W}{tw bad:Nat->List W}{r0 r1:W}{rs:List W}{hd ho hs:D}(F:Fx bh bo h0 h1 tw bad r0 r1 rs hd ho hs)
include hw F
theorem zj6{g:Sto}{p q c:Int}{a:Nat}{b:W}{rest:List W}{v0 v2 v4 v7:Option R}{Q:Fl×Env->Sto->Prop}(ha:a<9)(z:b∈bad a)(hr:∀x∈rest,10∉x/\x.length<=1000)(hl:rest.length=8-a)
  (k:∀g',Q (.nx,[v0,some (.d (.int c)),v2,some (.d (.int a)),v4,some (.d (rwD w (r0::r1::rs))),some (.loc (g.length+1)),v7]) g'):
  wSs (zaf P 11) tlS [v0,some (.d (.int c)),v2,some (.d (.int a)),v4,some (.d (rwD w (r0::r1::rs))),some (.loc (g.length+1)),v7] (g++[dr p q,.lst ((((r0::r1::rs).take a).map (vt w)++vt w b::rest).map D.str)]) Q:=by
 have hlen:=F.len
 have lnX:Lns (((r0::r1::rs).take a).map (vt w)++vt w b::rest):=by
  have:=zdj hw (ls:=(r0::r1::rs).take a++[b]) (rest:=rest) (λl hl=>by
   rcases Zu.mp hl with hl | hl
   ·exact F.ln l (WG hl)
   ·rw[Zi.mp hl];exact zkR hw F ha z) hr (by rw[ZZ,Zm,Y5];simp;omega)
  rwa [Zp,Zn] at this
 have R1:=zjB hw F (n:=9) (by decide) (h:=g++[dr p q,.lst ((((r0::r1::rs).take a).map (vt w)++vt w b::rest).map D.str)]) ha z hr hl;generalize hX:((r0::r1::rs).take a).map (vt w)++vt w b::rest=X at lnX R1⊢;generalize hS:g++[dr p q,.lst (X.map D.str)]=H at R1⊢
 have ln1:∀l,lnB l=true->Lns [vt w l]:=λl h=>by
  have:=zdj hw (ls:=[l]) (rest:=[]) (λx hx=>by rw[Zi.mp hx];exact h) (λx hx=>by cases hx) (by simp)
  exact this
 have R2:Rai 9 H (.str (vt w r0)) 1:=by
  have:=zoD hw (n:=9) (by decide) (h:=H) F.h0 F.e2 (ln1 r0 (F.ln r0 Zq))
  rwa [show catS [10] [vt w r0]=vt w r0 from by simp[catS]] at this
 have R4:Rai 9 H (.str (catS [10] ((r0::r1::(rs++[[]])).map (vt w)))) 9:=by
  have ln:=zdj hw (ls:=r0::r1::(rs++[[]])) (rest:=[]) (λl hl=>by
   rw[show r0::r1::(rs++[[]])=(r0::r1::rs)++[[]] from rfl] at hl
   rcases Zu.mp hl with hl | hl
   ·exact F.ln l hl
   ·rw[Zi.mp hl];decide) (λx hx=>by cases hx) (by simp;omega)
  have:=zjG hw (n:=9) (by decide) (h:=H) (rest:=[]) F.h0 F.h1 F.h2 F.s9 ln
  rw[Zg] at this;exact this
 have lnR:Lns ((r0::r1::rs).map (vt w)):=by
  have:=zgF hw F (rest:=[]) (λx hx=>by cases hx) (by simp)
  rwa [Zg] at this
 have ln9:Lns ((r0::r1::(rs++[[]])).map (vt w)):=by
  have:=zgF hw F (rest:=[[]]) (λx hx=>by rw[Zi.mp hx];exact⟨by simp,by simp⟩) (by simp)
  have e:(r0::r1::rs).map (vt w)++[[]]=(r0::r1::(rs++[[]])).map (vt w):=by simp only[ZL,Zp,YV,Xt];rfl
  rwa [e] at this
 have gH:H[g.length+1]?=some (.lst (X.map D.str)):=by rw[<-hS];exact zbG
 refine st gH ?_;refine st lnX.join ?_;refine ask (ofE (za6 R1) ?_);rw[show((a:Int)==a)=true from beq_self_eq_true _];refine st (show idxD (rwD w (r0::r1::rs)) (.int 0)=some (.str (vt w r0)) from idx0) ?_;refine ask (ofE (za6 R2) ?_);have mc:=md c (m:=4) (by decide);obtain⟨y,hy,ey⟩:=zkM (xs:=[D.non,.int 7,rwD w (r0::r1::rs),.str []]) mc.1 mc.2
 have R3:Rai 9 H y 0:=by
  simp only[ZE,Yk,or_false] at hy
  rcases hy with rfl | rfl | rfl | rfl
  ·exact zgL rfl
  ·exact zgL rfl
  ·exact zgL rfl
  ·exact zfm hw (n:=9) (by decide) (rest:=[]) F.s2 (ln1 [] (by decide))
 refine st ey ?_;refine ask (ofE (za6 R3) ?_);refine ask (ofE (znL hw F) ?_)
 refine st (addL (by simp;omega)) ?_
 rw[show((((r0::r1::rs).map (vt w)).map D.str)++[D.str []])=((r0::r1::(rs++[[]])).map (vt w)).map D.str from by simp only[ZL,Zp,YV,Xt];rfl]
 refine st ln9.join ?_;refine ask (ofE (za6 R4) ?_);exact k H
end
variable {Q:R->Sto->Prop}
theorem ixnN{n i:Nat}(h:i<n):ixn n (i:Int)=some i:=by unfold ixn;rw[if_pos (by omega),if_pos (by omega)];simp
theorem set1{w:Nat->W}{l:List W}{a:Nat}{x:W}(h:a<l.length):((l.map (vt w)).map D.str).set a (.str x)=((l.take a).map (vt w)++x::(l.drop (a+1)).map (vt w)).map D.str:=by rw[<-VP,List.set_eq_take_append_cons_drop,if_pos (by rw[Z1];exact h),V5,List.map_drop]
theorem set2{A B:List W}{x y:W}{n:Nat}(h:A.length<n)(h2:n<A.length+1+B.length):((A++x::B).map D.str).set n (.str y)=(A++x::B.set (n-A.length-1) y).map D.str:=by
 rw[<-VP]
 congr 1
 rw[YB _ _ (by omega)]
 congr 1
 obtain⟨j,hj⟩:∃j,n-A.length=j+1:=⟨n-A.length-1,by omega⟩;rw[hj,List.set_cons_succ,Nat.add_sub_cancel]
def sgL(ns:List Int)(v1 v2 v3 v4 v5 v6 v7:Option R):Env:=[some (.d (.lst (ns.map D.int))),v1,v2,v3,v4,v5,v6,v7]
theorem law_call{ns:List Int}(hns:ns.length<=63)(kq:Q (.d (.bl true)) []):Ok (zaf P 12 32 [.d (.lst (ns.map D.int))] []) Q:=by
 obtain⟨r0,r1,rs,F⟩:=zmB (bad:=badS) zp2 zqa zsB zn1 zq3 zsg (by decide +kernel)
 have hb:∀a b,a<9->b∈(if a<2 then(if a=0 then hdS 0 else hdS 1)++[x1,x2]++[x3 a] else bhS++boS++twS a)->b∈badS a:=by
  intro a b ha h;unfold badS
  by_cases h2:a<2
  ·rw [if_pos h2] at h⊢
   rcases(show a=0\/a=1 by omega) with rfl | rfl
   ·exact h
   ·exact h
  ·rw [if_neg h2] at h⊢
   exact h
 have F7:=zsr;generalize badS=bad at F hb;generalize hdS 0=h0 at F hb F7;generalize hdS 1=h1 at F hb F7;generalize bhS=bh at F hb F7;generalize boS=bo at F hb F7;generalize twS=tw at F hb F7;generalize hdV=hd at F;generalize hoV=ho at F;generalize hsV=hs at F;have hlen:=F.len;refine cl (F:=⟨1,8,znH,false,[],false,false⟩) rfl rfl rfl ?_
 refine st (show biD .sum [.lst (ns.map D.int)]=some (.int ns.sum) from by show(match sumI (ns.map D.int) with | some s=>some (D.int s) | none=>none)=_;rw[zfx]) ?_
 refine st (addL (by have:=zig (xs:=ns.map D.int) (a:=none) (b:=some 20);rw[Z1] at this;simp;omega)) ?_
 ac_rfl
 rw[show cut (ns.map D.int) none (some 20)++[D.int ns.sum]=(ns.take 20++[ns.sum]).map D.int from by rw[ze1,show cut ns none (some 20)=ns.take 20 from cutN (n:=20),Zp];rfl,YM]
 refine ask (zjo (g:=dI∘D.int) (xs:=ns.take 20++[ns.sum]) (λj σ h'=>∃v1 v2 v3 v4 v5 v6 v7,σ=sgL ns v1 v2 v3 v4 v5 v6 v7) ?_ ?_ ?_)
 ·rintro j c σ g hc ⟨v1,v2,v3,v4,v5,v6,v7,rfl⟩
  refine gb ?_;refine ask (zjF 10 λa b=>?_);refine ask (zbx 10 (by decide) (by decide) λr a1 b1 r0' r1'=>?_);obtain⟨at',rfl⟩:∃n:Nat,r=n:=⟨r.toNat,by omega⟩
  have hat:at'<9:=by omega
  refine ask (show Ok (zaf P 11 23 [.loc g.length,.d (.lst (ends.map D.str))] (g++[dr a1 b1])) _ from ziA 9 λws a2 b2 hl hd'=>?_);have hw:=zsa hl hd';rw[zsA hl];generalize wOf ws=w at hw⊢;refine ask (ofE (zoW hw F (by decide)) ?_)
  have lnR:Lns ((r0::r1::rs).map (vt w)):=by
   have:=zgF hw F (rest:=[]) (λx hx=>by cases hx) (by simp)
   rwa [Zg] at this
  have lR:∀x∈(r0::r1::rs).map (vt w),10∉x/\x.length<=1000:=λx hx=>⟨lnR.no x hx,lnR.len x hx⟩;obtain⟨d,e1,e2⟩:=zkh hw F (n:=10) (by decide) (h:=g++[dr a2 b2]) (.inl rfl) (λl hl=>F.ln l (Zx _ (Zx _ hl))) hlen;refine st lnR.join ?_;refine ask (ofE e1 ?_);refine ask (ofE e2 ?_);refine st lnR.join ?_
  refine bf (by rw[zir];rfl) ?_
  ac_rfl
  have ea:∀o x:Ob,g++[o]++[x]=g++[o,x]:=λo x=>by simp
  rw[ea,len1];refine ask (zhI hw F F7 hb 9 (by decide) at' hat λb a3 b3 zb=>?_);ac_rfl;refine st zbG ?_
  refine st (ixnN (by rw[Z1,Z1];simp;omega)) ?_
  rw[zfd,set1 (by simp;omega)]
  refine ask (zbx 10 (by decide) (by decide) λr' a4 b4 s0 s1=>?_);obtain⟨lt,rfl⟩:∃n:Nat,r'=n:=⟨r'.toNat,by omega⟩
  have hlt:lt<9:=by omega
  have hdr:((r0::r1::rs).drop (at'+1)).length=8-at':=by rw[YU];simp;omega
  have hrest:∀x∈((r0::r1::rs).drop (at'+1)).map (vt w),10∉x/\x.length<=1000:=λx hx=>by obtain⟨l,h1,rfl⟩:=XM.mp hx;exact znT hw (F.ln l (Xy h1))
  refine br (λc1=>?_) (λc1=>?_)
  ·have c1:=of_decide_eq_true c1
   have hlt2:at'<lt:=by omega
   refine ask (zhI hw F F7 hb 9 (by decide) lt hlt λb' a5 b5 zb'=>?_);ac_rfl;refine st zbG ?_
   have hA:(((r0::r1::rs).take at').map (vt w)).length=at':=by rw[Z1,Zm];simp;omega
   have hB:(((r0::r1::rs).drop (at'+1)).map (vt w)).length=8-at':=by rw[Z1];exact hdr
   refine st (ixnN (by rw[Z1,ZZ,Zz];omega)) ?_
   rw[zfd,set2 (by omega) (by omega)]
   refine zj6 hw F hat zb (λx hx=>?_) (by rw[VM];exact hB) λg'=>⟨rfl,zaA,_,_,_,_,_,_,_,rfl⟩
   rcases List.mem_or_eq_of_mem_set hx with hx | rfl
   ·exact hrest x hx
   ·exact znT hw (zkR hw F hlt zb')
  ·refine wnil ?_
   refine zj6 hw F hat zb hrest (by rw[Z1];exact hdr) λg'=>⟨rfl,zaA,_,_,_,_,_,_,_,rfl⟩
 ·rintro σ h' ⟨v1,v2,v3,v4,v5,v6,v7,rfl⟩
  exact fa (h:=[]) (t:=h') kq
 ·exact⟨_,_,_,_,_,_,_,rfl⟩
theorem zlL{ns:List Int}(hl:ns.length<=63):zaf P 12 32 [.d (.lst (ns.map .int))] []=some (.d (.bl true),[]):=by obtain⟨r,h,e,rfl,rfl⟩:=law_call (Q:=λr h=>r=.d (.bl true)/\h=[]) hl ⟨rfl,rfl⟩;exact e
open PySem PySem.Spec L2 IT
def fns:List (Str×Nat×List D):=[(("is_word",1,[]):Str×Nat×List D),(("is_kind",1,[]):Str×Nat×List D),(("are_states",1,[]):Str×Nat×List D),(("are_hands",1,[]):Str×Nat×List D),(("states_of",1,[]):Str×Nat×List D),(("is_row",3,[]):Str×Nat×List D),(("is_hand_row",2,[]):Str×Nat×List D),(("is_house_row",2,[]):Str×Nat×List D),(("are_acts",3,[]):Str×Nat×List D),(("is_act",3,[]):Str×Nat×List D),(("place_of",1,[]):Str×Nat×List D),(("rival_places",1,[]):Str×Nat×List D),(("table_text",1,[]):Str×Nat×List D),(("row_text",1,[]):Str×Nat×List D),(("read_table",1,[]):Str×Nat×List D),(("read_hands",1,[]):Str×Nat×List D),(("read_houses",1,[]):Str×Nat×List D),(("parts_behind",2,[]):Str×Nat×List D),(("words_of",1,[]):Str×Nat×List D),(("read_rows",3,[]):Str×Nat×List D),(("read_row",1,[]):Str×Nat×List D),(("_law_draw",1,[]):Str×Nat×List D),(("_law_next",2,[]):Str×Nat×List D),(("_law_words",2,[]):Str×Nat×List D),(("_law_rows",1,[]):Str×Nat×List D),(("_law_bad_heads",1,[]):Str×Nat×List D),(("_law_bad_hands",1,[]):Str×Nat×List D),(("_law_bad_houses",1,[]):Str×Nat×List D),(("_law_twice",2,[]):Str×Nat×List D),(("_law_bad",3,[]):Str×Nat×List D),(("_law_refused",2,[]):Str×Nat×List D),(("_law_exchanged",1,[]):Str×Nat×List D),(("law",1,[]):Str×Nat×List D)]
def cls:List zkz:=[]
def globs:List (Str×D):=[("ARROW",(.str [45,62])),("ASKS",(.tup [(.str [114,101,97,100]),(.str [119,114,105,116,101]),(.str [100,114,111,112])])),("HANDS",(.str [104,97,110,100,115,32])),("HAND_ACTS",(.tup [(.str [107,101,101,112]),(.str [108,111,115,101]),(.str [116,101,108,108]),(.str [112,117,116])])),("HAND_SENDS",(.tup [(.str [115,101,110,100])])),("HOUSES",(.str [104,111,117,115,101,115,32])),("HOUSE_ACTS",(.tup [(.str [107,101,101,112]),(.str [111,119,110]),(.str [115,104,97,114,101]),(.str [102,111,114,103,101,116]),(.str [99,108,101,97,114]),(.str [115,116,97,121])])),("HOUSE_SENDS",(.tup [(.str [115,101,110,100]),(.str [111,119,110,101,114]),(.str [111,116,104,101,114,115])])),("LOADS",(.tup [(.str [98,97,114,101]),(.str [118,97,108,117,101])])),("MOST_ACTS",(.int 6)),("MOST_LETTERS",(.int 8)),("MOST_STATES",(.int 8)),("RIGHTS",(.tup [(.str [110,111,110,101]),(.str [114,101,97,100]),(.str [119,114,105,116,101])])),("SMALL_LETTERS",(.str [97,98,99,100,101,102,103,104,105,106,107,108,109,110,111,112,113,114,115,116,117,118,119,120,121,122])),("WAITS",(.tup [(.tup [(.str [119,97,105,116])])])),("WHENS",(.tup [(.str [97,110,121]),(.str [108,97,115,116]),(.str [109,111,114,101])]))]
def exs:List zdO:=[⟨"BadTable",["CopyError"],[("BadPaper",false),("NoDeed",false),("NoRow",false),("BadTable",true),("ValueError",true)],true⟩]
def gds:List (Str×List (List Nat×D)):=[]
def bd(n:Nat):Stmt:=PySem.Challenge.pw_copyclerk_k02_the_first_row_that_is_none.main.body.getD n (.Pass ⟨0,0,0,0⟩)
abbrev Cd(b:List S)(n p:List Str)(s:Stmt)(lm:Bool):Prop:=n.Nodup/\(∀x∈p,(zae s).names.lookup x=some .local\/(zae s).names.lookup x=some .cell)/\(∀y∈(zae s).names,y.2≠.free)/\chkSs b ⟨n,(zae s).names,fns,globs,true,cls,gds,exs,lm⟩ (zay s)=true
theorem Cd.sc{b:List S}{n p:List Str}{s:Stmt}{lm:Bool}(c:Cd b n p s lm)(h1:(zae s).kind=.function)(h2:(zae s).isCoroutine=false)(h3:(zae s).isGenerator=false)(h4:n.take p.length=p):za9 n p (zae s):=⟨h1,h2,h3,c.1,h4,c.2.1,c.2.2.1⟩
def zgp:Stmt:=bd 20
def zjq:List Str:=["text", "?1?sign"]
def zdc:List Str:=["text"]
theorem zlg:Cd zdC zjq zdc zgp false:=by decide +kernel
def zgn:Stmt:=bd 21
def zjd:List Str:=["text"]
def zdQ:List Str:=["text"]
theorem zj9:Cd zf9 zjd zdQ zgn false:=by decide +kernel
def zcM:Stmt:=bd 22
def zfA:List Str:=["words", "?1?word"]
def zbs:List Str:=["words"]
theorem zgh:Cd zcP zfA zbs zcM false:=by decide +kernel
def zdl:Stmt:=bd 23
def zgI:List Str:=["pairs", "?1?pair"]
def zbU:List Str:=["pairs"]
theorem zhc:Cd zde zgI zbU zdl false:=by decide +kernel
def zdp:Stmt:=bd 24
def zhi:List Str:=["hands", "?1?pair"]
def zbW:List Str:=["hands"]
theorem zg2:Cd zdN zhi zbW zdp false:=by decide +kernel
def zif:Stmt:=bd 25
def zmy:List Str:=["row", "hand_states", "house_states"]
def zeK:List Str:=["row", "hand_states", "house_states"]
theorem zmw:Cd zhL zmy zeK zif false:=by decide +kernel
def zb5:Stmt:=bd 26
def zeI:List Str:=["row", "states", "acts"]
def zbd:List Str:=["row", "states"]
theorem ze4:Cd zcs zeI zbd zb5 false:=by decide +kernel
def zbP:Stmt:=bd 27
def zd6:List Str:=["row", "states"]
def za3:List Str:=["row", "states"]
theorem zdX:Cd zbR zd6 za3 zbP false:=by decide +kernel
def zee:Stmt:=bd 28
def ziy:List Str:=["acts", "plain", "sends", "?1?act"]
def zcx:List Str:=["acts", "plain", "sends"]
theorem ziH:Cd zew ziy zcx zee false:=by decide +kernel
def zhM:Stmt:=bd 29
def zmr:List Str:=["act", "plain", "sends"]
def zeQ:List Str:=["act", "plain", "sends"]
theorem zmN:Cd zhS zmr zeQ zhM false:=by decide +kernel
def zex:Stmt:=bd 30
def ziC:List Str:=["row"]
def zcF:List Str:=["row"]
theorem ziK:Cd zeo ziC zcF zex false:=by decide +kernel
def zbK:Stmt:=bd 31
def zdW:List Str:=["row", "whens", "?1?when"]
def zaZ:List Str:=["row"]
theorem zdT:Cd zbL zdW zaZ zbK false:=by decide +kernel
def zcO:Stmt:=bd 36
def zfN:List Str:=["table", "pairs", "lines", "?1?pair", "?2?row"]
def zbw:List Str:=["table"]
theorem zfO:Cd zcS zfN zbw zcO false:=by decide +kernel
def zet:Stmt:=bd 37
def zi1:List Str:=["row", "head", "acts", "?1?act"]
def zcC:List Str:=["row"]
theorem ziX:Cd zek zi1 zcC zet false:=by decide +kernel
def zcV:Stmt:=bd 38
def zgc:List Str:=["text", "lines", "hands", "houses"]
def zbu:List Str:=["text"]
theorem zfX:Cd zav zgc zbu zcV false:=by decide +kernel
def zcU:Stmt:=bd 39
def zfy:List Str:=["line", "?1?part"]
def zbC:List Str:=["line"]
theorem zfU:Cd zcT zfy zbC zcU false:=by decide +kernel
def zb8:Stmt:=bd 40
def zeT:List Str:=["line"]
def zbk:List Str:=["line"]
theorem zfp:Cd zcj zeT zbk zb8 false:=by decide +kernel
def zbO:Stmt:=bd 41
def zd0:List Str:=["heading", "line"]
def za2:List Str:=["heading", "line"]
theorem zd4:Cd zbJ zd0 za2 zbO false:=by decide +kernel
def zej:Stmt:=bd 42
def zi0:List Str:=["part"]
def zcz:List Str:=["part"]
theorem zi8:Cd zea zi0 zcz zej false:=by decide +kernel
def zdF:Stmt:=bd 43
def zgD:List Str:=["lines", "hand_states", "house_states", "rows", "taken", "number", "line", "row", "?1?place"]
def zb1:List Str:=["lines", "hand_states", "house_states"]
theorem zg0:Cd zbe zgD zb1 zdF false:=by decide +kernel
def zei:Stmt:=bd 44
def ziR:List Str:=["line", "halves", "words", "acts", "?1?part"]
def zcy:List Str:=["line"]
theorem ziS:Cd zd8 ziR zcy zei false:=by decide +kernel
def zic:Stmt:=bd 46
def zmc:List Str:=["_law_cell"]
def zeZ:List Str:=["_law_cell"]
theorem zlP:Cd zff zmc zeZ zic false:=by decide +kernel
def zhz:Stmt:=bd 47
def zmm:List Str:=["_law_draw_here", "_law_size", "_law_digit", "_law_number"]
def zeS:List Str:=["_law_draw_here", "_law_size"]
theorem zms:Cd zfu zmm zeS zhz false:=by decide +kernel
def zfY:Stmt:=bd 48
def zkl:List Str:=["_law_draw_here", "_law_ends", "_law_words_here", "_law_end", "_law_word", "_law_k"]
def zdR:List Str:=["_law_draw_here", "_law_ends"]
theorem zlj:Cd zdo zkl zdR zfY false:=by decide +kernel
def zhw:Stmt:=bd 49
def zmn:List Str:=["_law_words_here", "_law_one", "_law_two", "_law_three", "_law_home", "_law_out", "_law_far", "_law_get", "_law_give", "_law_rows_here", "_law_tail"]
def zeB:List Str:=["_law_words_here"]
theorem zl5:Cd zhV zmn zeB zhw false:=by decide +kernel
def zca:Stmt:=bd 50
def zfr:List Str:=["_law_words_here", "_law_one", "_law_two", "_law_three", "_law_home", "_law_out", "_law_far", "_law_get", "_law_give", "_law_hands", "_law_houses", "?1?_law_letter"]
def zbi:List Str:=["_law_words_here"]
theorem zfw:Cd zb6 zfr zbi zca false:=by decide +kernel
def zcl:Stmt:=bd 51
def zfc:List Str:=["_law_words_here", "_law_one", "_law_two", "_law_three", "_law_home", "_law_out", "_law_far", "_law_get", "_law_give", "_law_head", "_law_tail", "_law_some"]
def zbn:List Str:=["_law_words_here"]
theorem zeD:Cd zcq zfc zbn zcl false:=by decide +kernel
def zbM:Stmt:=bd 52
def zd3:List Str:=["_law_words_here", "_law_one", "_law_two", "_law_three", "_law_home", "_law_out", "_law_far", "_law_get", "_law_give", "_law_head", "_law_tail", "_law_some"]
def za4:List Str:=["_law_words_here"]
theorem zd1:Cd zbQ zd3 za4 zbM false:=by decide +kernel
def zgm:Stmt:=bd 53
def zko:List Str:=["_law_words_here", "_law_at", "_law_one", "_law_two", "_law_three", "_law_home", "_law_out", "_law_far", "_law_get", "_law_give", "_law_some"]
def zdx:List Str:=["_law_words_here", "_law_at"]
theorem zj4:Cd zgb zko zdx zgm false:=by decide +kernel
def zjX:Stmt:=bd 54
def zpl:List Str:=["_law_words_here", "_law_at", "_law_draw_here", "_law_some"]
def zg9:List Str:=["_law_words_here", "_law_at", "_law_draw_here"]
theorem zoI:Cd zeO zpl zg9 zjX false:=by decide +kernel
def zbh:Stmt:=bd 55
def zdB:List Str:=["_law_text", "_law_number", "e", "_law_other"]
def zbZ:List Str:=["_law_text", "_law_number"]
theorem zgG:zhD ⟨zdB,(zae zbh).names,fns,globs,true,cls,gds,exs,false⟩ ⟨2,4,zbc,false,[],false,false⟩ (zay zbh):=by refine⟨(.call 14 [(.var 0)]),0,2,3,1,_, "CopyError", "e", "_law_other", "_law_number", "BadPaper", "NoDeed", "NoRow", "BadTable",_,rfl,rfl,?_,(rfl:exs[0]?=some _),?_⟩<;>decide +kernel
theorem zg6:za9 zdB zbZ (zae zbh):=⟨rfl,rfl,rfl,by decide +kernel,rfl,by decide +kernel,by decide +kernel⟩
def zcf:Stmt:=bd 56
def zfg:List Str:=["_law_rows_here", "_law_k", "_law_turned"]
def zbb:List Str:=["_law_rows_here"]
theorem zfe:Cd zbf zfg zbb zcf false:=by decide +kernel
def zqR:Stmt:=bd 57
def zrY:List Str:=["_law_script", "_law_cell", "_law_draw_here", "_law_at", "_law_words_here", "_law_rows_here", "_law_worse", "_law_later"]
def zpx:List Str:=["_law_script"]
theorem zsE:Cd znH zrY zpx zqR false:=by decide +kernel
def zaX:Stmt:=zom (bd 2) 0
theorem zgz:za9 ["self", "number"] ["self", "number"] (zae zaX):=⟨rfl,rfl,rfl,by decide +kernel,rfl,by decide +kernel,by decide +kernel⟩
inductive DI(K:Z8)(n:Str)(s:Stmt)(dV:Value)(f:Addr)(v:FuncData):Prop|mk {oc kV dc pm cd ct:Value} {od an:Option Addr} {sl:Array (Option Value)} (a:ZO K ZQ n=some (some (.ref f))) (l:K.lookup f=some ⟨oc,od,.func v,sl⟩) (e:v=Yp n n (zbq s) (zay s) (zae s) dV kV dc pm an cd ct) (c:Xz K cd n=true) (k:YO K (.ref f)=true)
section
variable {K:Z8}{n q:Str}{s:Stmt}{dV:Value}{f C:Addr}{v:FuncData}{N ps:List Str}{i:Nat}{B:F}(h5:(zae s).kind=.function)(h6:(zae s).isCoroutine=false)(h7:(zae s).isGenerator=false)(h8:N.take ps.length=ps)(e:P[i]?=some B)(h1:B.np=ps.length)(h2:B.ns=N.length)(h3:B.dfl=[])(c:Cd B.body N ps s B.lam)
include h5 h6 h7 h8 e h1 h2 h3 c
theorem dat0(hq:B.lam=true->q="law")(F:Fun2 K n q s f v)(h:∀us:List Value,us.length=ps.length->bindArgs v ⟨us,[]⟩=pure (ps.zip us)):zdV K fns cls P globs gds exs i n q s f v N ps B:=
 ⟨e, F,c.sc h5 h6 h7 h8,h1,h2,by
  rw[h3]
  exact ⟨[],λ_ _=>.nil,λj hj=>by
   obtain rfl:j=0:=Nat.le_zero.mp hj
   exact⟨[],.all h,.nil⟩⟩,.inl c.2.2.2,hq⟩
theorem DI.dat(hq:B.lam=true->n="law")(D:DI K n s .none f v)(h:∀kV dc pm an cd ct,∀us:List Value,us.length=ps.length->bindArgs (Yp n n (zbq s) (zay s) (zae s) .none kV dc pm an cd ct) ⟨us,[]⟩=pure (ps.zip us)):zdV K fns cls P globs gds exs i n n s f v N ps B:=by obtain⟨_,l,E,c',k⟩:=D;subst E;exact dat0 h5 h6 h7 h8 e h1 h2 h3 c hq (zjL l c' k) (h _ _ _ _ _ _)
end
section
variable {K:Z8}{n q:Str}{s:Stmt}{dV:Value}{f C:Addr}{v:FuncData}
theorem DI.datT{N ps:List Str}{i:Nat}{B:F}(e:P[i]?=some B)(h1:B.np=ps.length)(h2:B.ns=N.length)(h3:B.dfl=[])(sc:za9 N ps (zae s))(y:zhD ⟨N,(zae s).names,fns,globs,true,cls,gds,exs,B.lam⟩ B (zay s))(hq:B.lam=true->n="law")(D:DI K n s .none f v)(h:∀kV dc pm an cd ct,∀us:List Value,us.length=ps.length->bindArgs (Yp n n (zbq s) (zay s) (zae s) .none kV dc pm an cd ct) ⟨us,[]⟩=pure (ps.zip us)):zdV K fns cls P globs gds exs i n n s f v N ps B:=by
 obtain⟨_,l,E,c',k⟩:=D;subst E
 exact ⟨e,zjL l c' k,sc,h1,h2,by
  rw[h3]
  exact ⟨[],λ_ _=>.nil,λj hj=>by
   obtain rfl:j=0:=Nat.le_zero.mp hj
   exact⟨[],.all (h _ _ _ _ _ _),.nil⟩⟩,.inr y,hq⟩
theorem DI.mg{mg:Str->Option Value}{h:Heap}(D:DI K n s dV f v)(X:K.In h)(G:h.Ns ZQ mg):mg n=some (.ref f):=by obtain⟨a,_,_,_,_⟩:=D;exact Zy X G a
end
inductive DL(K:Z8):Nat->List F->List Addr->List FuncData->List (List Str)->Prop|nil (i:Nat):DL K i [] [] [] []|cons {i:Nat} {B:F} {Bs:List F} {f:Addr} {fs:List Addr} {v:FuncData} {vs:List FuncData} {p:List Str} {ps:List (List Str)} {x q:Str} {st:Stmt} {N:List Str} (d:zdV K fns cls P globs gds exs i x q st f v N p B) (r:DL K (i+1) Bs fs vs ps):DL K i (B::Bs) (f::fs) (v::vs) (p::ps)
theorem DL.get{K:Z8}{v0:FuncData}{B:F}{i:Nat}{Bs:List F}{fs:List Addr}{vs:List FuncData}{ps:List (List Str)}(L:DL K i Bs fs vs ps):∀j,Bs[j]?=some B->∃x q st N,zdV K fns cls P globs gds exs (i+j) x q st (fs.getD j 0) (vs.getD j v0) N (ps.getD j []) B:=by
 induction L with
 |nil i=>intro j e;simp at e
 | cons d r ih=>
  intro j e
  cases j with|zero=>cases e;exact⟨_,_,_,_,d⟩|succ j=>obtain⟨x,q,st,N,z⟩:=ih j (by simpa using e);rw[Nat.add_right_comm] at z;exact⟨x,q,st,N,z⟩
inductive FL(mg:Str->Option Value):List (Str×Nat×List D)->List Addr->List F->Prop|nil (fs:List Addr) (Bs:List F):FL mg [] fs Bs|cons {p:Str×Nat×List D} {ps:List (Str×Nat×List D)} {f:Addr} {fs:List Addr} {B:F} {Bs:List F} (h:mg p.1=some (.ref f)) (h1:B.np=p.2.1) (h2:B.dfl=p.2.2) (r:FL mg ps fs Bs):FL mg (p::ps) (f::fs) (B::Bs)
theorem FL.get{mg:Str->Option Value}{p:Str×Nat×List D}{ps:List (Str×Nat×List D)}{fs:List Addr}{Bs:List F}(L:FL mg ps fs Bs):∀j,ps[j]?=some p->mg p.1=some (.ref (fs.getD j 0))/\∃B,Bs[j]?=some B/\B.np=p.2.1/\B.dfl=p.2.2:=by
 induction L with
 |nil=>intro j e;simp at e
 |cons h h1 h2 r ih=>
  intro j e
  cases j with|zero=>cases e;exact⟨h,_,rfl,h1,h2⟩|succ j=>exact ih j (by simpa using e)
theorem all_mk{l:VL}{w:World}{K:Z8}{h:Heap}{mg:Str->Option Value}{fa f1 f2 f3 f4 f5 f6 f7 f8 f9 f10 f11 f12 f13 f14 f15 f16 f17 f18 f19 f20 f21 f22 f23 f24 f25 f26 f27 f28 f29 f30 f31 f32 f33 ga0 ga1 ga2 ga3 ga4 ga5 ga6 ga7 ga8 ga9:Addr}(X:K.In h)(G:h.Ns ZQ mg)(hfa:mg "law"=some (.ref fa))
  {gs1 gs2 gs3 gs4 gs5 gs6 gs7 gs8 gs9 gs10:Array (Option Value)} {v1 v2 v3 v4 v5 v6 v7 v8 v9 v10 v11 v12 v13 v14 v15 v16 v17 v18 v19 v20 v21 v22 v23 v24 v25 v26 v27 v28 v29 v30 v31 v32 v33:FuncData}
  {Qe Qc Qd Qh Qk xN_BadTable:Addr}
  {xnm_BadTable xq_BadTable:Str} {xbs_BadTable xsub_BadTable:List Value} {xab_BadTable:Bool} {xsn_BadTable:List Str} {xcol_BadTable:Option Bool} {xdd_BadTable:Option Addr} {xk0_BadTable xk1_BadTable xk2_BadTable xk3_BadTable xk5_BadTable:Option Value}
  {yc_CopyError:Value} {yd_CopyError:Option Addr} {ycd_CopyError:ClassData} {ys_CopyError:Array (Option Value)}
  {fI_BadTable:Addr} {odI anI:Option Addr} {ocI kVI dcI pmI cdI ctI:Value} {slI:Array (Option Value)}
  {tk0 tk1 tk2 tk3 tk4 tk5 tk6 tk7 tk8 tk9 tk10 tk11 tk12 tk13 tk14 tk15 tk16 tk17 tk18 tk19 tk20 tk21 tk22 tk23 tk24 tk25 tk26 tk27 tk28 tk29 tk30 tk31 tk32:Tok}
  {gn1 gn2 gn3 gn4 gn5 gn6 gn7 gn8 gn9 gn10:Nat}
  (D1:DI K "is_word" zgp .none f1 v1)
  (D2:DI K "is_kind" zgn .none f2 v2)
  (D3:DI K "are_states" zcM .none f3 v3)
  (D4:DI K "are_hands" zdl .none f4 v4)
  (D5:DI K "states_of" zdp .none f5 v5)
  (D6:DI K "is_row" zif .none f6 v6)
  (D7:DI K "is_hand_row" zb5 .none f7 v7)
  (D8:DI K "is_house_row" zbP .none f8 v8)
  (D9:DI K "are_acts" zee .none f9 v9)
  (D10:DI K "is_act" zhM .none f10 v10)
  (D11:DI K "place_of" zex .none f11 v11)
  (D12:DI K "rival_places" zbK .none f12 v12)
  (D13:DI K "table_text" zcO .none f13 v13)
  (D14:DI K "row_text" zet .none f14 v14)
  (D15:DI K "read_table" zcV .none f15 v15)
  (D16:DI K "read_hands" zcU .none f16 v16)
  (D17:DI K "read_houses" zb8 .none f17 v17)
  (D18:DI K "parts_behind" zbO .none f18 v18)
  (D19:DI K "words_of" zej .none f19 v19)
  (D20:DI K "read_rows" zdF .none f20 v20)
  (D21:DI K "read_row" zei .none f21 v21)
  (D22:DI K "_law_draw" zic .none f22 v22)
  (D23:DI K "_law_next" zhz .none f23 v23)
  (D24:DI K "_law_words" zfY .none f24 v24)
  (D25:DI K "_law_rows" zhw .none f25 v25)
  (D26:DI K "_law_bad_heads" zca .none f26 v26)
  (D27:DI K "_law_bad_hands" zcl .none f27 v27)
  (D28:DI K "_law_bad_houses" zbM .none f28 v28)
  (D29:DI K "_law_twice" zgm .none f29 v29)
  (D30:DI K "_law_bad" zjX .none f30 v30)
  (D31:DI K "_law_refused" zbh .none f31 v31)
  (D32:DI K "_law_exchanged" zcf .none f32 v32)
  (D33:DI K "law" zqR .none f33 v33)
  (x0:ZO K ZQ "ARROW"=some (some (.str (Z5 "->") tk0)))
  (y1:K.lookup ga0=some ⟨.type "tuple",none,.seq #[(.str (Z5 "read") tk1),(.str (Z5 "write") tk2),(.str (Z5 "drop") tk3)] gn1,gs1⟩)
  (x1:ZO K ZQ "ASKS"=some (some (.ref ga0)))
  (x2:ZO K ZQ "HANDS"=some (some (.str (Z5 "hands ") tk4)))
  (y2:K.lookup ga1=some ⟨.type "tuple",none,.seq #[(.str (Z5 "keep") tk5),(.str (Z5 "lose") tk6),(.str (Z5 "tell") tk7),(.str (Z5 "put") tk8)] gn2,gs2⟩)
  (x3:ZO K ZQ "HAND_ACTS"=some (some (.ref ga1)))
  (y3:K.lookup ga2=some ⟨.type "tuple",none,.seq #[(.str (Z5 "send") tk9)] gn3,gs3⟩)
  (x4:ZO K ZQ "HAND_SENDS"=some (some (.ref ga2)))
  (x5:ZO K ZQ "HOUSES"=some (some (.str (Z5 "houses ") tk10)))
  (y4:K.lookup ga3=some ⟨.type "tuple",none,.seq #[(.str (Z5 "keep") tk11),(.str (Z5 "own") tk12),(.str (Z5 "share") tk13),(.str (Z5 "forget") tk14),(.str (Z5 "clear") tk15),(.str (Z5 "stay") tk16)] gn4,gs4⟩)
  (x6:ZO K ZQ "HOUSE_ACTS"=some (some (.ref ga3)))
  (y5:K.lookup ga4=some ⟨.type "tuple",none,.seq #[(.str (Z5 "send") tk17),(.str (Z5 "owner") tk18),(.str (Z5 "others") tk19)] gn5,gs5⟩)
  (x7:ZO K ZQ "HOUSE_SENDS"=some (some (.ref ga4)))
  (y6:K.lookup ga5=some ⟨.type "tuple",none,.seq #[(.str (Z5 "bare") tk20),(.str (Z5 "value") tk21)] gn6,gs6⟩)
  (x8:ZO K ZQ "LOADS"=some (some (.ref ga5)))
  (x9:ZO K ZQ "MOST_ACTS"=some (some (.int 6 tk22)))
  (x10:ZO K ZQ "MOST_LETTERS"=some (some (.int 8 tk23)))
  (x11:ZO K ZQ "MOST_STATES"=some (some (.int 8 tk24)))
  (y7:K.lookup ga6=some ⟨.type "tuple",none,.seq #[(.str (Z5 "none") tk25),(.str (Z5 "read") tk26),(.str (Z5 "write") tk27)] gn7,gs7⟩)
  (x12:ZO K ZQ "RIGHTS"=some (some (.ref ga6)))
  (x13:ZO K ZQ "SMALL_LETTERS"=some (some (.str (Z5 "abcdefghijklmnopqrstuvwxyz") tk28)))
  (y8:K.lookup ga7=some ⟨.type "tuple",none,.seq #[(.str (Z5 "wait") tk29)] gn8,gs8⟩)
  (y9:K.lookup ga8=some ⟨.type "tuple",none,.seq #[(.ref ga7)] gn9,gs9⟩)
  (x14:ZO K ZQ "WAITS"=some (some (.ref ga8)))
  (y10:K.lookup ga9=some ⟨.type "tuple",none,.seq #[(.str (Z5 "any") tk30),(.str (Z5 "last") tk31),(.str (Z5 "more") tk32)] gn10,gs10⟩)
  (x15:ZO K ZQ "WHENS"=some (some (.ref ga9)))
  (Qf:ZO K ZQ "BadTable"=some (some (.ref Qe)))
  (q1_BadTable:K.lookup Qe=some (WH xnm_BadTable xq_BadTable Qe xN_BadTable xbs_BadTable (.ref Qc::veM) true xsn_BadTable xsub_BadTable xab_BadTable xcol_BadTable xdd_BadTable xk0_BadTable xk1_BadTable xk2_BadTable xk3_BadTable xk5_BadTable "ValueError.__new__"))
  (Qa:Y6 K (.ref Qe) "__setattr__"=some (some (.builtin "object.__setattr__"))) (tk_BadTable:PySem.W.takerIn K Qe "number"=some none) (kp_BadTable:YO K (.ref Qe)=true) (no_BadTable:Y6 K (.ref Qe) "number"=some none) (fi_BadTable:Y6 K (.ref Qe) "__init__"=some (some (.ref fI_BadTable))) (ti_BadTable:Wj K (.ref fI_BadTable)=some (.type "function"))
  (lI_BadTable:K.lookup fI_BadTable=some ⟨ocI,odI,.func (Yp "__init__" "BadTable.__init__" (zbq zaX) (zay zaX) (zae zaX) .none kVI dcI pmI anI cdI ctI),slI⟩) (cI_BadTable:Xz K cdI "BadTable.__init__"=true) (kI_BadTable:YO K (.ref fI_BadTable)=true)
  (b1_CopyError:PySem.W.specialIn K (.ref Qc) "__getattribute__"=some (some (.builtin "type.__getattribute__"))) (b2_CopyError:PySem.W.readsIn K Qc (.type "type")=true) (b3_CopyError:PySem.W.findCls K (.ref Qc) (.type "type") "__init__"=some (.val (.builtin "ValueError.__init__")))
  (q4_CopyError:K.lookup Qc=some ⟨yc_CopyError,yd_CopyError,.cls ycd_CopyError,ys_CopyError⟩) (q5_CopyError:PySem.W.nsOkIn K ycd_CopyError.ns=true) (q6_CopyError:ZO K ycd_CopyError.ns "__init__"=some none)
  (Qb:ZO K ZQ "CopyError"=some (some (.ref Qc)))
  (Qg:ZO K ZQ "BadPaper"=some (some (.ref Qd)))
  (Qi:ZO K ZQ "NoDeed"=some (some (.ref Qh)))
  (Qj:ZO K ZQ "NoRow"=some (some (.ref Qk)))
  (qz_ValueError:ZO K ZQ "ValueError"=some none)
  (q8_BadTable_CopyError:Wl K (.ref Qe) (.ref Qc)=some true)
  (qk_BadTable_BadPaper:Ze K (.ref Qe) (.ref Qd)=some false)
  (qk_BadTable_NoDeed:Ze K (.ref Qe) (.ref Qh)=some false)
  (qk_BadTable_NoRow:Ze K (.ref Qe) (.ref Qk)=some false)
  (qk_BadTable_BadTable:Ze K (.ref Qe) (.ref Qe)=some true)
  (qk_BadTable_ValueError:Ze K (.ref Qe) (.type "ValueError")=some true)
  (qa_BadTable:Y6 K (.ref Qe) "__getattribute__"=some (some (.builtin "BaseException.__getattribute__"))) (qb_BadTable:Y6 K (.ref Qe) "__getattr__"=some none) (qc_BadTable:Y6 K (.ref Qe) "__class__"=some (some (.builtin "object.__class__"))) (qd_BadTable:PySem.W.mroIn K Qe (.type "BaseException")=some true) (qe_BadTable:PySem.W.mroIn K Qe (.type "object")=some true) (qf_BadTable:Wb K Qe=true)
  (z1:ZO K ZQ "len"=some none)
  (z2:ZO K ZQ "sum"=some none)
  (z3:ZO K ZQ "tuple"=some none)
  (z4:ZO K ZQ "int"=some none)
  (z5:ZO K ZQ "range"=some none)
  (z6:ZO K ZQ "all"=some none)
  (z7:ZO K ZQ "any"=some none)
  (z8:ZO K ZQ "max"=some none)
  (z9:ZO K ZQ "min"=some none)
  (z10:ZO K ZQ "list"=some none)
  (z11:ZO K ZQ "isinstance"=some none)
  (z12:ZO K ZQ "str"=some none)
  (z13:ZO K ZQ "bool"=some none)
  (z14:ZO K ZQ "dict"=some none)
  (z15:ZO K ZQ "enumerate"=some none)
  (z16:ZO K ZQ "sorted"=some none)
  (z17:ZO K ZQ "set"=some none)
  : ∃fd:FuncData,(∀(s:Shared) (v:Value),Vz s fd ⟨[v],[]⟩ [("_law_script",v)])/\∀base:Heap,K.In base->base.Ns ZQ mg->FnOk l.prog w K mg base CX0 25 fa fd ["_law_script"] (spF K 1 (zaf P 12 32)):=by
 have e:=hfa.symm.trans (D33.mg X G);cases e
 have blt:∀x∈zco,mg x=none:=by
  intro x hx;simp only[zco,ZE,Yk,or_false] at hx
  rcases hx with rfl | rfl | rfl | rfl | rfl | rfl | rfl | rfl | rfl | rfl | rfl | rfl | rfl | rfl | rfl | rfl | rfl
  ·exact ZB X G z1
  ·exact ZB X G z2
  ·exact ZB X G z3
  ·exact ZB X G z4
  ·exact ZB X G z5
  ·exact ZB X G z6
  ·exact ZB X G z7
  ·exact ZB X G z8
  ·exact ZB X G z9
  ·exact ZB X G z10
  ·exact ZB X G z11
  ·exact ZB X G z12
  ·exact ZB X G z13
  ·exact ZB X G z14
  ·exact ZB X G z15
  ·exact ZB X G z16
  ·exact ZB X G z17
 have gl:∀(x:Str) (d:D),globs.lookup x=some d->∃u v,mg x=some u/\RelV v u/\∀A H,RepD K A H d v:=by
  intro x d e;unfold globs at e;rw[ZD] at e
  split at e
  ·rename_i hx
   have hx:=ZP hx;subst hx;cases e
   exact⟨_,(V.str (Z5 "->")),Zy X G x0,⟨_,rfl⟩,λA H=>by simp only[RepD];rfl⟩
  rw[ZD] at e
  split at e
  ·rename_i hx
   have hx:=ZP hx;subst hx;cases e
   exact⟨_,(V.ref ga0),Zy X G x1,rfl,λA H=>by simp only[RepD];exact⟨ga0,[(V.str (Z5 "read")),(V.str (Z5 "write")),(V.str (Z5 "drop"))],rfl,.inr ⟨_,_,_,y1,rfl,rfl,rfl,by show 3<=sizeLine;decide,(.cons ⟨_,rfl⟩ (.cons ⟨_,rfl⟩ (.cons ⟨_,rfl⟩ .nil)))⟩,(.cons (by simp only[RepD];rfl) (.cons (by simp only[RepD];rfl) (.cons (by simp only[RepD];rfl) .nil)))⟩⟩
  rw[ZD] at e
  split at e
  ·rename_i hx
   have hx:=ZP hx;subst hx;cases e
   exact⟨_,(V.str (Z5 "hands ")),Zy X G x2,⟨_,rfl⟩,λA H=>by simp only[RepD];rfl⟩
  rw[ZD] at e
  split at e
  ·rename_i hx
   have hx:=ZP hx;subst hx;cases e
   exact⟨_,(V.ref ga1),Zy X G x3,rfl,λA H=>by simp only[RepD];exact⟨ga1,[(V.str (Z5 "keep")),(V.str (Z5 "lose")),(V.str (Z5 "tell")),(V.str (Z5 "put"))],rfl,.inr ⟨_,_,_,y2,rfl,rfl,rfl,by show 4<=sizeLine;decide,(.cons ⟨_,rfl⟩ (.cons ⟨_,rfl⟩ (.cons ⟨_,rfl⟩ (.cons ⟨_,rfl⟩ .nil))))⟩,(.cons (by simp only[RepD];rfl) (.cons (by simp only[RepD];rfl) (.cons (by simp only[RepD];rfl) (.cons (by simp only[RepD];rfl) .nil))))⟩⟩
  rw[ZD] at e
  split at e
  ·rename_i hx
   have hx:=ZP hx;subst hx;cases e
   exact⟨_,(V.ref ga2),Zy X G x4,rfl,λA H=>by simp only[RepD];exact⟨ga2,[(V.str (Z5 "send"))],rfl,.inr ⟨_,_,_,y3,rfl,rfl,rfl,by show 1<=sizeLine;decide,(.cons ⟨_,rfl⟩ .nil)⟩,(.cons (by simp only[RepD];rfl) .nil)⟩⟩
  rw[ZD] at e
  split at e
  ·rename_i hx
   have hx:=ZP hx;subst hx;cases e
   exact⟨_,(V.str (Z5 "houses ")),Zy X G x5,⟨_,rfl⟩,λA H=>by simp only[RepD];rfl⟩
  rw[ZD] at e
  split at e
  ·rename_i hx
   have hx:=ZP hx;subst hx;cases e
   exact⟨_,(V.ref ga3),Zy X G x6,rfl,λA H=>by simp only[RepD];exact⟨ga3,[(V.str (Z5 "keep")),(V.str (Z5 "own")),(V.str (Z5 "share")),(V.str (Z5 "forget")),(V.str (Z5 "clear")),(V.str (Z5 "stay"))],rfl,.inr ⟨_,_,_,y4,rfl,rfl,rfl,by show 6<=sizeLine;decide,(.cons ⟨_,rfl⟩ (.cons ⟨_,rfl⟩ (.cons ⟨_,rfl⟩ (.cons ⟨_,rfl⟩ (.cons ⟨_,rfl⟩ (.cons ⟨_,rfl⟩ .nil))))))⟩,(.cons (by simp only[RepD];rfl) (.cons (by simp only[RepD];rfl) (.cons (by simp only[RepD];rfl) (.cons (by simp only[RepD];rfl) (.cons (by simp only[RepD];rfl) (.cons (by simp only[RepD];rfl) .nil))))))⟩⟩
  rw[ZD] at e
  split at e
  ·rename_i hx
   have hx:=ZP hx;subst hx;cases e
   exact⟨_,(V.ref ga4),Zy X G x7,rfl,λA H=>by simp only[RepD];exact⟨ga4,[(V.str (Z5 "send")),(V.str (Z5 "owner")),(V.str (Z5 "others"))],rfl,.inr ⟨_,_,_,y5,rfl,rfl,rfl,by show 3<=sizeLine;decide,(.cons ⟨_,rfl⟩ (.cons ⟨_,rfl⟩ (.cons ⟨_,rfl⟩ .nil)))⟩,(.cons (by simp only[RepD];rfl) (.cons (by simp only[RepD];rfl) (.cons (by simp only[RepD];rfl) .nil)))⟩⟩
  rw[ZD] at e
  split at e
  ·rename_i hx
   have hx:=ZP hx;subst hx;cases e
   exact⟨_,(V.ref ga5),Zy X G x8,rfl,λA H=>by simp only[RepD];exact⟨ga5,[(V.str (Z5 "bare")),(V.str (Z5 "value"))],rfl,.inr ⟨_,_,_,y6,rfl,rfl,rfl,by show 2<=sizeLine;decide,(.cons ⟨_,rfl⟩ (.cons ⟨_,rfl⟩ .nil))⟩,(.cons (by simp only[RepD];rfl) (.cons (by simp only[RepD];rfl) .nil))⟩⟩
  rw[ZD] at e
  split at e
  ·rename_i hx
   have hx:=ZP hx;subst hx;cases e;exact⟨_,(V.int 6),Zy X G x9,⟨_,rfl⟩,λA H=>by simp only[RepD]⟩
  rw[ZD] at e
  split at e
  ·rename_i hx
   have hx:=ZP hx;subst hx;cases e;exact⟨_,(V.int 8),Zy X G x10,⟨_,rfl⟩,λA H=>by simp only[RepD]⟩
  rw[ZD] at e
  split at e
  ·rename_i hx
   have hx:=ZP hx;subst hx;cases e;exact⟨_,(V.int 8),Zy X G x11,⟨_,rfl⟩,λA H=>by simp only[RepD]⟩
  rw[ZD] at e
  split at e
  ·rename_i hx
   have hx:=ZP hx;subst hx;cases e
   exact⟨_,(V.ref ga6),Zy X G x12,rfl,λA H=>by simp only[RepD];exact⟨ga6,[(V.str (Z5 "none")),(V.str (Z5 "read")),(V.str (Z5 "write"))],rfl,.inr ⟨_,_,_,y7,rfl,rfl,rfl,by show 3<=sizeLine;decide,(.cons ⟨_,rfl⟩ (.cons ⟨_,rfl⟩ (.cons ⟨_,rfl⟩ .nil)))⟩,(.cons (by simp only[RepD];rfl) (.cons (by simp only[RepD];rfl) (.cons (by simp only[RepD];rfl) .nil)))⟩⟩
  rw[ZD] at e
  split at e
  ·rename_i hx
   have hx:=ZP hx;subst hx;cases e
   exact⟨_,(V.str (Z5 "abcdefghijklmnopqrstuvwxyz")),Zy X G x13,⟨_,rfl⟩,λA H=>by simp only[RepD];rfl⟩
  rw[ZD] at e
  split at e
  ·rename_i hx
   have hx:=ZP hx;subst hx;cases e
   exact⟨_,(V.ref ga8),Zy X G x14,rfl,λA H=>by simp only[RepD];exact⟨ga8,[(V.ref ga7)],rfl,.inr ⟨_,_,_,y9,rfl,rfl,rfl,by show 1<=sizeLine;decide,(.cons rfl .nil)⟩,(.cons (by simp only[RepD];exact⟨ga7,[(V.str (Z5 "wait"))],rfl,.inr ⟨_,_,_,y8,rfl,rfl,rfl,by show 1<=sizeLine;decide,(.cons ⟨_,rfl⟩ .nil)⟩,(.cons (by simp only[RepD];rfl) .nil)⟩) .nil)⟩⟩
  rw[ZD] at e
  split at e
  ·rename_i hx
   have hx:=ZP hx;subst hx;cases e
   exact⟨_,(V.ref ga9),Zy X G x15,rfl,λA H=>by simp only[RepD];exact⟨ga9,[(V.str (Z5 "any")),(V.str (Z5 "last")),(V.str (Z5 "more"))],rfl,.inr ⟨_,_,_,y10,rfl,rfl,rfl,by show 3<=sizeLine;decide,(.cons ⟨_,rfl⟩ (.cons ⟨_,rfl⟩ (.cons ⟨_,rfl⟩ .nil)))⟩,(.cons (by simp only[RepD];rfl) (.cons (by simp only[RepD];rfl) (.cons (by simp only[RepD];rfl) .nil)))⟩⟩
  cases e
 let exA:List Addr:=[Qe]
 let addr:Nat->Addr:=λn=>[f1,f2,f3,f4,f5,f6,f7,f8,f9,f10,f11,f12,f13,f14,f15,f16,f17,f18,f19,f20,f21,f22,f23,f24,f25,f26,f27,f28,f29,f30,f31,f32,fa].getD n 0
 let psOf:Nat->List Str:=λn=>[zdc,zdQ,zbs,zbU,zbW,zeK,zbd,za3,zcx,zeQ,zcF,zaZ,zbw,zcC,zbu,zbC,zbk,za2,zcz,zb1,zcy,zeZ,zeS,zdR,zeB,zbi,zbn,za4,zdx,zg9,zbZ,zbb,zpx].getD n []
 let fdOf:Nat->FuncData:=λn=>[v1,v2,v3,v4,v5,v6,v7,v8,v9,v10,v11,v12,v13,v14,v15,v16,v17,v18,v19,v20,v21,v22,v23,v24,v25,v26,v27,v28,v29,v30,v31,v32,v33].getD n v1
 have T:Txt w K mg fns cls P globs gds exs exA addr fdOf psOf:=by
  refine⟨λfi B e=>?_,blt,gl,λfi p e=>?_,λc x e hn=>?_,by decide⟩
  ·have L:DL K 0 P [f1,f2,f3,f4,f5,f6,f7,f8,f9,f10,f11,f12,f13,f14,f15,f16,f17,f18,f19,f20,f21,f22,f23,f24,f25,f26,f27,f28,f29,f30,f31,f32,fa] [v1,v2,v3,v4,v5,v6,v7,v8,v9,v10,v11,v12,v13,v14,v15,v16,v17,v18,v19,v20,v21,v22,v23,v24,v25,v26,v27,v28,v29,v30,v31,v32,v33] [zdc,zdQ,zbs,zbU,zbW,zeK,zbd,za3,zcx,zeQ,zcF,zaZ,zbw,zcC,zbu,zbC,zbk,za2,zcz,zb1,zcy,zeZ,zeS,zdR,zeB,zbi,zbn,za4,zdx,zg9,zbZ,zbb,zpx]:=.cons (DI.dat rfl rfl rfl rfl rfl rfl rfl rfl zlg (λz=>by cases z) D1 λ_ _ _ _ _ _=>us1 λ_=>rfl) (.cons (DI.dat rfl rfl rfl rfl rfl rfl rfl rfl zj9 (λz=>by cases z) D2 λ_ _ _ _ _ _=>us1 λ_=>rfl) (.cons (DI.dat rfl rfl rfl rfl rfl rfl rfl rfl zgh (λz=>by cases z) D3 λ_ _ _ _ _ _=>us1 λ_=>rfl) (.cons (DI.dat rfl rfl rfl rfl rfl rfl rfl rfl zhc (λz=>by cases z) D4 λ_ _ _ _ _ _=>us1 λ_=>rfl) (.cons (DI.dat rfl rfl rfl rfl rfl rfl rfl rfl zg2 (λz=>by cases z) D5 λ_ _ _ _ _ _=>us1 λ_=>rfl) (.cons (DI.dat rfl rfl rfl rfl rfl rfl rfl rfl zmw (λz=>by cases z) D6 λ_ _ _ _ _ _=>us3 λ_ _ _=>rfl) (.cons (DI.dat rfl rfl rfl rfl rfl rfl rfl rfl ze4 (λz=>by cases z) D7 λ_ _ _ _ _ _=>us2 λ_ _=>rfl) (.cons (DI.dat rfl rfl rfl rfl rfl rfl rfl rfl zdX (λz=>by cases z) D8 λ_ _ _ _ _ _=>us2 λ_ _=>rfl) (.cons (DI.dat rfl rfl rfl rfl rfl rfl rfl rfl ziH (λz=>by cases z) D9 λ_ _ _ _ _ _=>us3 λ_ _ _=>rfl) (.cons (DI.dat rfl rfl rfl rfl rfl rfl rfl rfl zmN (λz=>by cases z) D10 λ_ _ _ _ _ _=>us3 λ_ _ _=>rfl) (.cons (DI.dat rfl rfl rfl rfl rfl rfl rfl rfl ziK (λz=>by cases z) D11 λ_ _ _ _ _ _=>us1 λ_=>rfl) (.cons (DI.dat rfl rfl rfl rfl rfl rfl rfl rfl zdT (λz=>by cases z) D12 λ_ _ _ _ _ _=>us1 λ_=>rfl) (.cons (DI.dat rfl rfl rfl rfl rfl rfl rfl rfl zfO (λz=>by cases z) D13 λ_ _ _ _ _ _=>us1 λ_=>rfl) (.cons (DI.dat rfl rfl rfl rfl rfl rfl rfl rfl ziX (λz=>by cases z) D14 λ_ _ _ _ _ _=>us1 λ_=>rfl) (.cons (DI.dat rfl rfl rfl rfl rfl rfl rfl rfl zfX (λz=>by cases z) D15 λ_ _ _ _ _ _=>us1 λ_=>rfl) (.cons (DI.dat rfl rfl rfl rfl rfl rfl rfl rfl zfU (λz=>by cases z) D16 λ_ _ _ _ _ _=>us1 λ_=>rfl) (.cons (DI.dat rfl rfl rfl rfl rfl rfl rfl rfl zfp (λz=>by cases z) D17 λ_ _ _ _ _ _=>us1 λ_=>rfl) (.cons (DI.dat rfl rfl rfl rfl rfl rfl rfl rfl zd4 (λz=>by cases z) D18 λ_ _ _ _ _ _=>us2 λ_ _=>rfl) (.cons (DI.dat rfl rfl rfl rfl rfl rfl rfl rfl zi8 (λz=>by cases z) D19 λ_ _ _ _ _ _=>us1 λ_=>rfl) (.cons (DI.dat rfl rfl rfl rfl rfl rfl rfl rfl zg0 (λz=>by cases z) D20 λ_ _ _ _ _ _=>us3 λ_ _ _=>rfl) (.cons (DI.dat rfl rfl rfl rfl rfl rfl rfl rfl ziS (λz=>by cases z) D21 λ_ _ _ _ _ _=>us1 λ_=>rfl) (.cons (DI.dat rfl rfl rfl rfl rfl rfl rfl rfl zlP (λz=>by cases z) D22 λ_ _ _ _ _ _=>us1 λ_=>rfl) (.cons (DI.dat rfl rfl rfl rfl rfl rfl rfl rfl zms (λz=>by cases z) D23 λ_ _ _ _ _ _=>us2 λ_ _=>rfl) (.cons (DI.dat rfl rfl rfl rfl rfl rfl rfl rfl zlj (λz=>by cases z) D24 λ_ _ _ _ _ _=>us2 λ_ _=>rfl) (.cons (DI.dat rfl rfl rfl rfl rfl rfl rfl rfl zl5 (λz=>by cases z) D25 λ_ _ _ _ _ _=>us1 λ_=>rfl) (.cons (DI.dat rfl rfl rfl rfl rfl rfl rfl rfl zfw (λz=>by cases z) D26 λ_ _ _ _ _ _=>us1 λ_=>rfl) (.cons (DI.dat rfl rfl rfl rfl rfl rfl rfl rfl zeD (λz=>by cases z) D27 λ_ _ _ _ _ _=>us1 λ_=>rfl) (.cons (DI.dat rfl rfl rfl rfl rfl rfl rfl rfl zd1 (λz=>by cases z) D28 λ_ _ _ _ _ _=>us1 λ_=>rfl) (.cons (DI.dat rfl rfl rfl rfl rfl rfl rfl rfl zj4 (λz=>by cases z) D29 λ_ _ _ _ _ _=>us2 λ_ _=>rfl) (.cons (DI.dat rfl rfl rfl rfl rfl rfl rfl rfl zoI (λz=>by cases z) D30 λ_ _ _ _ _ _=>us3 λ_ _ _=>rfl) (.cons (DI.datT rfl rfl rfl rfl zg6 zgG (λz=>by cases z) D31 λ_ _ _ _ _ _=>us2 λ_ _=>rfl) (.cons (DI.dat rfl rfl rfl rfl rfl rfl rfl rfl zfe (λz=>by cases z) D32 λ_ _ _ _ _ _=>us1 λ_=>rfl) (.cons (DI.dat rfl rfl rfl rfl rfl rfl rfl rfl zsE (λz=>by cases z) D33 λ_ _ _ _ _ _=>us1 λ_=>rfl) (.nil _)))))))))))))))))))))))))))))))))
   have z:=DL.get (v0:=v1) L fi e;rw[Nat.zero_add] at z;exact z
  ·exact FL.get (show FL mg fns [f1,f2,f3,f4,f5,f6,f7,f8,f9,f10,f11,f12,f13,f14,f15,f16,f17,f18,f19,f20,f21,f22,f23,f24,f25,f26,f27,f28,f29,f30,f31,f32,fa] P from .cons (D1.mg X G) rfl rfl (.cons (D2.mg X G) rfl rfl (.cons (D3.mg X G) rfl rfl (.cons (D4.mg X G) rfl rfl (.cons (D5.mg X G) rfl rfl (.cons (D6.mg X G) rfl rfl (.cons (D7.mg X G) rfl rfl (.cons (D8.mg X G) rfl rfl (.cons (D9.mg X G) rfl rfl (.cons (D10.mg X G) rfl rfl (.cons (D11.mg X G) rfl rfl (.cons (D12.mg X G) rfl rfl (.cons (D13.mg X G) rfl rfl (.cons (D14.mg X G) rfl rfl (.cons (D15.mg X G) rfl rfl (.cons (D16.mg X G) rfl rfl (.cons (D17.mg X G) rfl rfl (.cons (D18.mg X G) rfl rfl (.cons (D19.mg X G) rfl rfl (.cons (D20.mg X G) rfl rfl (.cons (D21.mg X G) rfl rfl (.cons (D22.mg X G) rfl rfl (.cons (D23.mg X G) rfl rfl (.cons (D24.mg X G) rfl rfl (.cons (D25.mg X G) rfl rfl (.cons (D26.mg X G) rfl rfl (.cons (D27.mg X G) rfl rfl (.cons (D28.mg X G) rfl rfl (.cons (D29.mg X G) rfl rfl (.cons (D30.mg X G) rfl rfl (.cons (D31.mg X G) rfl rfl (.cons (D32.mg X G) rfl rfl (.cons (D33.mg X G) rfl rfl (.nil _ _)))))))))))))))))))))))))))))))))) fi e
  ·unfold exs at e
   match c,e with
   | 0,e=>
    cases e;have xn:ExcN K Qe:=⟨⟨_,_,_,_,_,_,_,_,_,_,_,_,_,_,_,q1_BadTable,λh Xh=>(zmK Xh q4_CopyError q5_CopyError q6_CopyError .base)⟩,Qa,tk_BadTable,kp_BadTable⟩
    exact ⟨Qe,Zy X G Qf,rfl,xn,⟨⟨⟨qa_BadTable,qb_BadTable,qc_BadTable,qd_BadTable,qe_BadTable⟩,qf_BadTable,⟨_,_,_,_,q1_BadTable⟩⟩,no_BadTable⟩,⟨(λy hy=>by
     simp only[ZE,Yk,or_false] at hy
     rcases hy with rfl
     ·exact⟨Qc,Zy X G Qb,q8_BadTable_CopyError⟩),
    .inr ⟨⟨qa_BadTable,qb_BadTable,qc_BadTable,qd_BadTable,qe_BadTable⟩,qf_BadTable,⟨_,_,_,_,q1_BadTable⟩⟩,
    (fun p hp=>by
     simp only[ZE,Yk,or_false] at hp
     rcases hp with rfl | rfl | rfl | rfl | rfl
     ·exact .own Qd (Zy X G Qg) qk_BadTable_BadPaper
     ·exact .own Qh (Zy X G Qi) qk_BadTable_NoDeed
     ·exact .own Qk (Zy X G Qj) qk_BadTable_NoRow
     ·exact .own Qe (Zy X G Qf) qk_BadTable_BadTable
     ·exact .blt "ValueError" (ZB X G qz_ValueError) (by decide +kernel) (by decide) qk_BadTable_ValueError)⟩,
     fI_BadTable,_,fi_BadTable,ti_BadTable,λP base=>zlZ (k:=0) (F:=⟨⟨_,_,_,_,_,_,_,_,_,rfl,lI_BadTable,cI_BadTable⟩,kI_BadTable⟩) zgz rfl (by decide) (by decide) rfl rfl (Zy X G Qb) ⟨b1_CopyError,b2_CopyError,b3_CopyError⟩ xn (λenv=>rfl),.all (us2 λ_ _=>rfl)⟩
   |n+1,e=>exact absurd (Z3.mp e).1 (by show ¬(n+1<1);omega)
 obtain⟨_,_,E,_,_⟩:=D33;subst E;exact⟨_,λs v=>.of_eq rfl,λbase _ _=>zop T trivial 12 32 _ rfl⟩
theorem walk{l:VL}{q:ZH}{loose:List Str}{XP:(Str->Option Value)->Heap->Prop}{YP:World->Heap->Prop}{d:DefRec}{K:Params->Z8}(hn:l.most=some 63)(hdf:d.params.defaults=[])
  (hY:∀(w:World) (h:Heap),YP w h->(K w.params).In h)
  (F:∀(w:World) (mg:Str->Option Value) (fa:Addr) (h:Heap),(K w.params).In h->h.Ns ZQ mg->mg d.name=some (.ref fa) →
   ∃fd:FuncData,(∀(s:Shared) (u:Value),Vz s fd ⟨[u],[]⟩ [("_law_script",u)])/\∀base:Heap,(K w.params).In base->base.Ns ZQ mg->FnOk l.prog w (K w.params) mg base CX0 25 fa fd ["_law_script"] (spF (K w.params) 1 (zaf P 12 32))):
  PySem.W.WalkO q loose XP YP l.row.toRowW d [] (λf vs=>PySem.call f vs):=
 L2.walk_of (n:=63) (k:=25) (x:="_law_script") (CX:=λ_=>CX0) (sp:=λw=>spF (K w.params) 1 (zaf P 12 32)) hn (by decide) hdf ⟨rfl,by decide,by decide⟩ hY F
  (λ_ _ a ns hl _ hS=>zjE hS (zlL hl)) λ_ _ _ _ _ z=>z
end K02
open PySem PySem.W PyProof.Rows
inductive PySem.W.Fast:Prop|tw14881315313878954765|tw1621490343467196171|tw7410922355153415951|tw17361673055412555467|tw16367604708338033677|tw18102052627086944270|tw2955303795968311124|tw8466936320934285565|tw763177574084817791|tw107388610222908873|tw2768310721337682103|tw12688244596364876648|tw8699718337101310158|tw14316172548015055411|tw15753880568653759598|tw3576661011139237059|tw2412444695891046591|tw2783797778489025053|tw12263282263612956644|tw4509455537523754757|tw9010607378865958758|tw7107157027624923605|tw13222160221969537172|tw12641779537076817632|tw5229232989523013999|tw11676342969840251548|tw17338606720106032314|tw9200411781658961704|tw10151370873221077780|tw9952968859329607060|tw7481270934711529310|tw12256893664556704124|tw1953464791782270733|tw8729495770393473619|tw2111521424707018881|tw8568624414930915020|tw13822979677265123453|tw585161769768706920|tw7090136009696670139|tw16230354191758356556|tw8061608235986255210|tw2361395386576949751|tw12910148815187095722|tw644357908640523615|tw16749364043783964945|tw719758943625527375|tw18091005865504565030|tw11183046447843872138|tw10698017279670552580|tw12013759201272559896|tw6040223326609692599|tw3818548228075575328|tw15565993570531307173|tw1953765225255050489|tw3926068579538092969|tw9827138731627095995|tw7619834070704931607|tw15577737294430304671|tw6937850984786705293|tw466311777741207749|tw8967158700496143877|tw17189335782288647923|tw17549653985661226413|tw776920617434334811|tw12927916612031149075|tw12981922292823002484|tw9058033069799098986|tw16806088785165181880|tw13113868753684834055|tw13463659465058360650|tw18004076785154660524|tw12523164984471686400|tw111264635849168135|tw744404074653532586|tw18242082963844187801|tw9650698161754241546|tw330196457615520289|tw2764072713750391551|tw9187175506654933000|tw7875292235901437836|tw16534342867034183756|tw4738807496329487717|tw11436196029135433556|tw9709232987103874535|tw10411580150598890091|tw16846056240090749866|tw1884868484072924060|tw3892281684985039316|tw174257221851611274|tw17138837466015074827|tw12578544010089687562|tw7737963459712896550|tw4480194911189332882|tw6670308597492525305|tw2980335284845540527|tw4024381596646108131|tw9245482374422376184|tw17072023949347612021|tw12837257023003920669|tw13788606701990903570|tw8334444855357230099|tw10062748280228401088|tw1054210385364284783|tw13170151866768628813|tw8617920955890800377|tw16909620562098012254|tw5929734152647916809|tw7034575867312028413|tw3808794367071510582|tw12491818778145612960|tw15756928699589875389|tw15025033968570797029|tw14609375563417400244|tw15964132617613301953|tw5316538763842992678|tw5990783488783161460|tw10597025800450231485|tw17051614883710617804|tw7736184100812901375|tw11016116186365054944|tw8981622314587152184|tw2917340229474117091|tw15658499074985831398|tw9068191402698552704|tw8190098006143346902|tw13718600134529980527|tw12805734299893608729|tw2589398345214900055|tw13332436971084382288|tw4959246990231186053|tw9277070158916626971|tw14955518817017352310|tw6182978127124898333|tw14613893284056435811|tw15409564404456262621|tw2293332524648686456|tw386196355512703489|tw8702953158099593716|tw3968327101353061418|tw3689602792119863168|tw12700134718448774191|tw8993546606584557708|tw1414825982735131341|tw8868971339466666847|tw7462945198088635457|tw7773831869485385003|tw9197925192659774111|tw10410302601694456229|tw2823216273925289373|tw13924198723851387071|tw9965269130566225046|tw2923907066598936922|tw5046496325405267597|tw201661052673863247|tw11420752603471310413|tw2630944305554744032|tw2426016072652221634|tw15839269426564828322|tw6849488430690452911|tw17227516385356174090|tw13085719974660982646|tw1001105367063520302|tw5278525466893749325|tw11659604430750523358|tw7767902924688983690|tw6933200699250230402|tw13256636545268438376|tw16537129791757391118|tw17082273809323610948|tw13072919442947060649|tw10578653748345880252|tw6101501431711594090|tw7655822666071732577|tw10948868189676968186|tw17084328285222907088|tw6828675816908256974|tw11341670260770312501|tw9181145669302779102|tw10558799403023287057|tw3406254230910251963|tw5290536616499699636|tw494488772684489999|tw17977173430758862659|tw702193930194858518|tw2054220620746758541|tw17045588030164979754|tw13059314576199373303|tw4275016615540670193|tw15377469120606605497|tw9229050602197316961|tw5725141748461886061|tw4035839279149190284|tw8362232037911377785|tw13292234544017649231|tw17156322387642362914|tw7992455638212958860|tw16175370710966774930|tw3663275331353348476|tw10771275374121095738|tw13278299664811402769|tw6498520663942076219|tw16063328137757215830|tw12205920635880672237|tw10043455873872135961|tw3289035178004621663|tw15027069555172031734|tw11836082299736704448|tw12094219800989450316|tw11267386041489779505|tw18419596483129119960|tw6772227581216034330|tw8778927496931233250|tw12381470303979001538|tw14910332752568221196|tw16875563435408394461|tw2775378659130881310|tw9364190256047859540|tw10095696165899713240|tw12508554680164399374|tw8084181564922365216|tw3782759932940874971|tw17474763116436787666|tw17030215766451734762|tw10562920550384048075|tw10181866820624516441|tw6314847022029882099|tw1065887505362674061|tw6106737972124441621|tw9253618889444585652|tw5835517906247573592|tw16328161567257233023|tw7119271501822167200|tw4588783752549860544|tw4786912640647514016|tw10045614194701793070|tw1911874327818977568|tw17329688515521023514|tw5649081582697134142|tw6772838367735924618|tw14333119661708543109|tw17129051715880875384|tw14164868308588158057|tw3280565905032365539|tw1464928344983150100|tw13776831602360810924|tw660680489791015804|tw16403245501497989935|tw10650823979595202657|tw4889150313210168870|tw213665943416791291|tw1953455737339831360|tw979250497328661316|tw10614045832140985924|tw18076761607190538744|tw10930331966371060004|tw17717765354104888008|tw17760959842725058400|tw6033834775708513899|tw5266677168545977249|tw3230102385956660291|tw17581680458450674771|tw16794148368901809968|tw2708529296861950762|tw9328355961922324871|tw1902331621708273561|tw14560527516507411623|tw13074089082806772056|tw927196278111175148|tw16876148232186007829|tw18271618049064625643|tw994039034451102877|tw3231040141193822192|tw14467082941893783344|tw2895800984487906390|tw15367367431280419035|tw13942623761345898701|tw4624049261870892829|tw15978584248684823563|tw7217773404350921242|tw15948253140071929263|tw8261361755635847510|tw5371916110899075175|tw1015118741156010841|tw4546553683233049491|tw18209778123998023334|tw12415734633541178642|tw4018764293805306709|tw11890403206723039866|tw17309009893448966705|tw1683880451602410451
set_option maxRecDepth 100000 in
set_option maxHeartbeats 0 in
theorem PySem.Challenge.cw_copyclerk_k02_the_first_row_that_is_none_holds : PySem.Challenge.rw_copyclerk_k02_the_first_row_that_is_none.Holds := by
 w_on;o_law;z_head;(case hw=>w_witness2)
 k_fill
 refine IT.toX (λ_=>rfl) (K02.walk (l:=YA) rfl rfl (λw h Y=>Y) ?F)
 case F=>
  intro w mg fa h KX G hmg
  refine' K02.all_mk KX G hmg ?D1 ?D2 ?D3 ?D4 ?D5 ?D6 ?D7 ?D8 ?D9 ?D10 ?D11 ?D12 ?D13 ?D14 ?D15 ?D16 ?D17 ?D18 ?D19 ?D20 ?D21 ?D22 ?D23 ?D24 ?D25 ?D26 ?D27 ?D28 ?D29 ?D30 ?D31 ?D32 ?D33 ?x0 ?y1 ?x1 ?x2 ?y2 ?x3 ?y3 ?x4 ?x5 ?y4 ?x6 ?y5 ?x7 ?y6 ?x8 ?x9 ?x10 ?x11 ?y7 ?x12 ?x13 ?y8 ?y9 ?x14 ?y10 ?x15 ?Qf ?q1_BadTable ?Qa ?tk_BadTable ?kp_BadTable ?no_BadTable ?fi_BadTable ?ti_BadTable ?lI_BadTable ?cI_BadTable ?kI_BadTable ?b1_CopyError ?b2_CopyError ?b3_CopyError ?q4_CopyError ?q5_CopyError ?q6_CopyError ?Qb ?Qg ?Qi ?Qj ?qz_ValueError ?q8_BadTable_CopyError ?qk_BadTable_BadPaper ?qk_BadTable_NoDeed ?qk_BadTable_NoRow ?qk_BadTable_BadTable ?qk_BadTable_ValueError ?qa_BadTable ?qb_BadTable ?qc_BadTable ?qd_BadTable ?qe_BadTable ?qf_BadTable ?z1 ?z2 ?z3 ?z4 ?z5 ?z6 ?z7 ?z8 ?z9 ?z10 ?z11 ?z12 ?z13 ?z14 ?z15 ?z16 ?z17
  (case Qf=>k_is)
  (case Qb=>k_is)
  (case Qg=>k_is)
  (case Qi=>k_is)
  (case Qj=>k_is)
  all_goals(try(apply K02.DI.mk (e:=rfl)<;>k_is))
  (case q1_BadTable=>k_is)
  (case Qa=>(first | k_is | kernel_rfl))
  (case tk_BadTable=>(first | k_is | kernel_rfl))
  (case kp_BadTable=>(first | k_is | kernel_rfl))
  (case no_BadTable=>(first | k_is | kernel_rfl))
  (case fi_BadTable=>(first | k_is | kernel_rfl))
  (case ti_BadTable=>(first | k_is | kernel_rfl))
  (case lI_BadTable=>k_is)
  (case cI_BadTable=>(first | k_is | kernel_rfl))
  (case kI_BadTable=>(first | k_is | kernel_rfl))
  (case b1_CopyError=>(first | k_is | kernel_rfl))
  (case b2_CopyError=>(first | k_is | kernel_rfl))
  (case b3_CopyError=>(first | k_is | kernel_rfl))
  (case q4_CopyError=>k_is)
  (case q5_CopyError=>kernel_rfl)
  (case q6_CopyError=>k_is)
  (case qz_ValueError=>(first | k_is | kernel_rfl))
  (case q8_BadTable_CopyError=>(first | k_is | kernel_rfl))
  (case qk_BadTable_BadPaper=>(first | k_is | kernel_rfl))
  (case qk_BadTable_NoDeed=>(first | k_is | kernel_rfl))
  (case qk_BadTable_NoRow=>(first | k_is | kernel_rfl))
  (case qk_BadTable_BadTable=>(first | k_is | kernel_rfl))
  (case qk_BadTable_ValueError=>(first | k_is | kernel_rfl))
  (case qa_BadTable=>(first | k_is | kernel_rfl))
  (case qb_BadTable=>(first | k_is | kernel_rfl))
  (case qc_BadTable=>(first | k_is | kernel_rfl))
  (case qd_BadTable=>(first | k_is | kernel_rfl))
  (case qe_BadTable=>(first | k_is | kernel_rfl))
  (case qf_BadTable=>(first | k_is | kernel_rfl))
  (case x0=>k_is)
  (case x1=>k_is)
  (case y1=>k_is)
  (case x2=>k_is)
  (case x3=>k_is)
  (case y2=>k_is)
  (case x4=>k_is)
  (case y3=>k_is)
  (case x5=>k_is)
  (case x6=>k_is)
  (case y4=>k_is)
  (case x7=>k_is)
  (case y5=>k_is)
  (case x8=>k_is)
  (case y6=>k_is)
  (case x9=>k_is)
  (case x10=>k_is)
  (case x11=>k_is)
  (case x12=>k_is)
  (case y7=>k_is)
  (case x13=>k_is)
  (case x14=>k_is)
  (case y9=>k_is)
  (case y8=>k_is)
  (case x15=>k_is)
  (case y10=>k_is)
  (case z1=>k_is)
  (case z2=>k_is)
  (case z3=>k_is)
  (case z4=>k_is)
  (case z5=>k_is)
  (case z6=>k_is)
  (case z7=>k_is)
  (case z8=>k_is)
  (case z9=>k_is)
  (case z10=>k_is)
  (case z11=>k_is)
  (case z12=>k_is)
  (case z13=>k_is)
  (case z14=>k_is)
  (case z15=>k_is)
  (case z16=>k_is)
  (case z17=>k_is)
